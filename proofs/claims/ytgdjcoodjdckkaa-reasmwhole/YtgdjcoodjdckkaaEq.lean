/- Addresses of IP are compared. -/
import Derived.Test.YtgdjcoodjdckkaaWi
namespace Go.Proofs.Ytgdjcoodjdckkaa
open Go.RowKit Go.Proofs.PitotIp

theorem eq4 (n : Nat) (a b c d a' b' c' d' : Int) (w : World) :
    (Go.Op.equalIn (n + 2) 32 (.agg #[.int .u8 a, .int .u8 b, .int .u8 c, .int .u8 d]) (.agg #[.int .u8 a', .int .u8 b', .int .u8 c', .int .u8 d'])).run Try.prog w =
      .ok (a == a' && b == b' && c == c' && d == d') w := by
  obtain ⟨i, hi, hz0, hz1, hz2⟩ := info_parts (show (Try.prog.info? 5).map (fun i => (i.zero, i.size, i.bytes)) = some (some (.int .u8 0), 1, 1) by kernel_rfl)
  have hc : Try.prog.cellsOf 5 = 1 := by kernel_rfl
  rw [run_equalIn_array w (n + 1) _ _ Try.underlying32 hi, hc]
  have hE : ∀ (x y : Int) (w : World), (Go.Op.equalIn (n + 1) 5 (.int .u8 x) (.int .u8 y)).run Try.prog w = .ok (x == y) w := fun x y w => run_equalIn_int w n 5 .u8 .u8 x y Try.underlying5
  simp [Go.Op.eqItems, List.range, List.range.loop, part, hE]
  by_cases h1 : a = a' <;> simp [h1]
  by_cases h2 : b = b' <;> simp [h2]
  by_cases h3 : c = c' <;> simp [h3]
  by_cases h4 : d = d' <;> simp [h4]

theorem same9 (q : Q4) (w : World) : (Go.Op.equalIn 9999 32 (.agg #[.int .u8 q.a.toNat, .int .u8 q.b.toNat, .int .u8 q.c.toNat, .int .u8 q.d.toNat]) (.agg #[.int .u8 q.a.toNat, .int .u8 q.b.toNat, .int .u8 q.c.toNat, .int .u8 q.d.toNat])).run Try.prog w = .ok true w := by
  rw [eq4 9997]; simp
theorem zero9 (w : World) : (Go.Op.equalIn 9999 32 (.agg #[.int .u8 0, .int .u8 0, .int .u8 0, .int .u8 0]) (.agg #[.int .u8 0, .int .u8 0, .int .u8 0, .int .u8 0])).run Try.prog w = .ok true w := by
  rw [eq4 9997]; rfl
theorem zero10 (w : World) : (Go.Op.equalIn 10000 32 (.agg #[.int .u8 0, .int .u8 0, .int .u8 0, .int .u8 0]) (.agg #[.int .u8 0, .int .u8 0, .int .u8 0, .int .u8 0])).run Try.prog w = .ok true w := by
  rw [eq4 9998]; rfl
end Go.Proofs.Ytgdjcoodjdckkaa
