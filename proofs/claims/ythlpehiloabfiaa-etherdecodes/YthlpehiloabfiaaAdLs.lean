/- Contract of Source, where it answers an address. -/
import Derived.Test.YthlpehiloabfiaaAdLa
import Derived.Deep.RegionHeld3
namespace Go.Proofs.Ythlpehiloabfiaa.Ad
open Go.RowKit Go.Proofs.PitotAddr

set_option maxHeartbeats 2000000 in
theorem source_ok (n p : Nat) (w : World) (h1 : n ≤ 4095) (h2 : p ≤ 1) :
    Calls Try.prog 19 #[.agg #[.int .i64 n, .int .i64 p]] w fun e w' => e = .returned (.tuple #[.agg #[.int .u8 2, .int .u8 0, .int .u8 0, .int .u8 (hi n).toNat, .int .u8 (lo n).toNat, .int .u8 (lo (32 * (p + 1))).toNat], .int .i64 0]) ∧ Below w.heap.size w w' := by
  have h3 := fun w => isHost_any n w
  rw [decide_eq_true (by omega)] at h3
  have H1 := Lib.hid h3; clear h3
  have hn : n < 65536 := by omega
  have : p = 0 ∨ p = 1 := by omega
  clear h2
  rcases this with rfl | rfl
  · show Calls Try.prog 19 #[.agg #[.int .i64 n, .int .i64 0]] w fun e w' => e = .returned (.tuple #[.agg #[.int .u8 2, .int .u8 0, .int .u8 0, .int .u8 (hi n).toNat, .int .u8 (lo n).toNat, .int .u8 32], .int .i64 0]) ∧ Below w.heap.size w w'
    go_enter Try.func19, Try.ntmps19
    go_wp2_with (first
        | (go_at_call 43; (with_reducible refine (H1.out _).mono ?_); rintro e w1 ⟨rfl, rfl⟩))
    go_region_held3 (fun w' => w'.cell? ⟨w.heap.size, 0, none⟩ = some (.int .i64 n) ∧ w'.cell? ⟨w.heap.size, 1, none⟩ = some (.int .i64 0)) (exact ⟨by simp, by simp⟩) (first
        | (go_at_call 41; (with_reducible refine (high_any n _ hn).mono ?_); rintro e w1 ⟨rfl, rfl⟩)
        | (go_at_call 42; (with_reducible refine (low_any n _ hn).mono ?_); rintro e w1 ⟨rfl, rfl⟩))
    all_goals
        go_wp2
        go_returns
        exact ⟨rfl, (below_new (below_new (Below.refl _ _) _) _).drew⟩
  · show Calls Try.prog 19 #[.agg #[.int .i64 n, .int .i64 1]] w fun e w' => e = .returned (.tuple #[.agg #[.int .u8 2, .int .u8 0, .int .u8 0, .int .u8 (hi n).toNat, .int .u8 (lo n).toNat, .int .u8 64], .int .i64 0]) ∧ Below w.heap.size w w'
    go_enter Try.func19, Try.ntmps19
    go_wp2_with (first
        | (go_at_call 43; (with_reducible refine (H1.out _).mono ?_); rintro e w1 ⟨rfl, rfl⟩))
    go_region_held3 (fun w' => w'.cell? ⟨w.heap.size, 0, none⟩ = some (.int .i64 n) ∧ w'.cell? ⟨w.heap.size, 1, none⟩ = some (.int .i64 1)) (exact ⟨by simp, by simp⟩) (first
        | (go_at_call 41; (with_reducible refine (high_any n _ hn).mono ?_); rintro e w1 ⟨rfl, rfl⟩)
        | (go_at_call 42; (with_reducible refine (low_any n _ hn).mono ?_); rintro e w1 ⟨rfl, rfl⟩))
    all_goals
        go_wp2
        go_returns
        exact ⟨rfl, (below_new (below_new (Below.refl _ _) _) _).drew⟩
end Go.Proofs.Ythlpehiloabfiaa.Ad
