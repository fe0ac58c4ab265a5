/- Contracts of within, and of the three lists of widths. -/
import Derived.Test.YtiedfdnjnjohdaaBiWb
import Derived.Test.YtiedfdnjnjohdaaIpMath
namespace Go.Proofs.Ytiedfdnjnjohdaa
open Go.RowKit Go.Proofs.PitotIp
open Go.Proofs.Ytiedfdnjnjohdaa.Bi (IntsAt lies_lt lies_cell lies_frozen lies_alloc)

/-- All numbers are from 0 to the greatest one. -/
def wi (most : Int) (xs : List Int) : Bool := xs.all fun x => decide (0 ≤ x ∧ x ≤ most)

theorem ret_bool {a b : Bool} (h : a = b) : Ending.returned (.bool a) = .returned (.bool b) := by rw [h]

theorem wi_cons {most : Int} {xs : List Int} {k : Nat} (hk : k < xs.length) : wi most (xs.drop k) = (decide (0 ≤ xs[k] ∧ xs[k] ≤ most) && wi most (xs.drop (k + 1))) := by
  rw [List.drop_eq_getElem_cons hk]; rfl

set_option maxHeartbeats 400000 in
theorem within_any (most : Int) (A : Option Addr) (cap : Nat) (xs : List Int) (w : World) (hx : IntsAt w A xs) (hl : xs.length ≤ 1000000) (n : Nat) (hn : n = xs.length) :
    Calls Try.prog 29 #[.int .i64 most, .slice A n cap] w fun e w' => e = .returned (.bool (wi most xs)) ∧ w = w' := by
  obtain ⟨R, HR⟩ : ∃ R, Hid (R = wi most xs) := ⟨_, rfl⟩
  rw [← HR.out]
  have Hn := Lib.hid hn
  rw [← hn] at hl
  clear hn
  go_enter Try.func29, Try.ntmps29
  go_wp2
  go_loop [6, 9] (fun _ v9 => ∃ (k : Nat), k ≤ n ∧ v9 = .int .i64 k ∧ Hid (wi most (xs.drop k) = R)) (fun _ v9 => n - (intOf v9).toNat)
  case atStart => exact ⟨0, Nat.zero_le _, rfl, by show _ = _; rw [HR.out]; rfl⟩
  case round =>
    obtain ⟨k, hk, rfl, ht⟩ := hrel
    by_cases hlt : k < n
    · have hlt' : k < xs.length := by rw [← Hn.out]; exact hlt
      obtain ⟨b, off, rfl, _, hc⟩ := hx.get hlt'
      have hcs := wi_cons (most := most) hlt'
      obtain ⟨x, Hx⟩ : ∃ x, Hid (x = xs[k]) := ⟨xs[k], rfl⟩
      rw [← Hx.out] at hc hcs
      have HC := Lib.hid hcs
      clear hcs
      by_cases hg1 : x < 0
      · have HB : Hid (false = R) := by
          show _ = _
          rw [← ht.out, HC.out, decide_eq_false (by omega)]; rfl
        go_wp2
        go_returns
        exact ⟨ret_bool HB.out, rfl⟩
      · by_cases hg2 : most < x
        · have HB : Hid (false = R) := by
            show _ = _
            rw [← ht.out, HC.out, decide_eq_false (by omega)]; rfl
          go_wp2
          go_returns
          exact ⟨ret_bool HB.out, rfl⟩
        · have HB : Hid (wi most (xs.drop (k + 1)) = R) := by
            show _ = _
            rw [← ht.out, HC.out, decide_eq_true (by omega)]; rfl
          go_wp2
          go_round
          case rel => exact ⟨k + 1, by omega, by go_num, HB⟩
          case measure => simp [intOf]; omega
    · have HB : Hid (true = R) := by
        show _ = _
        rw [← ht.out, List.drop_of_length_le (by rw [← Hn.out]; omega)]; rfl
      go_wp2
      go_returns
      exact ⟨ret_bool HB.out, rfl⟩

/-- A list of numbers that was made. -/
theorem ints_lie {w : World} {xs : List Int} {k : Nat} (hk : w.heap[k]? = some (.cells (xs.map fun x => Value.int .i64 x).toArray 3)) : IntsAt w (some ⟨k, 0, none⟩) xs := by
  intro _
  refine ⟨k, 0, rfl, lies_lt hk, fun i hi => ?_⟩
  rw [lies_cell hk]
  simp [hi]

set_option maxHeartbeats 400000 in
theorem sizeWide_any (w : World) : Calls Try.prog 36 #[] w fun e w' => e = .returned (.slice (some ⟨w.heap.size, 0, none⟩) 3 3) ∧ w' = w.alloc (.cells #[.int .i64 8, .int .i64 8, .int .i64 16] 3) := by
  go_enter Try.func36, Try.ntmps36
  go_wp2
  go_returns
  exact ⟨rfl, rfl⟩

set_option maxHeartbeats 400000 in
theorem placeWide_any (w : World) : Calls Try.prog 37 #[] w fun e w' => e = .returned (.slice (some ⟨w.heap.size, 0, none⟩) 5 5) ∧ w' = w.alloc (.cells #[.int .i64 16, .int .i64 1, .int .i64 1, .int .i64 1, .int .i64 13] 3) := by
  go_enter Try.func37, Try.ntmps37
  go_wp2
  go_returns
  exact ⟨rfl, rfl⟩

set_option maxHeartbeats 400000 in
theorem lifeWide_any (w : World) : Calls Try.prog 38 #[] w fun e w' => e = .returned (.slice (some ⟨w.heap.size, 0, none⟩) 3 3) ∧ w' = w.alloc (.cells #[.int .i64 8, .int .i64 8, .int .i64 16] 3) := by
  go_enter Try.func38, Try.ntmps38
  go_wp2
  go_returns
  exact ⟨rfl, rfl⟩

/-- A packet, as it is handed on; in memory; as the document has it; a head. -/
abbrev pk (id : Int) (m : Bool) (off ttl pr : Int) (a b : Q4) (s : ByteArray) : Value :=
  .agg #[.int .i64 id, .bool m, .int .i64 off, .int .i64 ttl, .int .i64 pr, .int .u8 a.a.toNat, .int .u8 a.b.toNat, .int .u8 a.c.toNat, .int .u8 a.d.toNat, .int .u8 b.a.toNat, .int .u8 b.b.toNat, .int .u8 b.c.toNat, .int .u8 b.d.toNat, .string s]
abbrev pkC (id : Int) (m : Bool) (off ttl pr : Int) (a b : Q4) (s : ByteArray) : Obj :=
  .cells #[.int .i64 id, .bool m, .int .i64 off, .int .i64 ttl, .int .i64 pr, .int .u8 a.a.toNat, .int .u8 a.b.toNat, .int .u8 a.c.toNat, .int .u8 a.d.toNat, .int .u8 b.a.toNat, .int .u8 b.b.toNat, .int .u8 b.c.toNat, .int .u8 b.d.toNat, .string s] 31
abbrev rp (id : Int) (m : Bool) (off ttl pr : Int) (a b s : ByteArray) : Value :=
  .agg #[.int .i64 id, .bool m, .int .i64 off, .int .i64 ttl, .int .i64 pr, .string a, .string b, .string s]
abbrev rpC (id : Int) (m : Bool) (off ttl pr : Int) (a b s : ByteArray) : Obj :=
  .cells #[.int .i64 id, .bool m, .int .i64 off, .int .i64 ttl, .int .i64 pr, .string a, .string b, .string s] 39
abbrev hd (k sv f g all sum : Int) : Value := .agg #[.int .i64 k, .int .i64 sv, .int .i64 f, .int .i64 g, .int .i64 all, .int .i64 sum]
abbrev hdC (k sv f g all sum : Int) : Obj := .cells #[.int .i64 k, .int .i64 sv, .int .i64 f, .int .i64 g, .int .i64 all, .int .i64 sum] 61

theorem cells25 : Try.prog.cellsOf 31 = 14 := by kernel_rfl
theorem cells32 : Try.prog.cellsOf 39 = 8 := by kernel_rfl
theorem cells48 : Try.prog.cellsOf 61 = 6 := by kernel_rfl
end Go.Proofs.Ytiedfdnjnjohdaa
