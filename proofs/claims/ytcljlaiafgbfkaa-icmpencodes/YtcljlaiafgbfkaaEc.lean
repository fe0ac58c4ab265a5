/- Contracts of Encode: an echo's bytes, or why there are none; the chapter's example (awake). -/
import Derived.Test.YtcljlaiafgbfkaaWr
namespace Go.Proofs.Ytcljlaiafgbfkaa
open Go.RowKit Go.Proofs.PitotIcmp
open Go.Proofs.PitotAddr (hi lo)
open Go.Proofs.Ytcljlaiafgbfkaa.Bi (WrAt putStep u8_any u16_any text_any lies_lt lies_cell lies_frozen lies_alloc)

set_option maxHeartbeats 400000 in
theorem isNumber_in (n : Int) (h1 : 0 ≤ n) (h2 : n ≤ 65535) (w : World) : Calls Try.prog 8 #[.int .i64 n] w fun e w' => e = .returned (.bool true) ∧ w = w' := by
  go_enter Try.func8, Try.ntmps8
  go_wp2
  go_returns
  exact ⟨rfl, rfl⟩
set_option maxHeartbeats 400000 in
theorem isNumber_out (n : Int) (h : ¬ (0 ≤ n ∧ n ≤ 65535)) (w : World) : Calls Try.prog 8 #[.int .i64 n] w fun e w' => e = .returned (.bool false) ∧ w = w' := by
  have h' : n < 0 ∨ (0 ≤ n ∧ decide (n ≤ 65535) = false) := by rw [decide_eq_false_iff_not]; omega
  clear h
  rcases h' with h | ⟨h, h2⟩
  all_goals
    go_enter Try.func8, Try.ntmps8
    go_wp2
    go_returns
    first | exact ⟨rfl, rfl⟩ | exact ⟨by show Ending.returned (Value.bool (decide (n ≤ 65535))) = _; rw [h2], rfl⟩

set_option maxRecDepth 100000 in
set_option maxHeartbeats 2000000 in
theorem encode_arg (a : Bool) (i q : Int) (s : ByteArray) (w : World) (h : ¬ ((0 ≤ i ∧ i ≤ 65535) ∧ (0 ≤ q ∧ q ≤ 65535))) :
    Calls Try.prog 5 #[eo a i q s] w fun e w' => e = .returned (.tuple #[.string ⟨#[]⟩, .int .i64 1]) ∧ Below w.heap.size w w' := by
  have k0 : Hid (Below w.heap.size w (w.alloc (eoC a i q s))) := (Below.refl _ w).alloc (Nat.le_refl _) _
  by_cases hi' : 0 ≤ i ∧ i ≤ 65535
  · have H1 := Lib.hid (isNumber_in i hi'.1 hi'.2)
    have H2 := Lib.hid (isNumber_out q fun hq => h ⟨hi', hq⟩)
    clear h hi'
    go_enter Try.func5, Try.ntmps5
    go_wp2_with (first
      | (go_at_call 8; (with_reducible refine (H1.out _).mono ?_); rintro r w1 ⟨rfl, rfl⟩)
      | (go_at_call 8; (with_reducible refine (H2.out _).mono ?_); rintro r w1 ⟨rfl, rfl⟩))
    go_returns
    exact ⟨rfl, k0.out⟩
  · have H1 := Lib.hid (isNumber_out i hi')
    clear h hi'
    go_enter Try.func5, Try.ntmps5
    go_wp2_with (go_at_call 8; (with_reducible refine (H1.out _).mono ?_); rintro r w1 ⟨rfl, rfl⟩)
    go_returns
    exact ⟨rfl, k0.out⟩

set_option maxRecDepth 100000 in
set_option maxHeartbeats 2000000 in
theorem encode_long (a : Bool) (i q : Nat) (s : ByteArray) (w : World) (hi' : i < 65536) (hq : q < 65536) (hs : 64 < s.size) (hm : s.size ≤ 9223372036854775807) :
    Calls Try.prog 5 #[eo a i q s] w fun e w' => e = .returned (.tuple #[.string ⟨#[]⟩, .int .i64 11]) ∧ Below w.heap.size w w' := by
  have H1 := Lib.hid (isNumber_in (i : Int) (by omega) (by omega))
  have H2 := Lib.hid (isNumber_in (q : Int) (by omega) (by omega))
  clear hi' hq
  generalize (i : Int) = ii at H1 ⊢
  generalize (q : Int) = qq at H2 ⊢
  have k0 : Hid (Below w.heap.size w (w.alloc (eoC a ii qq s))) := (Below.refl _ w).alloc (Nat.le_refl _) _
  go_enter Try.func5, Try.ntmps5
  go_wp2_with (first
    | (go_at_call 8; (with_reducible refine (H1.out _).mono ?_); rintro r w1 ⟨rfl, rfl⟩)
    | (go_at_call 8; (with_reducible refine (H2.out _).mono ?_); rintro r w1 ⟨rfl, rfl⟩))
  go_returns
  exact ⟨rfl, k0.out⟩

/-- Its bytes. -/
def outB (a : Bool) (i q : Nat) (s : ByteArray) : ByteArray := ⟨(PitotIcmp.bytes a i q s.data.toList).toArray⟩
theorem outB_list (a : Bool) (i q : Nat) (s : ByteArray) : (outB a i q s).data.toList = PitotIcmp.bytes a i q s.data.toList := by simp [outB]
theorem outB_outS (a : Bool) (i q : Nat) (s : ByteArray) : outS a i q (PitotIcmp.sumOf a i q s.data.toList) s = outB a i q s := rfl

set_option maxRecDepth 100000 in
set_option maxHeartbeats 4000000 in
theorem encode_ok (a : Bool) (i q : Nat) (s : ByteArray) (w : World) (hi' : i < 65536) (hq : q < 65536) (hs : s.size ≤ 64) :
    Calls Try.prog 5 #[eo a i q s] w fun e w' => e = .returned (.tuple #[.string (outB a i q s), .int .i64 0]) ∧ Below w.heap.size w w' := by
  have H1 := Lib.hid (isNumber_in (i : Int) (by omega) (by omega))
  have H2 := Lib.hid (isNumber_in (q : Int) (by omega) (by omega))
  have hS := sumOf_le a i q s.data.toList
  have T3 := sumOf_any a i q s hi' hq (by omega)
  have T4 := write_any a i q (PitotIcmp.sumOf a i q s.data.toList) s hi' hq (by omega) (by omega)
  rw [outB_outS] at T4
  generalize outB a i q s = R at T4 ⊢
  generalize PitotIcmp.sumOf a i q s.data.toList = S at T3 T4
  clear hi' hq hS
  have H3 := Lib.hid T3; have H4 := Lib.hid T4
  clear T3 T4
  generalize (i : Int) = ii at H1 H3 H4 ⊢
  generalize (q : Int) = qq at H2 H3 H4 ⊢
  generalize (S : Int) = SS at H3 H4
  have k0 : Hid (Below w.heap.size w (w.alloc (eoC a ii qq s))) := (Below.refl _ w).alloc (Nat.le_refl _) _
  have L0 : Hid ((w.alloc (eoC a ii qq s)).heap[w.heap.size]? = some (eoC a ii qq s)) := heap_alloc_new w _
  go_enter Try.func5, Try.ntmps5
  go_wp2_with (first
    | (go_at_call 8; (with_reducible refine (H1.out _).mono ?_); rintro r w1 ⟨rfl, rfl⟩)
    | (go_at_call 8; (with_reducible refine (H2.out _).mono ?_); rintro r w1 ⟨rfl, rfl⟩)
    | (go_at_call 9; (with_reducible refine (H3.out _).mono ?_); rintro r w2 ⟨rfl, hb2⟩
       (obtain ⟨c0, c1, c2, c3⟩ := cells4 (lies_below L0.out hb2 (lies_lt L0.out)))
       (have k2 : Hid (Below w.heap.size w w2) := k0.out.trans (hb2.mono k0.out.size))
       clear hb2)
    | (go_at_call 10; (with_reducible refine (H4.out _).mono ?_); rintro r w3 ⟨rfl, hb3⟩))
  go_returns
  exact ⟨rfl, k2.out.trans (hb3.mono k2.out.size)⟩

set_option maxRecDepth 100000 in
set_option maxHeartbeats 1000000 in
theorem awake_any (w : World) : Calls Try.prog 4 #[] w fun e w' => e = .returned (.bool true) ∧ Below w.heap.size w w' := by
  have eB : outB false 0 0 ⟨#[]⟩ = ⟨#[8, 0, 247, 255, 0, 0, 0, 0]⟩ := by
    have : PitotIcmp.bytes false 0 0 [] = [8, 0, 247, 255, 0, 0, 0, 0] := by decide +kernel
    show ByteArray.mk (PitotIcmp.bytes false 0 0 []).toArray = _
    rw [this]
  have H1 : ∀ w, Calls Try.prog 5 #[eo false 0 0 ⟨#[]⟩] w fun e w' => e = .returned (.tuple #[.string ⟨#[8, 0, 247, 255, 0, 0, 0, 0]⟩, .int .i64 0]) ∧ Below w.heap.size w w' := fun w => by
    rw [← eB]; exact encode_ok false 0 0 ⟨#[]⟩ w (by omega) (by omega) (by show (0 : Nat) ≤ _; omega)
  have H1 := Lib.hid H1
  clear eB
  go_enter Try.func4, Try.ntmps4
  go_wp2_with (first
    | (go_at_call 5; (with_reducible refine (H1.out _).mono ?_); rintro e w1 ⟨rfl, hb1⟩))
  go_returns
  exact ⟨rfl, hb1⟩
end Go.Proofs.Ytcljlaiafgbfkaa
