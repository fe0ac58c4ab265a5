/- Contracts of both Bounds. -/
import Derived.Test.YthednonjgaedlaaRe
set_option maxRecDepth 100000
set_option linter.unusedVariables false
namespace Go.Proofs.Ythednonjgaedlaa
open Go.RowKit

/-- Which BAGs and ticks may be. -/
def Fine (x y : Int) : Prop := 0 ≤ x ∧ x ≤ 7 ∧ 0 ≤ y ∧ y ≤ 1125899906842624
/-- How many frames go in so many ticks at most. -/
def bound (b t : Nat) : Nat := (t + gap b - 1) / gap b

set_option maxHeartbeats 2000000 in
theorem bound_yes (b t : Nat) (hb : b ≤ 7) (ht : t ≤ 1125899906842624) (w : World) : Calls Try.prog 20 #[.int .i64 b, .int .i64 t] w fun e w' => e = .returned (.tuple #[.int .i64 (bound b t : Nat), .int .i64 0]) ∧ w = w' := by
  have HM := fun w => Lib.hid (may_yes b hb w)
  have HP := fun w => Lib.hid (period_any b hb w)
  have hg := gap_le hb
  have hg1 := gap_ge b
  have h1 : ¬ (t : Int) < 0 := by omega
  have h2 : ¬ (1125899906842624 : Int) < t := by omega
  unfold bound
  generalize gap b = G at HP hg hg1 ⊢
  have i1 : IntKind.i64.wrap ((t : Int) + G) = (t : Int) + G := by rw [IntKind.wrap_i64]; omega
  have i2 : IntKind.i64.wrap ((t : Int) + G - 1) = ((t + G - 1 : Nat) : Int) := by rw [IntKind.wrap_i64]; omega
  have i3 : wrap64 (((t + G - 1 : Nat) : Int) / (G : Int)) = (((t + G - 1) / G : Nat) : Int) := by
    rw [← Int.natCast_ediv]
    have : (t + G - 1) / G ≤ t + G - 1 := Nat.div_le_self _ _
    generalize (t + G - 1) / G = q at this
    unfold wrap64
    omega
  have i4 : (G : Int) ≠ 0 := by omega
  clear hb
  go_enter Try.func20, Try.ntmps20
  go_wp2_with (first
    | (go_at_call 22; refine (HM _).out.mono ?_; rintro e w1 ⟨rfl, rfl⟩)
    | (go_at_call 25; refine (HP _).out.mono ?_; rintro e w1 ⟨rfl, rfl⟩))
  go_returns
  refine ⟨?_, rfl⟩
  show Ending.returned (.tuple #[.int .i64 (wrap64 _), .int .i64 0]) = _
  rw [i3]

set_option maxHeartbeats 2000000 in
theorem bound_no (x y : Int) (h : ¬ Fine x y) (w : World) : Calls Try.prog 20 #[.int .i64 x, .int .i64 y] w fun e w' => e = .returned (.tuple #[.int .i64 0, .int .i64 1]) ∧ w = w' := by
  by_cases hx : 0 ≤ x ∧ x ≤ 7
  · obtain ⟨b, rfl⟩ := Int.eq_ofNat_of_zero_le hx.1
    have HM := fun w => Lib.hid (may_yes b (by omega) w)
    have hy : y < 0 ∨ 1125899906842624 < y := by unfold Fine at h; omega
    clear h hx
    rcases hy with hy | hy
    · go_enter Try.func20, Try.ntmps20
      go_wp2_with (go_at_call 22; refine (HM _).out.mono ?_; rintro e w1 ⟨rfl, rfl⟩)
      go_returns
      exact ⟨rfl, rfl⟩
    · have h1 : ¬ y < 0 := by omega
      have h2 : 0 ≤ y := by omega
      go_enter Try.func20, Try.ntmps20
      go_wp2_with (go_at_call 22; refine (HM _).out.mono ?_; rintro e w1 ⟨rfl, rfl⟩)
      go_returns
      exact ⟨rfl, rfl⟩
  · have HM := fun w => Lib.hid (may_no x (by omega) w)
    clear h hx
    go_enter Try.func20, Try.ntmps20
    go_wp2_with (go_at_call 22; refine (HM _).out.mono ?_; rintro e w1 ⟨rfl, rfl⟩)
    go_returns
    exact ⟨rfl, rfl⟩

set_option maxHeartbeats 2000000 in
theorem rbound_no (x y : Int) (h : ¬ Fine x y) (w : World) : Calls Try.prog 21 #[.int .i64 x, .int .i64 y] w fun e w' => e = .returned (.tuple #[.int .i64 0, .int .i64 1]) ∧ w = w' := by
  by_cases h1 : x < 0
  · clear h
    go_enter Try.func21, Try.ntmps21
    go_wp2
    go_returns
    exact ⟨rfl, rfl⟩
  have h1' : 0 ≤ x := by omega
  by_cases h2 : 7 < x
  · clear h
    go_enter Try.func21, Try.ntmps21
    go_wp2
    go_returns
    exact ⟨rfl, rfl⟩
  have h2' : x ≤ 7 := by omega
  by_cases h3 : y < 0
  · clear h
    go_enter Try.func21, Try.ntmps21
    go_wp2
    go_returns
    exact ⟨rfl, rfl⟩
  have h3' : 0 ≤ y := by omega
  have h4 : 1125899906842624 < y := by unfold Fine at h; omega
  clear h
  go_enter Try.func21, Try.ntmps21
  go_wp2
  go_returns
  exact ⟨rfl, rfl⟩

theorem up_div (t G : Nat) (hG : 0 < G) : (t + G - 1) / G = if 0 < t % G then t / G + 1 else t / G := by
  have h1 := Nat.div_add_mod t G
  have h2 := Nat.mod_lt t hG
  generalize t / G = q at h1 ⊢
  generalize t % G = m at h1 h2 ⊢
  obtain ⟨y, hy⟩ : ∃ y, G * q = y := ⟨_, rfl⟩
  split
  · rename_i h
    have e : t + G - 1 = G * (q + 1) + (m - 1) := by rw [Nat.mul_add, Nat.mul_one, hy]; omega
    rw [e, Nat.mul_add_div hG, Nat.div_eq_of_lt (by omega)]
  · rename_i h
    have e : t + G - 1 = G * q + (G - 1) := by rw [hy]; omega
    rw [e, Nat.mul_add_div hG, Nat.div_eq_of_lt (by omega)]
    omega

set_option maxHeartbeats 2000000 in
theorem rbound_yes (b t : Nat) (hb : b ≤ 7) (ht : t ≤ 1125899906842624) (w : World) : Calls Try.prog 21 #[.int .i64 b, .int .i64 t] w fun e w' => e = .returned (.tuple #[.int .i64 (bound b t : Nat), .int .i64 0]) ∧ w = w' := by
  have HP := fun w => Lib.hid (rperiod_any b hb w)
  have hg1 := gap_pos b
  have h1 : ¬ (t : Int) < 0 := by omega
  have h2 : ¬ (1125899906842624 : Int) < t := by omega
  have h3 : ¬ (b : Int) < 0 := by omega
  have h4 : ¬ (7 : Int) < b := by omega
  have HU := Lib.hid (up_div t (gap b) hg1)
  unfold bound
  generalize gap b = G at HP hg1 HU ⊢
  have hq : t / G ≤ t := Nat.div_le_self _ _
  have i3 : wrap64 ((t : Int) / (G : Int)) = ((t / G : Nat) : Int) := by
    rw [← Int.natCast_ediv]
    generalize t / G = q at hq
    unfold wrap64
    omega
  have i4 : (G : Int) ≠ 0 := by omega
  have i5 : (t : Int) % (G : Int) = ((t % G : Nat) : Int) := by simp
  have i6 : IntKind.i64.wrap (wrap64 ((t : Int) / (G : Int)) + 1) = ((t / G + 1 : Nat) : Int) := by
    rw [i3]
    generalize t / G = q at hq
    rw [IntKind.wrap_i64]
    omega
  rw [HU.out]
  clear hb hq HU
  by_cases h5 : 0 < t % G
  · rw [if_pos h5]
    have h6 : (0 : Int) < (t : Int) % (G : Int) := by rw [i5]; omega
    clear i3 i5 h5
    generalize t / G + 1 = Q1 at i6 ⊢
    go_enter Try.func21, Try.ntmps21
    go_wp2_with (go_at_call 23; refine (HP _).out.mono ?_; rintro e w1 ⟨rfl, rfl⟩)
    go_returns
    exact ⟨rfl, rfl⟩
  · rw [if_neg h5]
    have h6 : ¬ (0 : Int) < (t : Int) % (G : Int) := by rw [i5]; omega
    clear i6 i5 h5
    go_enter Try.func21, Try.ntmps21
    go_wp2_with (go_at_call 23; refine (HP _).out.mono ?_; rintro e w1 ⟨rfl, rfl⟩)
    go_returns
    refine ⟨?_, rfl⟩
    show Ending.returned (.tuple #[.int .i64 (wrap64 _), .int .i64 0]) = _
    rw [i3]
end Go.Proofs.Ythednonjgaedlaa
