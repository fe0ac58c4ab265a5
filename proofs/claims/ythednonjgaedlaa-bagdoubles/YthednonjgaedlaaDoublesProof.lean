/- For every two numbers the law BagDoubles answers true: each BAG's period is twice that of the one ahead, and twice as many ticks let no more than twice as many frames go. No conditions. -/
import Derived.Test.YthednonjgaedlaaRows
import Derived.Test.YthednonjgaedlaaAw
import Derived.WalkKit
import Derived.Handy
import Derived.Deep.RegionHeld3
import Derived.Deep.CutRange
import Derived.StillTailTactics
import Derived.ProofKit
import Derived.OpenShut
import Derived.ShutString
import Derived.ChangeOld
import Derived.Below
namespace Go.Proofs.Ythednonjgaedlaa
open Go.ChangeShapes Go.WideShapes Go.ChangeAt Go.RowKit
open Go.ChangeMaps (open_string shut_string)
set_option linter.unusedVariables false

theorem bagDoubles_own : ownKnob Try.prog.godebug = none := by kernel_rfl
theorem bagDoubles_laid : laidOutB Try.prog = true := by kernel_rfl

theorem bound_twice (b t : Nat) : bound b (2 * t) ≤ 2 * bound b t := by
  unfold bound
  have hG := gap_pos b
  generalize gap b = G at hG ⊢
  rw [up_div _ _ hG, up_div _ _ hG]
  have h1 := Nat.div_add_mod t G
  have h2 := Nat.mod_lt t hG
  have h3 := Nat.div_add_mod (2 * t) G
  have h4 := Nat.mod_lt (2 * t) hG
  generalize t / G = q at h1 ⊢
  generalize t % G = m at h1 h2 ⊢
  generalize 2 * t / G = r at h3 ⊢
  generalize 2 * t % G = k at h3 h4 ⊢
  by_cases hm : 0 < m
  · rw [if_pos hm]
    have key : G * r + k < G * (2 * q + 2) := by rw [Nat.mul_add, Nat.mul_comm 2 q, ← Nat.mul_assoc]; omega
    have : r < 2 * q + 2 := by
      rcases Nat.lt_or_ge r (2 * q + 2) with h | h
      · exact h
      · have := Nat.mul_le_mul_left G h; omega
    split <;> omega
  · rw [if_neg hm]
    have hm0 : m = 0 := by omega
    subst hm0
    have key : G * r + k = G * (2 * q) := by rw [Nat.mul_comm 2 q, ← Nat.mul_assoc]; omega
    have hr : r = 2 * q := by
      rcases Nat.lt_trichotomy r (2 * q) with h | h | h
      · have := Nat.mul_le_mul_left G (show r + 1 ≤ 2 * q from h); rw [Nat.mul_add] at this; omega
      · exact h
      · have := Nat.mul_le_mul_left G (show 2 * q + 1 ≤ r from h); rw [Nat.mul_add] at this; omega
    subst hr
    have : k = 0 := by omega
    subst this
    simp
theorem bound_next (b t : Nat) : bound (b + 1) (2 * t) = bound b t := by
  unfold bound
  have hG := gap_pos b
  rw [gap_succ]
  generalize gap b = G at hG ⊢
  rw [up_div _ _ hG, up_div _ _ (by omega), Nat.mul_div_mul_left _ _ (by omega), Nat.mul_mod_mul_left]
  split <;> split <;> omega
set_option maxRecDepth 100000 in
set_option maxHeartbeats 4000000 in
theorem bagDoubles_walk (x : Int) (hx : (Lit.int .i64 x).wf = true) (y : Int) (_hy : (Lit.int .i64 y).wf = true) (w : World) :
    Calls Try.prog 8 #[.int .i64 x, .int .i64 y] w fun e w' => e = .returned (.bool true) ∧ Below w.heap.size w w' := by
  have HA := Lib.hid awake_any
  have hxb := bounds_i64 hx
  clear hx _hy
  by_cases hf : 0 ≤ x ∧ x ≤ 6 ∧ 0 ≤ y ∧ y ≤ 562949953421312
  · obtain ⟨h1, h2, h3, h4⟩ := hf
    obtain ⟨b, rfl⟩ := Int.eq_ofNat_of_zero_le h1
    obtain ⟨t, rfl⟩ := Int.eq_ofNat_of_zero_le h3
    have hb : b ≤ 6 := by omega
    have ht : t ≤ 562949953421312 := by omega
    have i1 : IntKind.i64.wrap ((b : Int) + 1) = ((b + 1 : Nat) : Int) := by rw [IntKind.wrap_i64]; omega
    have i2 : IntKind.i64.wrap (2 * (t : Int)) = ((2 * t : Nat) : Int) := by rw [IntKind.wrap_i64]; omega
    have L0 : Hid ((w.alloc (S.new b).obj).heap[w.heap.size]? = some (S.new b).obj) := heap_alloc_new _ _
    have B0 : Hid (Below w.heap.size w (w.alloc (S.new b).obj)) := (Below.refl _ w).alloc (Nat.le_refl _) _
    have HN := Lib.hid (new_yes b (by omega) w)
    generalize hW1 : w.alloc (S.new b).obj = W1 at HN L0 B0
    have L1 : Hid ((W1.alloc (S.new (b + 1)).obj).heap[W1.heap.size]? = some (S.new (b + 1)).obj) := heap_alloc_new _ _
    have L2 : Hid ((W1.alloc (S.new (b + 1)).obj).heap[w.heap.size]? = some (S.new b).obj) := lies_alloc L0.out _
    have B1 : Hid (Below w.heap.size w (W1.alloc (S.new (b + 1)).obj)) := B0.out.alloc B0.out.size _
    have HN2 := Lib.hid (new_yes (b + 1) (by omega) W1)
    generalize hW2 : W1.alloc (S.new (b + 1)).obj = W2 at HN2 L1 L2 B1
    clear hW1 hW2 L0 B0
    have HP1 := Lib.hid (perM_any w.heap.size (S.new b) (by show b ≤ 7; omega) W2 L2.out)
    have HP2 := Lib.hid (perM_any W1.heap.size (S.new (b + 1)) (by show b + 1 ≤ 7; omega) W2 L1.out)
    have e0 : (S.new b).b = b := rfl
    have e1 : (S.new (b + 1)).b = b + 1 := rfl
    rw [e0] at HP1
    rw [e1, gap_succ] at HP2
    have hg := gap_le (b := b) (by omega)
    have hg1 := gap_ge b
    have k1 := bound_twice b t
    have k2 := bound_next b t
    have HB1 := fun w => Lib.hid (bound_yes b t (by omega) (by omega) w)
    have HB2 := fun w => Lib.hid (bound_yes b (2 * t) (by omega) (by omega) w)
    have HB3 := fun w => Lib.hid (bound_yes (b + 1) (2 * t) (by omega) (by omega) w)
    rw [k2] at HB3
    have k3 : bound b t ≤ t := by
      unfold bound
      have hG := gap_pos b
      generalize gap b = G at hG
      rw [up_div _ _ hG]
      have h1 := Nat.div_add_mod t G
      have h5 : t / G ≤ G * (t / G) := Nat.le_mul_of_pos_left _ hG
      split <;> omega
    clear e0 e1 k2 L1 L2
    generalize gap b = G at HP1 HP2 hg hg1
    generalize bound b (2 * t) = Y at HB2 k1
    generalize bound b t = X at HB1 HB3 k1 k3
    have i3 : IntKind.i64.wrap ((G : Int) * 2) = ((2 * G : Nat) : Int) := by rw [IntKind.wrap_i64]; omega
    have i4 : IntKind.i64.wrap (2 * (X : Int)) = ((2 * X : Nat) : Int) := by rw [IntKind.wrap_i64]; omega
    have i5 : ¬ ((G : Int) < 12500) := by omega
    have i6 : (Y : Int) ≤ ((2 * X : Nat) : Int) := by omega
    generalize 2 * G = G2 at HP2 i3
    generalize 2 * X = X2 at i4 i6
    generalize 2 * t = T2 at HB2 HB3 i2
    have j1 : ¬ ((b : Int) < 0) := by omega
    have j2 : ¬ (6 < (b : Int)) := by omega
    have j3 : ¬ ((t : Int) < 0) := by omega
    have j4 : ¬ (562949953421312 < (t : Int)) := by omega
    generalize b + 1 = b1 at HN2 HP2 HB3 i1
    clear hg hg1 k1 k3 h1 h2 h3 h4 hxb hb ht
    go_enter Try.func8, Try.ntmps8
    go_wp2_with (first
      | (go_at_call 9; (with_reducible refine HN.out.mono ?_); rintro e w1 ⟨rfl, rfl⟩)
      | (go_at_call 9; (with_reducible refine HN2.out.mono ?_); rintro e w1 ⟨rfl, rfl⟩)
      | (go_at_call 19; (with_reducible refine HP1.out.mono ?_); rintro e w1 ⟨rfl, rfl⟩)
      | (go_at_call 19; (with_reducible refine HP2.out.mono ?_); rintro e w1 ⟨rfl, rfl⟩)
      | (go_at_call 20; (with_reducible refine (HB1 _).out.mono ?_); rintro e w1 ⟨rfl, rfl⟩)
      | (go_at_call 20; (with_reducible refine (HB2 _).out.mono ?_); rintro e w1 ⟨rfl, rfl⟩)
      | (go_at_call 20; (with_reducible refine (HB3 _).out.mono ?_); rintro e w1 ⟨rfl, rfl⟩)
      | (go_at_call 11; (with_reducible refine (HA.out _).mono ?_); rintro e w9 ⟨rfl, hb9⟩))
    go_returns
    exact ⟨rfl, B1.out.trans (hb9.mono B1.out.size)⟩
  · have HN : Hid (∀ (z : Int) (W : World), Calls Try.prog 9 #[.int .i64 z] W fun e w' => (∃ v o, e = .returned (.tuple #[v, .int .i64 o])) ∧ Below W.heap.size W w') := fun z W => by
      by_cases hz : z < 0 ∨ 7 < z
      · exact (new_no z hz W).mono fun e w' ⟨h1, h2⟩ => ⟨⟨_, _, h1⟩, by subst h2; exact Below.refl _ _⟩
      · obtain ⟨b, rfl⟩ := Int.eq_ofNat_of_zero_le (show 0 ≤ z by omega)
        exact (new_yes b (by omega) W).mono fun e w' ⟨h1, h2⟩ => ⟨⟨_, _, h1⟩, by subst h2; exact (Below.refl _ _).alloc (Nat.le_refl _) _⟩
    obtain ⟨z, i1⟩ : ∃ z, IntKind.i64.wrap (x + 1) = z := ⟨_, rfl⟩
    clear hxb
    by_cases c1 : x < 0
    rotate_left
    by_cases c2 : 6 < x
    rotate_left
    by_cases c3 : y < 0
    rotate_left
    have c4 : 562949953421312 < y := by omega
    all_goals
      clear hf
      go_enter Try.func8, Try.ntmps8
      go_wp2_with (first
        | (go_at_call 9; (with_reducible refine (HN.out _ _).mono ?_); rintro e w1 ⟨⟨v1, o1, rfl⟩, hb1⟩; (have g1 := Lib.hid hb1); clear hb1; (have HN2 := HN); clear HN)
        | (go_at_call 9; (with_reducible refine (HN2.out _ _).mono ?_); rintro e w2 ⟨⟨v2, o2, rfl⟩, hb2⟩; (have g2 := Lib.hid hb2); clear hb2)
        | (go_at_call 11; (with_reducible refine (HA.out _).mono ?_); rintro e w9 ⟨rfl, hb9⟩))
      go_returns
      have k2 := g1.out.trans (g2.out.mono g1.out.size)
      exact ⟨rfl, k2.trans (hb9.mono k2.size)⟩


set_option maxRecDepth 100000 in
theorem bagDoubles_lifted (os : Os) (started : os.Started) (H : Type) (enc : TypeId × Value → H) :
    ReturnsInHanded {} Try.checked os 8 .any (Rows.bagDoublesSpec.pre6 enc Try.prog Try.f8 Rows.bagDoublesRow.domain false) (Rows.bagDoublesSpec.post enc Try.prog Try.f8 false true false false) := by
  refine returnsInHanded_of_change (C := Try.checked) bagDoubles_own started (by kernel_rfl) Try.func8
    (ChangeSpec.witness6 (enc := enc) (C := Try.checked) false ⟨#[], #[.int .i64 0, .int .i64 0], []⟩ 8 (by kernel_rfl) (by kernel_rfl) (by kernel_rfl) (by kernel_rfl)) ?_
  intro W base args ds gs before hval0 hW hcnd _
  have hval : ∀ (j : Nat) t v, Try.f8.params[j]? = some t → args[j]? = some v → Value.okWide Try.prog W .any base t v := hval0
  have hW' := hW
  obtain ⟨p, q, hA0, hV, rfl, hfz, hnd⟩ := hW
  have hA : DataW.TrodAll enc Try.prog W 0 (fun _ => true) true Try.f8.params.toList args.toList ds p := hA0
  rw [Try.params8] at hA hval
  obtain ⟨v0, vs0, d0, ds0, p0, q0, hargs, rfl, rfl, h0, r0⟩ := trodAll_cons hA
  obtain ⟨v1, vs1, d1, ds1, p1, q1, rfl, rfl, rfl, h1, r1⟩ := trodAll_cons r0
  obtain ⟨rfl, rfl, rfl⟩ := trodAll_nil r1
  obtain rfl : args = #[v0, v1] := by cases args; simp_all
  obtain ⟨rfl, rfl⟩ := trodVars_none hV
  obtain ⟨a0, rfl, rfl, rfl, w0⟩ := open_int Try.underlying3 (hval 0 3 v0 rfl rfl) h0
  obtain ⟨a1, rfl, rfl, rfl, w1⟩ := open_int Try.underlying3 (hval 1 3 v1 rfl rfl) h1
  clear hA0 hval0
  have hwalk := bagDoubles_walk a0 w0 a1 w1 W

  refine hwalk.mono fun e W' ⟨he, bel⟩ => ?_
  subst he
  exact ⟨_, rfl, _, _, _, [], _, [], hW', trodAll_mk1 (shut_bool Try.underlying4 _), (trodAll_cons_mk (shut_int Try.underlying3 w0) (trodAll_cons_mk (shut_int Try.underlying3 w1) trodAll_mk0)), rfl, bel.frame _, fun h => by cases h⟩

theorem bagDoubles_over : Rows.bagDoublesRow.holds Try.pinned (OpenSpec.ofChange Rows.bagDoublesSpec) :=
  OpenClaim.holds_of_wide 8 Try.f8 rfl rfl rfl rfl rfl rfl rfl ⟨rfl, rfl, rfl, rfl, rfl⟩ rfl rfl rfl rfl rfl (by kernel_rfl) Try.func8 (by kernel_rfl)
    (of_decide_eq_true (by kernel_rfl)) (by unfold Func.isWrapper; first | (rw [if_pos (by decide +kernel)]; kernel_rfl) | (rw [if_neg (by decide +kernel)]; exact ⟨rfl, rfl⟩))
    (fun os started H enc _ => bagDoubles_lifted os started H enc)

theorem bagDoubles_holds : Rows.BagDoublesSaid := bagDoubles_over
#print axioms bagDoubles_holds
end Go.Proofs.Ythednonjgaedlaa
