/- For every two numbers the law AddrLays answers true: Link, Source, Part and Group answer as the document's do. No conditions. -/
import Derived.Test.YtechdnkkchhaaaaRows
import Derived.Test.YtechdnkkchhaaaaAw
import Derived.Test.YtechdnkkchhaaaaLs
import Derived.WalkKit
import Derived.ProofKit
import Derived.OpenShut
import Derived.ShutString
import Derived.ChangeOld
import Derived.Below
namespace Go.Proofs.Ytechdnkkchhaaaa
open Go.ChangeShapes Go.WideShapes Go.ChangeAt Go.RowKit
open Go.ChangeMaps (open_string shut_string)
set_option linter.unusedVariables false

theorem addrLays_own : ownKnob Try.prog.godebug = none := by kernel_rfl
theorem addrLays_laid : laidOutB Try.prog = true := by kernel_rfl

open Go.Proofs.PitotAddr in
theorem link_both (v : Int) : ∃ (m : M6) (k : Int) (s : ByteArray),
    (∀ w, Calls Try.prog 10 #[.int .i64 v] w fun e w' => e = .returned (.tuple #[mac m.a m.b m.c m.d m.e m.f, .int .i64 k]) ∧ Below w.heap.size w w') ∧
    (∀ w, Calls Try.prog 11 #[.int .i64 v] w fun e w' => e = .returned (.tuple #[.string s, .int .i64 k]) ∧ Below w.heap.size w w') ∧
    (∀ w, Calls Try.prog 12 #[mac m.a m.b m.c m.d m.e m.f, .int .i64 k, .string s, .int .i64 k] w fun e w' => e = .returned (.bool true) ∧ Below w.heap.size w w') := by
  by_cases h : 1 ≤ v ∧ v ≤ 65535
  · obtain ⟨n, rfl⟩ := Int.eq_ofNat_of_zero_le (show 0 ≤ v by omega)
    exact ⟨⟨3, 0, 0, 0, hi n, lo n⟩, 0, ⟨#[3, 0, 0, 0, hi n, lo n]⟩, fun w => link_ok n w (by omega) (by omega), fun w => refLink_ok n w (by omega) (by omega), fun w => same_ok _ _ _ _ _ _ w⟩
  · exact ⟨⟨0, 0, 0, 0, 0, 0⟩, 1, ⟨#[]⟩, fun w => link_bad v w h, fun w => (refLink_bad v w h).mono fun _ _ ⟨h1, h2⟩ => ⟨h1, h2 ▸ Below.refl _ _⟩, fun w => same_bad 1 _ w (by omega)⟩

open Go.Proofs.PitotAddr in
theorem source_both (v p : Int) : ∃ (m : M6) (k : Int) (s : ByteArray),
    (∀ w, Calls Try.prog 13 #[.agg #[.int .i64 v, .int .i64 p]] w fun e w' => e = .returned (.tuple #[mac m.a m.b m.c m.d m.e m.f, .int .i64 k]) ∧ Below w.heap.size w w') ∧
    (∀ w, Calls Try.prog 14 #[.int .i64 v, .int .i64 p] w fun e w' => e = .returned (.tuple #[.string s, .int .i64 k]) ∧ Below w.heap.size w w') ∧
    (∀ w, Calls Try.prog 12 #[mac m.a m.b m.c m.d m.e m.f, .int .i64 k, .string s, .int .i64 k] w fun e w' => e = .returned (.bool true) ∧ Below w.heap.size w w') := by
  by_cases h : 0 ≤ v ∧ v ≤ 4095 ∧ 0 ≤ p ∧ p ≤ 1
  · obtain ⟨n, rfl⟩ := Int.eq_ofNat_of_zero_le (show 0 ≤ v by omega)
    obtain ⟨p, rfl⟩ := Int.eq_ofNat_of_zero_le (show 0 ≤ p by omega)
    exact ⟨⟨2, 0, 0, hi n, lo n, lo (32 * (p + 1))⟩, 0, ⟨#[2, 0, 0, hi n, lo n, lo (32 * (p + 1))]⟩, fun w => source_ok n p w (by omega) (by omega), fun w => refSource_ok n p w (by omega) (by omega), fun w => same_ok _ _ _ _ _ _ w⟩
  · exact ⟨⟨0, 0, 0, 0, 0, 0⟩, 1, ⟨#[]⟩, fun w => source_bad v p w h, fun w => (refSource_bad v p w h).mono fun _ _ ⟨h1, h2⟩ => ⟨h1, h2 ▸ Below.refl _ _⟩, fun w => same_bad 1 _ w (by omega)⟩

open Go.Proofs.PitotAddr in
theorem part_both (v p : Int) : ∃ (a b c d : UInt8) (k : Int) (s : ByteArray),
    (∀ w, Calls Try.prog 15 #[.int .i64 v, .int .i64 p] w fun e w' => e = .returned (.tuple #[ip a b c d, .int .i64 k]) ∧ Below w.heap.size w w') ∧
    (∀ w, Calls Try.prog 16 #[.int .i64 v, .int .i64 p] w fun e w' => e = .returned (.tuple #[.string s, .int .i64 k]) ∧ Below w.heap.size w w') ∧
    (k ≠ 0 ∨ k = 0 ∧ s = ⟨#[a, b, c, d]⟩) := by
  by_cases h : 0 ≤ v ∧ v ≤ 4095 ∧ 0 ≤ p ∧ p ≤ 255
  · obtain ⟨n, rfl⟩ := Int.eq_ofNat_of_zero_le (show 0 ≤ v by omega)
    obtain ⟨p, rfl⟩ := Int.eq_ofNat_of_zero_le (show 0 ≤ p by omega)
    have hp : (p : Int) = ((lo p).toNat : Int) := by rw [lo_nat]; omega
    refine ⟨10, hi n, lo n, lo p, 0, ⟨#[10, hi n, lo n, lo p]⟩, fun w => ?_, fun w => refPart_ok n p w (by omega) (by omega), .inr ⟨rfl, rfl⟩⟩
    have := part_ok n p w (by omega) (by omega)
    refine this.mono fun _ _ ⟨h1, h2⟩ => ⟨?_, h2⟩
    rw [h1, hp]
    rfl
  · exact ⟨0, 0, 0, 0, 1, ⟨#[]⟩, fun w => part_bad v p w h, fun w => (refPart_bad v p w h).mono fun _ _ ⟨h1, h2⟩ => ⟨h1, h2 ▸ Below.refl _ _⟩, .inl (by omega)⟩

open Go.Proofs.PitotAddr in
theorem group_both (v : Int) : ∃ (a b c d : UInt8) (k : Int) (s : ByteArray),
    (∀ w, Calls Try.prog 17 #[.int .i64 v] w fun e w' => e = .returned (.tuple #[ip a b c d, .int .i64 k]) ∧ Below w.heap.size w w') ∧
    (∀ w, Calls Try.prog 18 #[.int .i64 v] w fun e w' => e = .returned (.tuple #[.string s, .int .i64 k]) ∧ Below w.heap.size w w') ∧
    (k ≠ 0 ∨ k = 0 ∧ s = ⟨#[a, b, c, d]⟩) := by
  by_cases h : 1 ≤ v ∧ v ≤ 65535
  · obtain ⟨n, rfl⟩ := Int.eq_ofNat_of_zero_le (show 0 ≤ v by omega)
    exact ⟨224, 224, hi n, lo n, 0, ⟨#[224, 224, hi n, lo n]⟩, fun w => group_ok n w (by omega) (by omega), fun w => refGroup_ok n w (by omega) (by omega), .inr ⟨rfl, rfl⟩⟩
  · exact ⟨0, 0, 0, 0, 1, ⟨#[]⟩, fun w => group_bad v w h, fun w => (refGroup_bad v w h).mono fun _ _ ⟨h1, h2⟩ => ⟨h1, h2 ▸ Below.refl _ _⟩, .inl (by omega)⟩

theorem bstep {w w1 w2 : World} (h : Below w.heap.size w w1) (g : Below w1.heap.size w1 w2) : Below w.heap.size w w2 := h.trans (g.mono h.size)
theorem bset6 {w w4 : World} {g : Nat} (h : Below w.heap.size w w4) (hg : w.heap.size ≤ g) (u0 u1 u2 u3 u4 u5 : Value) : Below w.heap.size w ((((((w4.setCell ⟨g, 0, none⟩ u0).setCell ⟨g, 1, none⟩ u1).setCell ⟨g, 2, none⟩ u2).setCell ⟨g, 3, none⟩ u3).setCell ⟨g, 4, none⟩ u4).setCell ⟨g, 5, none⟩ u5) :=
  (((((h.setCell hg u0).setCell hg u1).setCell hg u2).setCell hg u3).setCell hg u4).setCell hg u5

theorem lies_set6 {w : World} {g : Nat} {t : TypeId} {x0 x1 x2 x3 x4 x5 : Value} (h : w.heap[g]? = some (.cells #[x0, x1, x2, x3, x4, x5] t)) (u0 u1 u2 u3 u4 u5 : Value) :
    ((((((w.setCell ⟨g, 0, none⟩ u0).setCell ⟨g, 1, none⟩ u1).setCell ⟨g, 2, none⟩ u2).setCell ⟨g, 3, none⟩ u3).setCell ⟨g, 4, none⟩ u4).setCell ⟨g, 5, none⟩ u5).heap[g]? = some (.cells #[u0, u1, u2, u3, u4, u5] t) := by
  have ls : ∀ {w : World} {cs : Array Value} (i : Nat) (u : Value), w.heap[g]? = some (.cells cs t) → (w.setCell ⟨g, i, none⟩ u).heap[g]? = some (.cells (cs.setIfInBounds i u) t) := by
    intro w cs i u h
    simp [World.setCell, Array.getElem?_modify, h]
  exact ls 5 u5 (ls 4 u4 (ls 3 u3 (ls 2 u2 (ls 1 u1 (ls 0 u0 h)))))

open Go.Proofs.PitotAddr in
set_option maxRecDepth 100000 in
set_option maxHeartbeats 8000000 in
theorem addrLays_walk (a : Int) (_ha : (Lit.int .i64 a).wf = true) (b : Int) (_hb : (Lit.int .i64 b).wf = true) (w : World) :
    Calls Try.prog 3 #[.int .i64 a, .int .i64 b] w fun e w' => e = .returned (.bool true) ∧ Below w.heap.size w w' := by
  clear _ha _hb
  obtain ⟨⟨m0, m1, m2, m3, m4, m5⟩, k1, s1, h10, h11, h12⟩ := link_both a
  obtain ⟨⟨n0, n1, n2, n3, n4, n5⟩, k2, s2, h13, h14, h12b⟩ := source_both a b
  obtain ⟨p0, p1, p2, p3, k3, s3, h15, h16, hp⟩ := part_both a b
  obtain ⟨q0, q1, q2, q3, k4, s4, h17, h18, hq⟩ := group_both a
  have H10 := Lib.hid h10; clear h10
  have H11 := Lib.hid h11; clear h11
  have H12 := Lib.hid h12; clear h12
  have H13 := Lib.hid h13; clear h13
  have H14 := Lib.hid h14; clear h14
  have H12b := Lib.hid h12b; clear h12b
  have H15 := Lib.hid h15; clear h15
  have H16 := Lib.hid h16; clear h16
  have H17 := Lib.hid h17; clear h17
  have H18 := Lib.hid h18; clear h18
  have H19 := Lib.hid (fun w => short_any p0 p1 p2 p3 w)
  have H19b := Lib.hid (fun w => short_any q0 q1 q2 q3 w)
  obtain ⟨T3, HT3⟩ : ∃ T : ByteArray, Hid (T = ⟨#[p0, p1, p2, p3]⟩) := ⟨_, rfl⟩
  obtain ⟨T4, HT4⟩ : ∃ T : ByteArray, Hid (T = ⟨#[q0, q1, q2, q3]⟩) := ⟨_, rfl⟩
  rw [← HT3.out] at H19 hp
  rw [← HT4.out] at H19b hq
  rcases hp with hp | ⟨rfl, rfl⟩ <;> rcases hq with hq | ⟨rfl, rfl⟩
  all_goals
    try (have hp1 : (k3 == 0) = false := by simp [hp])
    try (have hp2 : (k3 != 0) = true := by simp [hp])
    try (have hq1 : (k4 == 0) = false := by simp [hq])
    try (have hq2 : (k4 != 0) = true := by simp [hq])
    go_enter Try.func3, Try.ntmps3
    go_wp2_with (first
      | (go_at_call 10; (with_reducible refine (H10.out _).mono ?_); rintro e w1 ⟨rfl, hb1⟩)
      | (go_at_call 11; (with_reducible refine (H11.out _).mono ?_); rintro e w2 ⟨rfl, hb2⟩
         (have L2 := lies_below (heap_alloc_new w1 _) hb2 (by simp)); (obtain ⟨k0, k1, k2, k3, k4, k5⟩ := six L2); (have L2 := Lib.hid L2)
         (have B2 := Lib.hid (bstep (below_new hb1 _) hb2)); clear hb2)
      | (go_at_call 12; (with_reducible refine (H12.out _).mono ?_); rintro e w3 ⟨rfl, hb3⟩
         (have L3 := Lib.hid (lies_below L2.out hb3 (lies_lt L2.out))); (have B3 := Lib.hid (bstep B2.out hb3)); clear hb3)
      | (go_at_call 13; (with_reducible refine (H13.out _).mono ?_); rintro e w4 ⟨rfl, hb4⟩
         (have L4 := lies_below L3.out hb4 (lies_lt L3.out)); (obtain ⟨j0, j1, j2, j3, j4, j5⟩ := six L4)
         (have f0 := lies_frozen L4 0); (have f1 := lies_frozen L4 1); (have f2 := lies_frozen L4 2); (have f3 := lies_frozen L4 3); (have f4 := lies_frozen L4 4); (have f5 := lies_frozen L4 5)
         (have L4 := Lib.hid L4); (have B4 := Lib.hid (bstep B3.out hb4)); clear hb4)
      | (go_at_call 14; (with_reducible refine (H14.out _).mono ?_); rintro e w5 ⟨rfl, hb5⟩
         (have L5 := lies_below (lies_set6 L4.out _ _ _ _ _ _) hb5 (lies_lt (lies_set6 L4.out _ _ _ _ _ _))); (obtain ⟨i0, i1, i2, i3, i4, i5⟩ := six L5)
         (have B5 := Lib.hid (bstep (bset6 B4.out hb1.size _ _ _ _ _ _) hb5)); clear L5 hb5)
      | (go_at_call 12; (with_reducible refine (H12b.out _).mono ?_); rintro e w6 ⟨rfl, hb6⟩
         (have B6 := Lib.hid (bstep B5.out hb6)); clear hb6)
      | (go_at_call 15; (with_reducible refine (H15.out _).mono ?_); rintro e w7 ⟨rfl, hb7⟩
         (have B7 := Lib.hid (bstep B6.out hb7)); clear hb7)
      | (go_at_call 16; (with_reducible refine (H16.out _).mono ?_); rintro e w8 ⟨rfl, hb8⟩
         (have L8 := Lib.hid (lies_below (heap_alloc_new w7 _) hb8 (by simp))); (have B8 := Lib.hid (bstep (below_new B7.out _) hb8)); clear hb8)
      | (go_at_call 17; (with_reducible refine (H17.out _).mono ?_); rintro e w9 ⟨rfl, hb9⟩
         (have L9 := Lib.hid (lies_below L8.out hb9 (lies_lt L8.out))); (have B9 := Lib.hid (bstep B8.out hb9)); clear hb9)
      | (go_at_call 18; (with_reducible refine (H18.out _).mono ?_); rintro e w10 ⟨rfl, hb10⟩
         (have L10 := lies_below (lies_alloc L9.out _) hb10 (lies_lt (lies_alloc L9.out _))); (obtain ⟨r0, r1, r2, r3⟩ := four L10)
         (have M10 := lies_below (heap_alloc_new w9 _) hb10 (by simp)); (obtain ⟨t0, t1, t2, t3⟩ := four M10)
         (have M10 := Lib.hid M10); (have B10 := Lib.hid (bstep (below_new B9.out _) hb10)); clear hb10 L10)
      | (go_at_call 19; (with_reducible refine (H19.out _).mono ?_); rintro e w11 ⟨rfl, hb11⟩
         (have M11 := lies_below M10.out hb11 (lies_lt M10.out)); (obtain ⟨v0, v1, v2, v3⟩ := four M11)
         (have B10 := Lib.hid (bstep B10.out hb11)); clear M11 hb11)
      | (go_at_call 19; (with_reducible refine (H19b.out _).mono ?_); rintro e w12 ⟨rfl, hb12⟩
         (have B10 := Lib.hid (bstep B10.out hb12)); clear hb12)
      | (go_at_call 20; (with_reducible refine (awake_any _).mono ?_); rintro e w13 ⟨rfl, hb13⟩
         (have B10 := Lib.hid (bstep B10.out hb13)); clear hb13))
    go_returns
    exact ⟨rfl, B10.out⟩

set_option maxRecDepth 100000 in
theorem addrLays_lifted (os : Os) (started : os.Started) (H : Type) (enc : TypeId × Value → H) :
    ReturnsInHanded {} Try.checked os 3 .any (Rows.addrLaysSpec.pre6 enc Try.prog Try.f3 Rows.addrLaysRow.domain false) (Rows.addrLaysSpec.post enc Try.prog Try.f3 false true false false) := by
  refine returnsInHanded_of_change (C := Try.checked) addrLays_own started (by kernel_rfl) Try.func3
    (ChangeSpec.witness6 (enc := enc) (C := Try.checked) false ⟨#[], #[.int .i64 0, .int .i64 0], []⟩ 8 (by kernel_rfl) (by kernel_rfl) (by kernel_rfl) (by kernel_rfl)) ?_
  intro W base args ds gs before hval0 hW hcnd _
  have hval : ∀ (j : Nat) t v, Try.f3.params[j]? = some t → args[j]? = some v → Value.okWide Try.prog W .any base t v := hval0
  have hW' := hW
  obtain ⟨p, q, hA0, hV, rfl, hfz, hnd⟩ := hW
  have hA : DataW.TrodAll enc Try.prog W 0 (fun _ => true) true Try.f3.params.toList args.toList ds p := hA0
  rw [Try.params3] at hA hval
  obtain ⟨v0, vs0, d0, ds0, p0, q0, hargs, rfl, rfl, h0, r0⟩ := trodAll_cons hA
  obtain ⟨v1, vs1, d1, ds1, p1, q1, rfl, rfl, rfl, h1, r1⟩ := trodAll_cons r0
  obtain ⟨rfl, rfl, rfl⟩ := trodAll_nil r1
  obtain rfl : args = #[v0, v1] := by cases args; simp_all
  obtain ⟨rfl, rfl⟩ := trodVars_none hV
  obtain ⟨a0, rfl, rfl, rfl, w0⟩ := open_int Try.underlying3 (hval 0 3 v0 rfl rfl) h0
  obtain ⟨a1, rfl, rfl, rfl, w1⟩ := open_int Try.underlying3 (hval 1 3 v1 rfl rfl) h1
  clear hA0 hval0
  have hwalk := addrLays_walk a0 w0 a1 w1 W

  refine hwalk.mono fun e W' ⟨he, bel⟩ => ?_
  subst he
  exact ⟨_, rfl, _, _, _, [], _, [], hW', trodAll_mk1 (shut_bool Try.underlying4 _), (trodAll_cons_mk (shut_int Try.underlying3 w0) (trodAll_cons_mk (shut_int Try.underlying3 w1) trodAll_mk0)), rfl, bel.frame _, fun h => by cases h⟩

theorem addrLays_over : Rows.addrLaysRow.holds Try.pinned (OpenSpec.ofChange Rows.addrLaysSpec) :=
  OpenClaim.holds_of_wide 3 Try.f3 rfl rfl rfl rfl rfl rfl rfl ⟨rfl, rfl, rfl, rfl, rfl⟩ rfl rfl rfl rfl rfl (by kernel_rfl) Try.func3 (by kernel_rfl)
    (of_decide_eq_true (by kernel_rfl)) (by unfold Func.isWrapper; first | (rw [if_pos (by decide +kernel)]; kernel_rfl) | (rw [if_neg (by decide +kernel)]; exact ⟨rfl, rfl⟩))
    (fun os started H enc _ => addrLays_lifted os started H enc)

theorem addrLays_holds : Rows.AddrLaysSaid := addrLays_over
#print axioms addrLays_holds
end Go.Proofs.Ytechdnkkchhaaaa
