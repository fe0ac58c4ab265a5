/- For every six bytes and every string the law AddrTexts answers true: Print and Parse answer as the document's do. No conditions. -/
import Derived.Test.YtechdnkkchhaaaaRows
import Derived.Test.YtechdnkkchhaaaaAw
import Derived.Test.YtechdnkkchhaaaaAo
import Derived.Test.YtechdnkkchhaaaaPz
import Derived.Deep.Cut
import Derived.Deep.RegionHeld3
import Derived.WalkKit
import Derived.ProofKit
import Derived.OpenShut
import Derived.ShutString
import Derived.ChangeOld
import Derived.Below
namespace Go.Proofs.Ytechdnkkchhaaaa
open Go.ChangeShapes Go.WideShapes Go.ChangeAt Go.RowKit
open Go.ChangeMaps (open_string shut_string)
set_option linter.unusedVariables false

theorem addrTexts_own : ownKnob Try.prog.godebug = none := by kernel_rfl
theorem addrTexts_laid : laidOutB Try.prog = true := by kernel_rfl

open Go.Proofs.PitotAddr in
theorem parse_both (s : ByteArray) (hs : s.size ≤ 100) : ∃ (m0 m1 m2 m3 m4 m5 : UInt8) (k : Int) (t : ByteArray),
    (∀ w, Calls Try.prog 28 #[.string s] w fun e w' => e = .returned (.tuple #[mac m0 m1 m2 m3 m4 m5, .int .i64 k]) ∧ Below w.heap.size w w') ∧
    (∀ w, Calls Try.prog 29 #[.string s] w fun e w' => Hid (e = .returned (.tuple #[.string t, .int .i64 k])) ∧ Below w.heap.size w w') ∧
    (∀ w, Calls Try.prog 12 #[mac m0 m1 m2 m3 m4 m5, .int .i64 k, .string t, .int .i64 k] w fun e w' => e = .returned (.bool true) ∧ Below w.heap.size w w') := by
  by_cases h : s.size = 17
  · have hl : s.data.toList.length = 17 := by simpa using h
    have hi := print_iff s.data.toList hl
    by_cases hB : pk (pl s.data.toList) 6 = s.data.toList
    · have h1 := fun w => parse_long s w h _ _ _ _ _ _ rfl true (by simp [hB])
      have h2 := fun w => refParse_long s w h true (by rw [← hi]; simp [hB])
      simp only [if_true] at h1 h2
      exact ⟨_, _, _, _, _, _, _, _, h1, h2, fun w => same_ok _ _ _ _ _ _ w⟩
    · have h1 := fun w => parse_long s w h _ _ _ _ _ _ rfl false (by simp [hB])
      have h2 := fun w => refParse_long s w h false (by rw [← hi]; simp [hB])
      simp only [Bool.false_eq_true, if_false] at h1 h2
      exact ⟨_, _, _, _, _, _, _, _, h1, h2, fun w => same_bad 14 _ w (by omega)⟩
  · exact ⟨_, _, _, _, _, _, _, _, fun w => parse_short s w h, fun w => (refParse_short s w h hs).mono fun _ _ ⟨h1, h2⟩ => ⟨h1, h2 ▸ Below.refl _ _⟩, fun w => same_bad 14 _ w (by omega)⟩

theorem bstep' {w w1 w2 : World} (h : Below w.heap.size w w1) (g : Below w1.heap.size w1 w2) : Below w.heap.size w w2 := h.trans (g.mono h.size)

open Go.Proofs.PitotAddr in
set_option maxRecDepth 100000 in
set_option maxHeartbeats 8000000 in
theorem addrTexts_walk (a b c d e f : UInt8) (s : ByteArray) (_hs : s.size ≤ maxLen) (w : World) :
    Calls Try.prog 5 #[mac a b c d e f, .string s] w fun e w' => e = .returned (.bool true) ∧ Below w.heap.size w w' := by
  unfold maxLen at _hs
  by_cases hb : 100 < s.size
  · go_enter Try.func5, Try.ntmps5
    go_wp2_with (go_at_call 20; refine (awake_any _).mono ?_; rintro e w1 ⟨rfl, hb1⟩)
    go_returns
    exact ⟨rfl, ((Below.refl _ _).alloc (Nat.le_refl _) _).trans (hb1.mono (by simp))⟩
  · obtain ⟨m0, m1, m2, m3, m4, m5, k, t, h28, h29, h12⟩ := parse_both s (by omega)
    have H28 := Lib.hid h28; clear h28
    have H29 := Lib.hid h29; clear h29
    have H12 := Lib.hid h12; clear h12
    obtain ⟨T, HT⟩ : ∃ T : ByteArray, Hid (T = ⟨#[a, b, c, d, e, f]⟩) := ⟨_, rfl⟩
    obtain ⟨U, HU⟩ : ∃ U : ByteArray, Hid (U = ⟨(pk [a, b, c, d, e, f] 6).toArray⟩) := ⟨_, rfl⟩
    have h23 := fun w => text_any a b c d e f w
    have h30 := fun w => print_any a b c d e f w
    have h31 := fun w => refPrint_any a b c d e f w
    rw [← HT.out] at h23 h31
    rw [← HU.out] at h30 h31
    have H23 := Lib.hid h23; clear h23
    have H30 := Lib.hid h30; clear h30
    have H31 := Lib.hid h31; clear h31
    go_enter Try.func5, Try.ntmps5
    go_upto_region 5 with (first
      | (go_at_call 28; (with_reducible refine (H28.out _).mono ?_); rintro r w1 ⟨rfl, hb1⟩
         (have LM := Lib.hid (lies_alloc (lies_below (heap_alloc_new w (.cells #[.int .u8 a.toNat, .int .u8 b.toNat, .int .u8 c.toNat, .int .u8 d.toNat, .int .u8 e.toNat, .int .u8 f.toNat] 23)) hb1 (by simp)) (.cells #[.int .u8 m0.toNat, .int .u8 m1.toNat, .int .u8 m2.toNat, .int .u8 m3.toNat, .int .u8 m4.toNat, .int .u8 m5.toNat] 23)))
         (have LX := Lib.hid (heap_alloc_new w1 (.cells #[.int .u8 m0.toNat, .int .u8 m1.toNat, .int .u8 m2.toNat, .int .u8 m3.toNat, .int .u8 m4.toNat, .int .u8 m5.toNat] 23)))
         (have BX := Lib.hid (below_new (bstep' (below_new (Below.refl _ w) _) hb1) (.cells #[.int .u8 m0.toNat, .int .u8 m1.toNat, .int .u8 m2.toNat, .int .u8 m3.toNat, .int .u8 m4.toNat, .int .u8 m5.toNat] 23))); clear hb1)
      | (go_at_call 29; (with_reducible refine (H29.out _).mono ?_); rintro r w2 ⟨he, hb2⟩; (obtain rfl := he.out)
         (have LM := Lib.hid (lies_below LM.out hb2 (lies_lt LM.out))); (have LX := Lib.hid (lies_below LX.out hb2 (lies_lt LX.out)))
         (have BX := Lib.hid (bstep' BX.out hb2)); (obtain ⟨i0, i1, i2, i3, i4, i5⟩ := six LM.out); (obtain ⟨j0, j1, j2, j3, j4, j5⟩ := six LX.out); clear hb2 he))
    go_region_held3 (fun w' => w'.cell? ⟨w.heap.size, 0, none⟩ = some (.int .u8 a.toNat) ∧ w'.cell? ⟨w.heap.size, 1, none⟩ = some (.int .u8 b.toNat) ∧ w'.cell? ⟨w.heap.size, 2, none⟩ = some (.int .u8 c.toNat) ∧ w'.cell? ⟨w.heap.size, 3, none⟩ = some (.int .u8 d.toNat) ∧ w'.cell? ⟨w.heap.size, 4, none⟩ = some (.int .u8 e.toNat) ∧ w'.cell? ⟨w.heap.size, 5, none⟩ = some (.int .u8 f.toNat) ∧ w'.cell? ⟨w1.heap.size, 0, none⟩ = some (.int .u8 m0.toNat) ∧ w'.cell? ⟨w1.heap.size, 1, none⟩ = some (.int .u8 m1.toNat) ∧ w'.cell? ⟨w1.heap.size, 2, none⟩ = some (.int .u8 m2.toNat) ∧ w'.cell? ⟨w1.heap.size, 3, none⟩ = some (.int .u8 m3.toNat) ∧ w'.cell? ⟨w1.heap.size, 4, none⟩ = some (.int .u8 m4.toNat) ∧ w'.cell? ⟨w1.heap.size, 5, none⟩ = some (.int .u8 m5.toNat))
      (exact ⟨by assumption, by assumption, by assumption, by assumption, by assumption, by assumption, by assumption, by assumption, by assumption, by assumption, by assumption, by assumption⟩)
      (first
        | (go_at_call 30; (with_reducible refine (H30.out _).mono ?_); rintro r w3 ⟨he, hb⟩; (obtain rfl := he.out)
           (have LM := Lib.hid (lies_below (w := w2.drew) LM.out hb (lies_lt LM.out))); (have LX := Lib.hid (lies_below (w := w2.drew) LX.out hb (lies_lt LX.out)))
           (have BX := Lib.hid (bstep' BX.out.drew hb)); (obtain ⟨i0, i1, i2, i3, i4, i5⟩ := six LM.out); (obtain ⟨j0, j1, j2, j3, j4, j5⟩ := six LX.out); clear hb he)
        | (go_at_call 23; (with_reducible refine (H23.out _).mono ?_); rintro r w4 ⟨rfl, hb⟩
           (have LM := Lib.hid (lies_below LM.out hb (lies_lt LM.out))); (have LX := Lib.hid (lies_below LX.out hb (lies_lt LX.out)))
           (have BX := Lib.hid (bstep' BX.out hb)); (obtain ⟨i0, i1, i2, i3, i4, i5⟩ := six LM.out); (obtain ⟨j0, j1, j2, j3, j4, j5⟩ := six LX.out); clear hb)
        | (go_at_call 31; (with_reducible refine (H31.out _).mono ?_); rintro r w5 ⟨he, hb⟩; (obtain rfl := he.out)
           (have LM := Lib.hid (lies_below LM.out hb (lies_lt LM.out))); (have LX := Lib.hid (lies_below LX.out hb (lies_lt LX.out)))
           (have BX := Lib.hid (bstep' BX.out hb)); (obtain ⟨i0, i1, i2, i3, i4, i5⟩ := six LM.out); (obtain ⟨j0, j1, j2, j3, j4, j5⟩ := six LX.out); clear hb he)
        | (go_at_call 12; (with_reducible refine (H12.out _).mono ?_); rintro r w6 ⟨rfl, hb⟩
           (have LM := Lib.hid (lies_below LM.out hb (lies_lt LM.out))); (have LX := Lib.hid (lies_below LX.out hb (lies_lt LX.out)))
           (have BX := Lib.hid (bstep' BX.out hb)); (obtain ⟨i0, i1, i2, i3, i4, i5⟩ := six LM.out); (obtain ⟨j0, j1, j2, j3, j4, j5⟩ := six LX.out); clear hb)
        | (go_at_call 20; (with_reducible refine (awake_any _).mono ?_); rintro r w7 ⟨rfl, hb⟩
           (have LM := Lib.hid (lies_below LM.out hb (lies_lt LM.out))); (have LX := Lib.hid (lies_below LX.out hb (lies_lt LX.out)))
           (have BX := Lib.hid (bstep' BX.out hb)); (obtain ⟨i0, i1, i2, i3, i4, i5⟩ := six LM.out); (obtain ⟨j0, j1, j2, j3, j4, j5⟩ := six LX.out); clear hb))
    all_goals
      go_wp2
      go_returns
      exact ⟨rfl, BX.out⟩

set_option maxRecDepth 100000 in
theorem addrTexts_lifted (os : Os) (started : os.Started) (H : Type) (enc : TypeId × Value → H) :
    ReturnsInHanded {} Try.checked os 5 .any (Rows.addrTextsSpec.pre6 enc Try.prog Try.f5 Rows.addrTextsRow.domain false) (Rows.addrTextsSpec.post enc Try.prog Try.f5 false true false false) := by
  refine returnsInHanded_of_change (C := Try.checked) addrTexts_own started (by kernel_rfl) Try.func5
    (ChangeSpec.witness6 (enc := enc) (C := Try.checked) false ⟨#[], #[.agg #[.int .u8 0, .int .u8 0, .int .u8 0, .int .u8 0, .int .u8 0, .int .u8 0], .string ByteArray.empty], []⟩ 8 (by kernel_rfl) (by kernel_rfl) (by kernel_rfl) (by kernel_rfl)) ?_
  intro W base args ds gs before hval0 hW hcnd _
  have hval : ∀ (j : Nat) t v, Try.f5.params[j]? = some t → args[j]? = some v → Value.okWide Try.prog W .any base t v := hval0
  have hW' := hW
  obtain ⟨p, q, hA0, hV, rfl, hfz, hnd⟩ := hW
  have hA : DataW.TrodAll enc Try.prog W 0 (fun _ => true) true Try.f5.params.toList args.toList ds p := hA0
  rw [Try.params5] at hA hval
  obtain ⟨v0, vs0, d0, ds0, p0, q0, hargs, rfl, rfl, h0, r0⟩ := trodAll_cons hA
  obtain ⟨v1, vs1, d1, ds1, p1, q1, rfl, rfl, rfl, h1, r1⟩ := trodAll_cons r0
  obtain ⟨rfl, rfl, rfl⟩ := trodAll_nil r1
  obtain rfl : args = #[v0, v1] := by cases args; simp_all
  obtain ⟨rfl, rfl⟩ := trodVars_none hV
  have k0 := h0
  have lt0 : ∀ x ∈ p0, x.block < W.heap.size := by obtain ⟨m, hm⟩ := k0; exact DataW.trod_lt m _ _ _ hm
  obtain ⟨fu0, hf0⟩ := h0
  obtain ⟨a0, b0, c0, d0, e0, f0, rfl⟩ := mac_open (hval 0 23 v0 rfl rfl) hf0
  obtain ⟨a1, rfl, rfl, rfl, w1⟩ := open_string Try.underlying9 (hval 1 9 v1 rfl rfl) h1
  clear hA0 hval0
  have hwalk := addrTexts_walk a0 b0 c0 d0 e0 f0 a1 w1 W

  refine hwalk.mono fun e W' ⟨he, bel⟩ => ?_
  subst he
  exact ⟨_, rfl, _, _, _, [], _, [], hW', trodAll_mk1 (shut_bool Try.underlying4 _), (trodAll_cons_mk (Below.trod addrTexts_laid (by kernel_rfl) (of_decide_eq_true (by kernel_rfl)) k0 bel lt0) (trodAll_cons_mk (shut_string Try.underlying9 w1) trodAll_mk0)), rfl, bel.frame _, fun h => by cases h⟩

theorem addrTexts_over : Rows.addrTextsRow.holds Try.pinned (OpenSpec.ofChange Rows.addrTextsSpec) :=
  OpenClaim.holds_of_wide 5 Try.f5 rfl rfl rfl rfl rfl rfl rfl ⟨rfl, rfl, rfl, rfl, rfl⟩ rfl rfl rfl rfl rfl (by kernel_rfl) Try.func5 (by kernel_rfl)
    (of_decide_eq_true (by kernel_rfl)) (by unfold Func.isWrapper; first | (rw [if_pos (by decide +kernel)]; kernel_rfl) | (rw [if_neg (by decide +kernel)]; exact ⟨rfl, rfl⟩))
    (fun os started H enc _ => addrTexts_lifted os started H enc)

theorem addrTexts_holds : Rows.AddrTextsSaid := addrTexts_over
#print axioms addrTexts_holds
end Go.Proofs.Ytechdnkkchhaaaa
