/- For every six bytes the law AddrTells answers true: VL, Of and Whose answer as the document's do. No conditions. -/
import Derived.Test.YtechdnkkchhaaaaRows
import Derived.Test.YtechdnkkchhaaaaAw
import Derived.Test.YtechdnkkchhaaaaOz
import Derived.Test.YtechdnkkchhaaaaWz
import Derived.Test.YtechdnkkchhaaaaAo
import Derived.WalkKit
import Derived.ProofKit
import Derived.OpenShut
import Derived.ShutString
import Derived.ChangeOld
import Derived.Below
namespace Go.Proofs.Ytechdnkkchhaaaa
open Go.ChangeShapes Go.WideShapes Go.ChangeAt Go.RowKit
open Go.ChangeMaps (open_string shut_string)
set_option linter.unusedVariables false

theorem addrTells_own : ownKnob Try.prog.godebug = none := by kernel_rfl
theorem addrTells_laid : laidOutB Try.prog = true := by kernel_rfl

open Go.Proofs.PitotAddr in
theorem vl_both (a b c d e f : UInt8) : ∃ v k : Int,
    (∀ w, Calls Try.prog 21 #[mac a b c d e f] w fun r w' => r = .returned (.tuple #[.int .i64 v, .int .i64 k]) ∧ Below w.heap.size w w') ∧
    (∀ w, Calls Try.prog 22 #[.string ⟨#[a, b, c, d, e, f]⟩] w fun r w' => r = .returned (.tuple #[.int .i64 v, .int .i64 k]) ∧ Below w.heap.size w w') := by
  have h1 := fun w => vl_any a b c d e f w
  have h2 := fun w => refVl_any a b c d e f w
  by_cases h : (M6.mk a b c d e f).isVL = true
  · simp only [h, if_true] at h1 h2
    exact ⟨_, _, h1, h2⟩
  · simp only [h, if_false] at h1 h2
    exact ⟨_, _, h1, h2⟩

open Go.Proofs.PitotAddr in
theorem of_both (a b c d e f : UInt8) : ∃ h n k : Int,
    (∀ w, Calls Try.prog 24 #[mac a b c d e f] w fun r w' => Hid (r = .returned (.tuple #[.agg #[.int .i64 h, .int .i64 n], .int .i64 k])) ∧ Below w.heap.size w w') ∧
    (∀ w, Calls Try.prog 25 #[.string ⟨#[a, b, c, d, e, f]⟩] w fun r w' => Hid (r = .returned (.tuple #[.int .i64 h, .int .i64 n, .int .i64 k])) ∧ Below w.heap.size w w') := by
  have h1 := fun w => of_any a b c d e f w
  have h2 := fun w => refOf_any a b c d e f w
  unfold ofA at h1
  unfold ofR at h2
  by_cases h : (M6.mk a b c d e f).isEnd 0 = true
  · simp only [h, if_true] at h1 h2
    exact ⟨_, _, _, h1, h2⟩
  · simp only [h] at h1 h2
    by_cases h' : (M6.mk a b c d e f).isEnd 1 = true
    · simp only [h', if_true] at h1 h2
      exact ⟨_, _, _, h1, h2⟩
    · simp only [h'] at h1 h2
      exact ⟨_, _, _, h1, h2⟩

open Go.Proofs.PitotAddr in
theorem whose_both (a b c d : UInt8) : ∃ h p v k : Int,
    (∀ w, Calls Try.prog 26 #[ip a b c d] w fun r w' => Hid (r = .returned (.tuple #[.int .i64 h, .int .i64 p, .int .i64 v, .int .i64 k])) ∧ Below w.heap.size w w') ∧
    (∀ w, Calls Try.prog 27 #[.string ⟨#[a, b, c, d]⟩] w fun r w' => Hid (r = .returned (.tuple #[.int .i64 h, .int .i64 p, .int .i64 v, .int .i64 k])) ∧ Below w.heap.size w w') := by
  have h1 := fun w => whose_any a b c d w
  have h2 := fun w => refWhose_any a b c d w
  unfold whoA at h1 h2
  by_cases h : isPart a b c = true
  · simp only [h, if_true] at h1 h2
    exact ⟨_, _, _, _, h1, h2⟩
  · simp only [h] at h1 h2
    by_cases h' : isGroup a b c d = true
    · simp only [h', if_true] at h1 h2
      exact ⟨_, _, _, _, h1, h2⟩
    · simp only [h'] at h1 h2
      exact ⟨_, _, _, _, h1, h2⟩

theorem bstep' {w w1 w2 : World} (h : Below w.heap.size w w1) (g : Below w1.heap.size w1 w2) : Below w.heap.size w w2 := h.trans (g.mono h.size)

open Go.Proofs.PitotAddr in
set_option maxRecDepth 100000 in
set_option maxHeartbeats 8000000 in
theorem addrTells_walk (a b c d e f : UInt8) (w : World) :
    Calls Try.prog 4 #[mac a b c d e f] w fun e w' => e = .returned (.bool true) ∧ Below w.heap.size w w' := by
  obtain ⟨v, k, h21, h22⟩ := vl_both a b c d e f
  obtain ⟨h, n, q, h24, h25⟩ := of_both a b c d e f
  obtain ⟨h', p', v', k', h26, h27⟩ := whose_both c d e f
  obtain ⟨T, HT⟩ : ∃ T : ByteArray, Hid (T = ⟨#[a, b, c, d, e, f]⟩) := ⟨_, rfl⟩
  have h23 := fun w => text_any a b c d e f w
  rw [← HT.out] at h22 h25 h23
  have hsz : T.size = 6 := by rw [HT.out]; rfl
  have hex : T.extract 2 6 = ⟨#[c, d, e, f]⟩ := by rw [HT.out]; rfl
  have H21 := Lib.hid h21; clear h21
  have H22 := Lib.hid h22; clear h22
  have H23 := Lib.hid h23; clear h23
  have H24 := Lib.hid h24; clear h24
  have H25 := Lib.hid h25; clear h25
  have H26 := Lib.hid h26; clear h26
  have H27 := Lib.hid h27; clear h27
  go_enter Try.func4, Try.ntmps4
  go_wp2_with (first
    | (go_at_call 21; (with_reducible refine (H21.out _).mono ?_); rintro e w1 ⟨rfl, hb1⟩
       (have L1 := lies_below (heap_alloc_new w _) hb1 (by simp)); (obtain ⟨i0, i1, i2, i3, i4, i5⟩ := six L1); (have LX := Lib.hid L1); clear L1
       (have BX := Lib.hid (bstep' (below_new (Below.refl _ w) _) hb1)); clear hb1)
    | (go_at_call 23; (with_reducible refine (H23.out _).mono ?_); rintro e w2 ⟨rfl, hb2⟩
       (have L2 := Lib.hid (lies_below LX.out hb2 (lies_lt LX.out))); clear LX; (have LX := L2); clear L2
       (try ((have LE' := Lib.hid (lies_below LE.out hb2 (lies_lt LE.out))); clear LE; (have LE := LE'); clear LE'))
       (have BX := Lib.hid (bstep' BX.out hb2)); clear hb2)
    | (go_at_call 22; (with_reducible refine (H22.out _).mono ?_); rintro e w3 ⟨rfl, hb3⟩
       (have L2 := lies_below LX.out hb3 (lies_lt LX.out)); clear LX; (obtain ⟨i0, i1, i2, i3, i4, i5⟩ := six L2); (have LX := Lib.hid L2); clear L2
       (have BX := Lib.hid (bstep' BX.out hb3)); clear hb3)
    | (go_at_call 24; (with_reducible refine (H24.out _).mono ?_); rintro e w4 ⟨he, hb4⟩; (obtain rfl := he.out)
       (have L2 := Lib.hid (lies_below LX.out hb4 (lies_lt LX.out))); clear LX; (have LX := Lib.hid (lies_alloc L2.out (.cells #[.int .i64 h, .int .i64 n] 32))); clear L2
       (obtain ⟨i0, i1, i2, i3, i4, i5⟩ := six LX.out)
       (have LE := Lib.hid (heap_alloc_new w4 (.cells #[.int .i64 h, .int .i64 n] 32)))
       (have BX := Lib.hid (below_new (bstep' BX.out hb4) (.cells #[.int .i64 h, .int .i64 n] 32))); clear hb4 he)
    | (go_at_call 25; (with_reducible refine (H25.out _).mono ?_); rintro e w5 ⟨he, hb5⟩; (obtain rfl := he.out)
       (have L2 := lies_below LX.out hb5 (lies_lt LX.out)); clear LX; (obtain ⟨i0, i1, i2, i3, i4, i5⟩ := six L2); (have LX := Lib.hid L2); clear L2
       (try ((have LE' := Lib.hid (lies_below LE.out hb5 (lies_lt LE.out))); clear LE; (have LE := LE'); clear LE'))
       (have BX := Lib.hid (bstep' BX.out hb5)); clear hb5 he)
    | (go_at_call 26; (with_reducible refine (H26.out _).mono ?_); rintro e w6 ⟨he, hb6⟩; (obtain rfl := he.out)
       (have L2 := lies_below LX.out hb6 (lies_lt LX.out)); clear LX; (obtain ⟨i0, i1, i2, i3, i4, i5⟩ := six L2); (have LX := Lib.hid L2); clear L2
       (try ((have LE' := Lib.hid (lies_below LE.out hb6 (lies_lt LE.out))); clear LE; (have LE := LE'); clear LE'))
       (have BX := Lib.hid (bstep' BX.out hb6)); clear hb6 he)
    | (go_at_call 27; (with_reducible refine (H27.out _).mono ?_); rintro e w7 ⟨he, hb7⟩; (obtain rfl := he.out)
       (obtain ⟨e0, e1⟩ := two (lies_below LE.out hb7 (lies_lt LE.out)))
       (have BX := Lib.hid (bstep' BX.out hb7)); clear hb7 he)
    | (go_at_call 20; (with_reducible refine (awake_any _).mono ?_); rintro e w8 ⟨rfl, hb8⟩
       (have BX := Lib.hid (bstep' BX.out hb8)); clear hb8))
  go_returns
  exact ⟨rfl, BX.out⟩

set_option maxRecDepth 100000 in
theorem addrTells_lifted (os : Os) (started : os.Started) (H : Type) (enc : TypeId × Value → H) :
    ReturnsInHanded {} Try.checked os 4 .any (Rows.addrTellsSpec.pre6 enc Try.prog Try.f4 Rows.addrTellsRow.domain false) (Rows.addrTellsSpec.post enc Try.prog Try.f4 false true false false) := by
  refine returnsInHanded_of_change (C := Try.checked) addrTells_own started (by kernel_rfl) Try.func4
    (ChangeSpec.witness6 (enc := enc) (C := Try.checked) false ⟨#[], #[.agg #[.int .u8 0, .int .u8 0, .int .u8 0, .int .u8 0, .int .u8 0, .int .u8 0]], []⟩ 8 (by kernel_rfl) (by kernel_rfl) (by kernel_rfl) (by kernel_rfl)) ?_
  intro W base args ds gs before hval0 hW hcnd _
  have hval : ∀ (j : Nat) t v, Try.f4.params[j]? = some t → args[j]? = some v → Value.okWide Try.prog W .any base t v := hval0
  have hW' := hW
  obtain ⟨p, q, hA0, hV, rfl, hfz, hnd⟩ := hW
  have hA : DataW.TrodAll enc Try.prog W 0 (fun _ => true) true Try.f4.params.toList args.toList ds p := hA0
  rw [Try.params4] at hA hval
  obtain ⟨v0, vs0, d0, ds0, p0, q0, hargs, rfl, rfl, h0, r0⟩ := trodAll_cons hA
  obtain ⟨rfl, rfl, rfl⟩ := trodAll_nil r0
  obtain rfl : args = #[v0] := by cases args; simp_all
  obtain ⟨rfl, rfl⟩ := trodVars_none hV
  have k0 := h0
  have lt0 : ∀ x ∈ p0, x.block < W.heap.size := by obtain ⟨m, hm⟩ := k0; exact DataW.trod_lt m _ _ _ hm
  obtain ⟨fu0, hf0⟩ := h0
  obtain ⟨a0, b0, c0, d0, e0, f0, rfl⟩ := mac_open (hval 0 23 v0 rfl rfl) hf0
  clear hA0 hval0
  have hwalk := addrTells_walk a0 b0 c0 d0 e0 f0 W

  refine hwalk.mono fun e W' ⟨he, bel⟩ => ?_
  subst he
  exact ⟨_, rfl, _, _, _, [], _, [], hW', trodAll_mk1 (shut_bool Try.underlying4 _), (trodAll_cons_mk (Below.trod addrTells_laid (by kernel_rfl) (of_decide_eq_true (by kernel_rfl)) k0 bel lt0) trodAll_mk0), rfl, bel.frame _, fun h => by cases h⟩

theorem addrTells_over : Rows.addrTellsRow.holds Try.pinned (OpenSpec.ofChange Rows.addrTellsSpec) :=
  OpenClaim.holds_of_wide 4 Try.f4 rfl rfl rfl rfl rfl rfl rfl ⟨rfl, rfl, rfl, rfl, rfl⟩ rfl rfl rfl rfl rfl (by kernel_rfl) Try.func4 (by kernel_rfl)
    (of_decide_eq_true (by kernel_rfl)) (by unfold Func.isWrapper; first | (rw [if_pos (by decide +kernel)]; kernel_rfl) | (rw [if_neg (by decide +kernel)]; exact ⟨rfl, rfl⟩))
    (fun os started H enc _ => addrTells_lifted os started H enc)

theorem addrTells_holds : Rows.AddrTellsSaid := addrTells_over
#print axioms addrTells_holds
end Go.Proofs.Ytechdnkkchhaaaa
