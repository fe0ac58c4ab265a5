/- For every frame and number the law EtherEncodes answers true: the program's Encode and Size answer as the document's. No conditions. -/
import Derived.Test.YthlpehiloabfiaaRows
import Derived.Test.YthlpehiloabfiaaRe
import Derived.WalkKit
import Derived.ProofKit
import Derived.OpenShut
import Derived.ShutString
import Derived.ChangeOld
import Derived.Below
namespace Go.Proofs.Ythlpehiloabfiaa
open Go.ChangeShapes Go.WideShapes Go.ChangeAt Go.RowKit
open Go.ChangeMaps (open_string shut_string)
set_option linter.unusedVariables false

theorem etherEncodes_own : ownKnob Try.prog.godebug = none := by kernel_rfl
theorem etherEncodes_laid : laidOutB Try.prog = true := by kernel_rfl

set_option maxRecDepth 100000 in
set_option maxHeartbeats 1000000 in
theorem etherEncodes_walk (a b c d : Int) (s : ByteArray) (_ha : (Lit.int .i64 a).wf = true) (_hb : (Lit.int .i64 b).wf = true) (_hc : (Lit.int .i64 c).wf = true) (_hd : (Lit.int .i64 d).wf = true) (hs : s.size ≤ maxLen)
    (n : Int) (hn : (Lit.int .i64 n).wf = true) (w : World) :
    Calls Try.prog 3 #[fr a b c d s, .int .i64 n] w fun e w' => e = .returned (.bool true) ∧ Below w.heap.size w w' := by
  unfold maxLen at hs
  have hnb := bounds_i64 hn
  clear _ha _hb _hc _hd hn
  by_cases hbig : 3000 < s.size
  · go_enter Try.func3, Try.ntmps3
    go_wp2_with (go_at_call 9; (with_reducible refine (awake_any _).mono ?_); rintro e w1 ⟨rfl, hb1⟩)
    go_returns
    exact ⟨rfl, ((Below.refl _ w).alloc (Nat.le_refl _) _).trans (hb1.mono (by simp))⟩
  · obtain ⟨S, e, H0, H1⟩ := enc_both a b c d s (by omega)
    have HA := Lib.hid H0; clear H0
    have HB := Lib.hid H1; clear H1
    have HC := Lib.hid (fun w => size_any n w (by omega))
    have HD := Lib.hid (fun w => refSize_any n w (by omega))
    obtain ⟨z, Hz⟩ : ∃ z, Hid (z = sz n) := ⟨_, rfl⟩
    rw [← Hz.out] at HC HD
    go_enter Try.func3, Try.ntmps3
    go_wp2_with (first
      | (go_at_call 10; (with_reducible refine (HA.out _).mono ?_); rintro r w1 ⟨rfl, hb1⟩
         (have L1 := Ad.lies_below (heap_alloc_new w (frC a b c d s)) hb1 (by simp))
         (obtain ⟨r0, r1, r2, r3, r4⟩ := five L1)
         (have L1 := Lib.hid L1))
      | (go_at_call 11; (with_reducible refine (HB.out _).mono ?_); rintro r w2 ⟨rfl, hb2⟩)
      | (go_at_call 12; (with_reducible refine (HC.out _).mono ?_); rintro r w3 ⟨rfl, rfl⟩)
      | (go_at_call 13; (with_reducible refine (HD.out _).mono ?_); rintro r w4 ⟨rfl, rfl⟩)
      | (go_at_call 9; (with_reducible refine (awake_any _).mono ?_); rintro r w5 ⟨rfl, hb5⟩))
    go_returns
    have k1 : Below w.heap.size w w1 := ((Below.refl _ w).alloc (Nat.le_refl _) _).trans (hb1.mono (by simp))
    have k2 := k1.trans (hb2.mono k1.size)
    exact ⟨rfl, k2.trans (hb5.mono k2.size)⟩


set_option maxRecDepth 100000 in
theorem etherEncodes_lifted (os : Os) (started : os.Started) (H : Type) (enc : TypeId × Value → H) :
    ReturnsInHanded {} Try.checked os 3 .any (Rows.etherEncodesSpec.pre6 enc Try.prog Try.f3 Rows.etherEncodesRow.domain false) (Rows.etherEncodesSpec.post enc Try.prog Try.f3 false true false false) := by
  refine returnsInHanded_of_change (C := Try.checked) etherEncodes_own started (by kernel_rfl) Try.func3
    (ChangeSpec.witness6 (enc := enc) (C := Try.checked) false ⟨#[], #[.agg #[.int .i64 0, .int .i64 0, .int .i64 0, .int .i64 0, .string ByteArray.empty], .int .i64 0], []⟩ 8 (by kernel_rfl) (by kernel_rfl) (by kernel_rfl) (by kernel_rfl)) ?_
  intro W base args ds gs before hval0 hW hcnd _
  have hval : ∀ (j : Nat) t v, Try.f3.params[j]? = some t → args[j]? = some v → Value.okWide Try.prog W .any base t v := hval0
  have hW' := hW
  obtain ⟨p, q, hA0, hV, rfl, hfz, hnd⟩ := hW
  have hA : DataW.TrodAll enc Try.prog W 0 (fun _ => true) true Try.f3.params.toList args.toList ds p := hA0
  rw [Try.params3] at hA hval
  obtain ⟨v0, vs0, d0, ds0, p0, q0, hargs, rfl, rfl, h0, r0⟩ := trodAll_cons hA
  obtain ⟨v1, vs1, d1, ds1, p1, q1, rfl, rfl, rfl, h1, r1⟩ := trodAll_cons r0
  obtain ⟨rfl, rfl, rfl⟩ := trodAll_nil r1
  obtain rfl : args = #[v0, v1] := by cases args; simp_all
  obtain ⟨rfl, rfl⟩ := trodVars_none hV
  have k0 := h0
  have lt0 : ∀ x ∈ p0, x.block < W.heap.size := by obtain ⟨m, hm⟩ := k0; exact DataW.trod_lt m _ _ _ hm
  obtain ⟨fu0, hf0⟩ := h0
  obtain ⟨fa0, fb0, fc0, fd0, fs0, ga0, gb0, gc0, gd0, gs0, rfl⟩ := frame_open (hval 0 23 v0 rfl rfl) hf0
  obtain ⟨a1, rfl, rfl, rfl, w1⟩ := open_int Try.underlying3 (hval 1 3 v1 rfl rfl) h1
  clear hA0 hval0
  have hwalk := etherEncodes_walk fa0 fb0 fc0 fd0 fs0 ga0 gb0 gc0 gd0 gs0 a1 w1 W

  refine hwalk.mono fun e W' ⟨he, bel⟩ => ?_
  subst he
  exact ⟨_, rfl, _, _, _, [], _, [], hW', trodAll_mk1 (shut_bool Try.underlying4 _), (trodAll_cons_mk (Below.trod etherEncodes_laid (by kernel_rfl) (of_decide_eq_true (by kernel_rfl)) k0 bel lt0) (trodAll_cons_mk (shut_int Try.underlying3 w1) trodAll_mk0)), rfl, bel.frame _, fun h => by cases h⟩

theorem etherEncodes_over : Rows.etherEncodesRow.holds Try.pinned (OpenSpec.ofChange Rows.etherEncodesSpec) :=
  OpenClaim.holds_of_wide 3 Try.f3 rfl rfl rfl rfl rfl rfl rfl ⟨rfl, rfl, rfl, rfl, rfl⟩ rfl rfl rfl rfl rfl (by kernel_rfl) Try.func3 (by kernel_rfl)
    (of_decide_eq_true (by kernel_rfl)) (by unfold Func.isWrapper; first | (rw [if_pos (by decide +kernel)]; kernel_rfl) | (rw [if_neg (by decide +kernel)]; exact ⟨rfl, rfl⟩))
    (fun os started H enc _ => etherEncodes_lifted os started H enc)

theorem etherEncodes_holds : Rows.EtherEncodesSaid := etherEncodes_over
#print axioms etherEncodes_holds
end Go.Proofs.Ythlpehiloabfiaa
