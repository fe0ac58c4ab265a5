/- For every echo the law IcmpEncodes answers true: the program's Encode answers as the document's. No conditions. -/
import Derived.Test.YtcljlaiafgbfkaaRows
import Derived.Test.YtcljlaiafgbfkaaPo
import Derived.Test.YtcljlaiafgbfkaaRe
import Derived.WalkKit
import Derived.Deep.RegionHeld3
import Derived.ProofKit
import Derived.OpenShut
import Derived.ShutString
import Derived.ChangeOld
import Derived.Below
namespace Go.Proofs.Ytcljlaiafgbfkaa
open Go.ChangeShapes Go.WideShapes Go.ChangeAt Go.RowKit
open Go.ChangeMaps (open_string shut_string)
set_option linter.unusedVariables false

theorem icmpEncodes_own : ownKnob Try.prog.godebug = none := by kernel_rfl
theorem icmpEncodes_laid : laidOutB Try.prog = true := by kernel_rfl


open Go.Proofs.Ytcljlaiafgbfkaa.Bi (lies_lt lies_cell lies_frozen lies_alloc)
set_option maxRecDepth 100000 in
set_option maxHeartbeats 4000000 in
theorem icmpEncodes_walk (a : Bool) (i q : Int) (s : ByteArray) (_hi : (Lit.int .i64 i).wf = true) (_hq : (Lit.int .i64 q).wf = true) (hs : s.size ≤ maxLen) (w : World) :
    Calls Try.prog 3 #[eo a i q s] w fun e w' => e = .returned (.bool true) ∧ Below w.heap.size w w' := by
  unfold maxLen at hs
  clear _hi _hq
  have K0 : Hid (Below w.heap.size w (w.alloc (eoC a i q s))) := (Below.refl _ w).alloc (Nat.le_refl _) _
  by_cases hbig : 1000 < s.size
  · go_enter Try.func3, Try.ntmps3
    go_wp2_with (go_at_call 4; (with_reducible refine (awake_any _).mono ?_); rintro e w1 ⟨rfl, hb1⟩)
    go_returns
    exact ⟨rfl, K0.out.trans (hb1.mono K0.out.size)⟩
  · obtain ⟨R, e, H0, H1⟩ := enc_both a i q s (by omega)
    have H2 := plain_any a i q s
    have HA := Lib.hid H0; have HB := Lib.hid H1; have HC := Lib.hid H2
    clear H0 H1 H2
    go_enter Try.func3, Try.ntmps3
    go_wp2_with (first
      | (go_at_call 5; (with_reducible refine (HA.out _).mono ?_); rintro r w1 ⟨rfl, hb1⟩
         (have L1 := lies_below (heap_alloc_new w (eoC a i q s)) hb1 (by simp))
         (obtain ⟨c0, c1, c2, c3⟩ := cells4 L1)
         (clear L1))
      | (go_at_call 7; (with_reducible refine (HC.out _).mono ?_); rintro r w2 ⟨rfl, hb2⟩)
      | (go_at_call 6; (with_reducible refine (HB.out _).mono ?_); rintro r w3 ⟨rfl, hb3⟩)
      | (go_at_call 4; (with_reducible refine (awake_any _).mono ?_); rintro r w4 ⟨rfl, hb4⟩))
    go_returns
    have k1 : Below w.heap.size w w1 := K0.out.trans (hb1.mono K0.out.size)
    have k2 := k1.trans (hb2.mono k1.size)
    have k3 := k2.trans (hb3.mono k2.size)
    exact ⟨rfl, k3.trans (hb4.mono k3.size)⟩


set_option maxRecDepth 100000 in
theorem icmpEncodes_lifted (os : Os) (started : os.Started) (H : Type) (enc : TypeId × Value → H) :
    ReturnsInHanded {} Try.checked os 3 .any (Rows.icmpEncodesSpec.pre6 enc Try.prog Try.f3 Rows.icmpEncodesRow.domain false) (Rows.icmpEncodesSpec.post enc Try.prog Try.f3 false true false false) := by
  refine returnsInHanded_of_change (C := Try.checked) icmpEncodes_own started (by kernel_rfl) Try.func3
    (ChangeSpec.witness6 (enc := enc) (C := Try.checked) false ⟨#[], #[.agg #[.bool false, .int .i64 0, .int .i64 0, .string ByteArray.empty]], []⟩ 8 (by kernel_rfl) (by kernel_rfl) (by kernel_rfl) (by kernel_rfl)) ?_
  intro W base args ds gs before hval0 hW hcnd _
  have hval : ∀ (j : Nat) t v, Try.f3.params[j]? = some t → args[j]? = some v → Value.okWide Try.prog W .any base t v := hval0
  have hW' := hW
  obtain ⟨p, q, hA0, hV, rfl, hfz, hnd⟩ := hW
  have hA : DataW.TrodAll enc Try.prog W 0 (fun _ => true) true Try.f3.params.toList args.toList ds p := hA0
  rw [Try.params3] at hA hval
  obtain ⟨v0, vs0, d0, ds0, p0, q0, hargs, rfl, rfl, h0, r0⟩ := trodAll_cons hA
  obtain ⟨rfl, rfl, rfl⟩ := trodAll_nil r0
  obtain rfl : args = #[v0] := by cases args; simp_all
  obtain ⟨rfl, rfl⟩ := trodVars_none hV
  have k0 := h0
  have lt0 : ∀ x ∈ p0, x.block < W.heap.size := by obtain ⟨m, hm⟩ := k0; exact DataW.trod_lt m _ _ _ hm
  obtain ⟨fu0, hf0⟩ := h0
  obtain ⟨fa0, fi0, fq0, fs0, gi0, gq0, gs0, rfl⟩ := echo_open (hval 0 23 v0 rfl rfl) hf0
  clear hA0 hval0
  have hwalk := icmpEncodes_walk fa0 fi0 fq0 fs0 gi0 gq0 gs0 W

  refine hwalk.mono fun e W' ⟨he, bel⟩ => ?_
  subst he
  exact ⟨_, rfl, _, _, _, [], _, [], hW', trodAll_mk1 (shut_bool Try.underlying4 _), (trodAll_cons_mk (Below.trod icmpEncodes_laid (by kernel_rfl) (of_decide_eq_true (by kernel_rfl)) k0 bel lt0) trodAll_mk0), rfl, bel.frame _, fun h => by cases h⟩

theorem icmpEncodes_over : Rows.icmpEncodesRow.holds Try.pinned (OpenSpec.ofChange Rows.icmpEncodesSpec) :=
  OpenClaim.holds_of_wide 3 Try.f3 rfl rfl rfl rfl rfl rfl rfl ⟨rfl, rfl, rfl, rfl, rfl⟩ rfl rfl rfl rfl rfl (by kernel_rfl) Try.func3 (by kernel_rfl)
    (of_decide_eq_true (by kernel_rfl)) (by unfold Func.isWrapper; first | (rw [if_pos (by decide +kernel)]; kernel_rfl) | (rw [if_neg (by decide +kernel)]; exact ⟨rfl, rfl⟩))
    (fun os started H enc _ => icmpEncodes_lifted os started H enc)

theorem icmpEncodes_holds : Rows.IcmpEncodesSaid := icmpEncodes_over
#print axioms icmpEncodes_holds
end Go.Proofs.Ytcljlaiafgbfkaa
