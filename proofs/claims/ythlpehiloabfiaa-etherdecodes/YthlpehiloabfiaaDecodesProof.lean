/- For every string the law EtherDecodes answers true: the program's Decode and Look answer as the document's. No conditions. -/
import Derived.Test.YthlpehiloabfiaaRows
import Derived.Test.YthlpehiloabfiaaRn
import Derived.WalkKit
import Derived.ProofKit
import Derived.OpenShut
import Derived.ShutString
import Derived.ChangeOld
import Derived.Below
namespace Go.Proofs.Ythlpehiloabfiaa
open Go.ChangeShapes Go.WideShapes Go.ChangeAt Go.RowKit
open Go.ChangeMaps (open_string shut_string)
set_option linter.unusedVariables false

theorem etherDecodes_own : ownKnob Try.prog.godebug = none := by kernel_rfl
theorem etherDecodes_laid : laidOutB Try.prog = true := by kernel_rfl

set_option maxRecDepth 100000 in
set_option maxHeartbeats 1000000 in
theorem etherDecodes_walk (s : ByteArray) (hs : s.size ≤ maxLen) (w : World) :
    Calls Try.prog 4 #[.string s] w fun e w' => e = .returned (.bool true) ∧ Below w.heap.size w w' := by
  unfold maxLen at hs
  by_cases hbig : 3000 < s.size
  · go_enter Try.func4, Try.ntmps4
    go_wp2_with (go_at_call 9; (with_reducible refine (awake_any _).mono ?_); rintro e w1 ⟨rfl, hb1⟩)
    go_returns
    exact ⟨rfl, hb1⟩
  · obtain ⟨a, b, c, d, S, e, H0, H1⟩ := dec_both s (by omega)
    obtain ⟨x, y, H2, H3⟩ := look_both s (by omega)
    have HA := Lib.hid H0; clear H0
    have HB := Lib.hid H1; clear H1
    have HC := Lib.hid H2; clear H2
    have HD := Lib.hid H3; clear H3
    go_enter Try.func4, Try.ntmps4
    go_wp2_with (first
      | (go_at_call 14; (with_reducible refine (HA.out _).mono ?_); rintro r w1 ⟨rfl, hb1⟩)
      | (go_at_call 15; (with_reducible refine (HB.out _).mono ?_); rintro r w2 ⟨rfl, hb2⟩
         (have L1 := Lib.hid (Ad.lies_below (heap_alloc_new w1 (frC a b c d S)) hb2 (by simp)))
         (have L2 := Lib.hid (fun o => Ad.lies_alloc L1.out o)))
      | (go_at_call 16; (with_reducible refine (HC.out _).mono ?_); rintro r w3 ⟨rfl, hb3⟩
         (have M1 := Lib.hid (Ad.lies_below (L2.out (frC a b c d S)) hb3 (Ad.lies_lt (L2.out _))))
         (have M2 := Lib.hid (Ad.lies_below (heap_alloc_new w2 (frC a b c d S)) hb3 (by simp))))
      | (go_at_call 17; (with_reducible refine (HD.out _).mono ?_); rintro r w4 ⟨rfl, hb4⟩
         (obtain ⟨r0, r1, r2, r3, r4⟩ := five (Ad.lies_below M1.out hb4 (Ad.lies_lt M1.out)))
         (obtain ⟨t0, t1, t2, t3, t4⟩ := five (Ad.lies_below M2.out hb4 (Ad.lies_lt M2.out))))
      | (go_at_call 9; (with_reducible refine (awake_any _).mono ?_); rintro r w5 ⟨rfl, hb5⟩))
    go_returns
    have k1 := hb1.alloc hb1.size (frC a b c d S)
    have k2 := k1.trans (hb2.mono k1.size)
    have k3 := k2.alloc k2.size (frC a b c d S)
    have k4 := k3.trans (hb3.mono k3.size)
    have k5 := k4.trans (hb4.mono k4.size)
    exact ⟨rfl, k5.trans (hb5.mono k5.size)⟩


set_option maxRecDepth 100000 in
theorem etherDecodes_lifted (os : Os) (started : os.Started) (H : Type) (enc : TypeId × Value → H) :
    ReturnsInHanded {} Try.checked os 4 .any (Rows.etherDecodesSpec.pre6 enc Try.prog Try.f4 Rows.etherDecodesRow.domain false) (Rows.etherDecodesSpec.post enc Try.prog Try.f4 false true false false) := by
  refine returnsInHanded_of_change (C := Try.checked) etherDecodes_own started (by kernel_rfl) Try.func4
    (ChangeSpec.witness6 (enc := enc) (C := Try.checked) false ⟨#[], #[.string ByteArray.empty], []⟩ 8 (by kernel_rfl) (by kernel_rfl) (by kernel_rfl) (by kernel_rfl)) ?_
  intro W base args ds gs before hval0 hW hcnd _
  have hval : ∀ (j : Nat) t v, Try.f4.params[j]? = some t → args[j]? = some v → Value.okWide Try.prog W .any base t v := hval0
  have hW' := hW
  obtain ⟨p, q, hA0, hV, rfl, hfz, hnd⟩ := hW
  have hA : DataW.TrodAll enc Try.prog W 0 (fun _ => true) true Try.f4.params.toList args.toList ds p := hA0
  rw [Try.params4] at hA hval
  obtain ⟨v0, vs0, d0, ds0, p0, q0, hargs, rfl, rfl, h0, r0⟩ := trodAll_cons hA
  obtain ⟨rfl, rfl, rfl⟩ := trodAll_nil r0
  obtain rfl : args = #[v0] := by cases args; simp_all
  obtain ⟨rfl, rfl⟩ := trodVars_none hV
  obtain ⟨a0, rfl, rfl, rfl, w0⟩ := open_string Try.underlying9 (hval 0 9 v0 rfl rfl) h0
  clear hA0 hval0
  have hwalk := etherDecodes_walk a0 w0 W

  refine hwalk.mono fun e W' ⟨he, bel⟩ => ?_
  subst he
  exact ⟨_, rfl, _, _, _, [], _, [], hW', trodAll_mk1 (shut_bool Try.underlying4 _), (trodAll_cons_mk (shut_string Try.underlying9 w0) trodAll_mk0), rfl, bel.frame _, fun h => by cases h⟩

theorem etherDecodes_over : Rows.etherDecodesRow.holds Try.pinned (OpenSpec.ofChange Rows.etherDecodesSpec) :=
  OpenClaim.holds_of_wide 4 Try.f4 rfl rfl rfl rfl rfl rfl rfl ⟨rfl, rfl, rfl, rfl, rfl⟩ rfl rfl rfl rfl rfl (by kernel_rfl) Try.func4 (by kernel_rfl)
    (of_decide_eq_true (by kernel_rfl)) (by unfold Func.isWrapper; first | (rw [if_pos (by decide +kernel)]; kernel_rfl) | (rw [if_neg (by decide +kernel)]; exact ⟨rfl, rfl⟩))
    (fun os started H enc _ => etherDecodes_lifted os started H enc)

theorem etherDecodes_holds : Rows.EtherDecodesSaid := etherDecodes_over
#print axioms etherDecodes_holds
end Go.Proofs.Ythlpehiloabfiaa
