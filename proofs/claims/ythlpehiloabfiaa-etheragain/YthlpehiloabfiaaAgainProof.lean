/- For every string the law EtherAgain answers true: what is decoded is encoded as the same bytes. No conditions. -/
import Derived.Test.YthlpehiloabfiaaRows
import Derived.Test.YthlpehiloabfiaaDx
import Derived.WalkKit
import Derived.ProofKit
import Derived.OpenShut
import Derived.ShutString
import Derived.ChangeOld
import Derived.Below
namespace Go.Proofs.Ythlpehiloabfiaa
open Go.ChangeShapes Go.WideShapes Go.ChangeAt Go.RowKit
open Go.ChangeMaps (open_string shut_string)
set_option linter.unusedVariables false

theorem etherAgain_own : ownKnob Try.prog.godebug = none := by kernel_rfl
theorem etherAgain_laid : laidOutB Try.prog = true := by kernel_rfl

set_option maxRecDepth 100000 in
set_option maxHeartbeats 1000000 in
theorem etherAgain_walk (s : ByteArray) (hs : s.size ≤ maxLen) (w : World) :
    Calls Try.prog 6 #[.string s] w fun e w' => e = .returned (.bool true) ∧ Below w.heap.size w w' := by
  unfold maxLen at hs
  by_cases hb : 3000 < s.size
  · go_enter Try.func6, Try.ntmps6
    go_wp2_with (go_at_call 9; (with_reducible refine (awake_any _).mono ?_); rintro e w1 ⟨rfl, hb1⟩)
    go_returns
    exact ⟨rfl, hb1⟩
  · rcases dec_cases s (by omega) with ⟨c, hc, H⟩ | ⟨p, k, h⟩
    · have H14 := Lib.hid H; clear H
      have hc0 : ((c : Int) != 0) = true := by simp; omega
      have hc1 : ¬ (c : Int) = 0 := by omega
      clear hc
      go_enter Try.func6, Try.ntmps6
      go_wp2_with (first
        | (go_at_call 14; (with_reducible refine (H14.out _).mono ?_); rintro e w1 ⟨rfl, hb1⟩)
        | (go_at_call 9; (with_reducible refine (awake_any _).mono ?_); rintro e w2 ⟨rfl, hb2⟩))
      go_returns
      have k1 := hb1.alloc hb1.size fr0C
      exact ⟨rfl, k1.trans (hb2.mono k1.size)⟩
    · have H14 := Lib.hid (fun w => decode_frame s p k w h)
      have H10 := Lib.hid (fun w => encode_again s p k w h)
      clear h
      obtain ⟨v, Hv⟩ : ∃ v, Hid (v = PitotAddr.num p.a.e p.a.f) := ⟨_, rfl⟩
      obtain ⟨n, Hn⟩ : ∃ v, Hid (v = PitotAddr.num p.b.d p.b.e) := ⟨_, rfl⟩
      obtain ⟨q, Hq⟩ : ∃ v, Hid (v = p.q.toNat) := ⟨_, rfl⟩
      obtain ⟨D, HD⟩ : ∃ v : ByteArray, Hid (v = ⟨p.d.toArray⟩) := ⟨_, rfl⟩
      rw [← Hv.out, ← Hn.out, ← Hq.out, ← HD.out] at H14 H10
      go_enter Try.func6, Try.ntmps6
      go_wp2_with (first
        | (go_at_call 14; (with_reducible refine (H14.out _).mono ?_); rintro e w1 ⟨rfl, hb1⟩)
        | (go_at_call 10; (with_reducible refine (H10.out _).mono ?_); rintro e w2 ⟨rfl, hb2⟩)
        | (go_at_call 9; (with_reducible refine (awake_any _).mono ?_); rintro e w3 ⟨rfl, hb3⟩))
      go_returns
      have k1 := hb1.alloc hb1.size (frC v n k q D)
      have k2 := k1.trans (hb2.mono k1.size)
      exact ⟨rfl, k2.trans (hb3.mono k2.size)⟩


set_option maxRecDepth 100000 in
theorem etherAgain_lifted (os : Os) (started : os.Started) (H : Type) (enc : TypeId × Value → H) :
    ReturnsInHanded {} Try.checked os 6 .any (Rows.etherAgainSpec.pre6 enc Try.prog Try.f6 Rows.etherAgainRow.domain false) (Rows.etherAgainSpec.post enc Try.prog Try.f6 false true false false) := by
  refine returnsInHanded_of_change (C := Try.checked) etherAgain_own started (by kernel_rfl) Try.func6
    (ChangeSpec.witness6 (enc := enc) (C := Try.checked) false ⟨#[], #[.string ByteArray.empty], []⟩ 8 (by kernel_rfl) (by kernel_rfl) (by kernel_rfl) (by kernel_rfl)) ?_
  intro W base args ds gs before hval0 hW hcnd _
  have hval : ∀ (j : Nat) t v, Try.f6.params[j]? = some t → args[j]? = some v → Value.okWide Try.prog W .any base t v := hval0
  have hW' := hW
  obtain ⟨p, q, hA0, hV, rfl, hfz, hnd⟩ := hW
  have hA : DataW.TrodAll enc Try.prog W 0 (fun _ => true) true Try.f6.params.toList args.toList ds p := hA0
  rw [Try.params6] at hA hval
  obtain ⟨v0, vs0, d0, ds0, p0, q0, hargs, rfl, rfl, h0, r0⟩ := trodAll_cons hA
  obtain ⟨rfl, rfl, rfl⟩ := trodAll_nil r0
  obtain rfl : args = #[v0] := by cases args; simp_all
  obtain ⟨rfl, rfl⟩ := trodVars_none hV
  obtain ⟨a0, rfl, rfl, rfl, w0⟩ := open_string Try.underlying9 (hval 0 9 v0 rfl rfl) h0
  clear hA0 hval0
  have hwalk := etherAgain_walk a0 w0 W

  refine hwalk.mono fun e W' ⟨he, bel⟩ => ?_
  subst he
  exact ⟨_, rfl, _, _, _, [], _, [], hW', trodAll_mk1 (shut_bool Try.underlying4 _), (trodAll_cons_mk (shut_string Try.underlying9 w0) trodAll_mk0), rfl, bel.frame _, fun h => by cases h⟩

theorem etherAgain_over : Rows.etherAgainRow.holds Try.pinned (OpenSpec.ofChange Rows.etherAgainSpec) :=
  OpenClaim.holds_of_wide 6 Try.f6 rfl rfl rfl rfl rfl rfl rfl ⟨rfl, rfl, rfl, rfl, rfl⟩ rfl rfl rfl rfl rfl (by kernel_rfl) Try.func6 (by kernel_rfl)
    (of_decide_eq_true (by kernel_rfl)) (by unfold Func.isWrapper; first | (rw [if_pos (by decide +kernel)]; kernel_rfl) | (rw [if_neg (by decide +kernel)]; exact ⟨rfl, rfl⟩))
    (fun os started H enc _ => etherAgain_lifted os started H enc)

theorem etherAgain_holds : Rows.EtherAgainSaid := etherAgain_over
#print axioms etherAgain_holds
end Go.Proofs.Ythlpehiloabfiaa
