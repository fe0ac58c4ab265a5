/- For every string the law CrcOpens answers true: Open and Seal answer as the document's do. No conditions. -/
import Derived.Test.YtplknfdbgcdaoaaRows
import Derived.Test.YtplknfdbgcdaoaaOp
import Derived.WalkKit
import Derived.ProofKit
import Derived.OpenShut
import Derived.ShutString
import Derived.ChangeOld
import Derived.Below
namespace Go.Proofs.Ytplknfdbgcdaoaa
open Go.ChangeShapes Go.WideShapes Go.ChangeAt Go.RowKit
open Go.ChangeMaps (open_string shut_string)
set_option linter.unusedVariables false

theorem crcOpens_own : ownKnob Try.prog.godebug = none := by kernel_rfl
theorem crcOpens_laid : laidOutB Try.prog = true := by kernel_rfl

open Go.Proofs.PitotCrc in
set_option maxRecDepth 100000 in
set_option maxHeartbeats 1000000 in
theorem crcOpens_walk (s : ByteArray) (_hs : s.size ≤ maxLen) (w : World) :
    Calls Try.prog 5 #[.string s] w fun e w' => e = .returned (.bool true) ∧ Below w.heap.size w w' := by
  unfold maxLen at _hs
  by_cases hb : 5000 < s.size
  · go_enter Try.func5, Try.ntmps5
    go_wp2_with (go_at_call 10; refine (awake_any _).mono ?_; rintro e w1 ⟨rfl, hb1⟩)
    go_returns
    exact ⟨rfl, hb1⟩
  · have hs : s.size ≤ 100000 := by omega
    obtain ⟨B, HB⟩ : ∃ B, Hid (B = sealB s) := ⟨_, rfl⟩
    by_cases h4 : s.size < 4
    · go_enter Try.func5, Try.ntmps5
      go_wp2_with (first
        | (go_at_call 16; refine (open_short s _ h4).mono ?_; rintro e w1 ⟨rfl, rfl⟩)
        | (go_at_call 17; refine (refOpen_short s _ h4).mono ?_; rintro e w1 ⟨rfl, rfl⟩)
        | (go_at_call 18; refine (seal_any s _ hs).mono ?_; rintro e w3 ⟨rfl, hb3⟩; rw [← HB.out])
        | (go_at_call 19; refine (refSeal_any s _ hs).mono ?_; rintro e w4 ⟨rfl, hb4⟩; rw [← HB.out])
        | (go_at_call 10; refine (awake_any _).mono ?_; rintro e w5 ⟨rfl, hb5⟩))
      go_returns
      exact ⟨rfl, (hb3.trans (hb4.mono hb3.size)).trans (hb5.mono (Nat.le_trans hb3.size hb4.size))⟩
    · obtain ⟨n, hn⟩ : ∃ n, s.size = n + 4 := ⟨s.size - 4, by omega⟩
      have Hn := Lib.hid hn; clear hn h4
      have h1 := fun w => open_long s w n Hn.out hs
      have h2 := fun w => refOpen_long s w n Hn.out hs
      obtain ⟨T, HT⟩ : ∃ T, Hid (T = s.extract 0 n) := ⟨_, rfl⟩
      rw [← HT.out] at h1 h2
      obtain ⟨ok, Hok⟩ : ∃ ok, Hid (ok = opened s.data.toList) := ⟨_, rfl⟩
      rw [← Hok.out] at h1 h2
      have H1 := Lib.hid h1; clear h1
      have H2 := Lib.hid h2; clear h2
      cases ok
      all_goals
        go_enter Try.func5, Try.ntmps5
        go_wp2_with (first
          | (go_at_call 16; refine (H1.out _).mono ?_; rintro e w1 ⟨he1, hb1⟩; (obtain rfl := he1.out))
          | (go_at_call 17; refine (H2.out _).mono ?_; rintro e w2 ⟨he2, hb2⟩; (obtain rfl := he2.out))
          | (go_at_call 18; refine (seal_any s _ hs).mono ?_; rintro e w3 ⟨rfl, hb3⟩; rw [← HB.out])
          | (go_at_call 19; refine (refSeal_any s _ hs).mono ?_; rintro e w4 ⟨rfl, hb4⟩; rw [← HB.out])
          | (go_at_call 10; refine (awake_any _).mono ?_; rintro e w5 ⟨rfl, hb5⟩))
        go_returns
        have k2 := hb1.trans (hb2.mono hb1.size)
        have k3 := k2.trans (hb3.mono k2.size)
        have k4 := k3.trans (hb4.mono k3.size)
        exact ⟨rfl, k4.trans (hb5.mono k4.size)⟩

set_option maxRecDepth 100000 in
theorem crcOpens_lifted (os : Os) (started : os.Started) (H : Type) (enc : TypeId × Value → H) :
    ReturnsInHanded {} Try.checked os 5 .any (Rows.crcOpensSpec.pre6 enc Try.prog Try.f5 Rows.crcOpensRow.domain false) (Rows.crcOpensSpec.post enc Try.prog Try.f5 false true false false) := by
  refine returnsInHanded_of_change (C := Try.checked) crcOpens_own started (by kernel_rfl) Try.func5
    (ChangeSpec.witness6 (enc := enc) (C := Try.checked) false ⟨#[], #[.string ByteArray.empty], []⟩ 8 (by kernel_rfl) (by kernel_rfl) (by kernel_rfl) (by kernel_rfl)) ?_
  intro W base args ds gs before hval0 hW hcnd _
  have hval : ∀ (j : Nat) t v, Try.f5.params[j]? = some t → args[j]? = some v → Value.okWide Try.prog W .any base t v := hval0
  have hW' := hW
  obtain ⟨p, q, hA0, hV, rfl, hfz, hnd⟩ := hW
  have hA : DataW.TrodAll enc Try.prog W 0 (fun _ => true) true Try.f5.params.toList args.toList ds p := hA0
  rw [Try.params5] at hA hval
  obtain ⟨v0, vs0, d0, ds0, p0, q0, hargs, rfl, rfl, h0, r0⟩ := trodAll_cons hA
  obtain ⟨rfl, rfl, rfl⟩ := trodAll_nil r0
  obtain rfl : args = #[v0] := by cases args; simp_all
  obtain ⟨rfl, rfl⟩ := trodVars_none hV
  obtain ⟨a0, rfl, rfl, rfl, w0⟩ := open_string Try.underlying9 (hval 0 9 v0 rfl rfl) h0
  clear hA0 hval0
  have hwalk := crcOpens_walk a0 w0 W

  refine hwalk.mono fun e W' ⟨he, bel⟩ => ?_
  subst he
  exact ⟨_, rfl, _, _, _, [], _, [], hW', trodAll_mk1 (shut_bool Try.underlying4 _), (trodAll_cons_mk (shut_string Try.underlying9 w0) trodAll_mk0), rfl, bel.frame _, fun h => by cases h⟩

theorem crcOpens_over : Rows.crcOpensRow.holds Try.pinned (OpenSpec.ofChange Rows.crcOpensSpec) :=
  OpenClaim.holds_of_wide 5 Try.f5 rfl rfl rfl rfl rfl rfl rfl ⟨rfl, rfl, rfl, rfl, rfl⟩ rfl rfl rfl rfl rfl (by kernel_rfl) Try.func5 (by kernel_rfl)
    (of_decide_eq_true (by kernel_rfl)) (by unfold Func.isWrapper; first | (rw [if_pos (by decide +kernel)]; kernel_rfl) | (rw [if_neg (by decide +kernel)]; exact ⟨rfl, rfl⟩))
    (fun os started H enc _ => crcOpens_lifted os started H enc)

theorem crcOpens_holds : Rows.CrcOpensSaid := crcOpens_over
#print axioms crcOpens_holds
end Go.Proofs.Ytplknfdbgcdaoaa
