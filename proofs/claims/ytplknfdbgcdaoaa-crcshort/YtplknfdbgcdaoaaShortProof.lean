/- For every string and every place the law CrcShort answers true: too short a beginning of a sealed text is ErrShort, and one byte more behind it is told. No conditions. -/
import Derived.Test.YtplknfdbgcdaoaaRows
import Derived.Test.YtplknfdbgcdaoaaOp
import Derived.WalkKit
import Derived.ProofKit
import Derived.OpenShut
import Derived.ShutString
import Derived.ChangeOld
import Derived.Below
namespace Go.Proofs.Ytplknfdbgcdaoaa
open Go.ChangeShapes Go.WideShapes Go.ChangeAt Go.RowKit
open Go.ChangeMaps (open_string shut_string)
set_option linter.unusedVariables false

theorem crcShort_own : ownKnob Try.prog.godebug = none := by kernel_rfl
theorem crcShort_laid : laidOutB Try.prog = true := by kernel_rfl

open Go.Proofs.PitotCrc in
set_option maxRecDepth 100000 in
set_option maxHeartbeats 2000000 in
theorem crcShort_walk (s : ByteArray) (_hs : s.size ≤ maxLen) (at_ : Int) (hat : (Lit.int .i64 at_).wf = true) (w : World) :
    Calls Try.prog 8 #[.string s, .int .i64 at_] w fun e w' => e = .returned (.bool true) ∧ Below w.heap.size w w' := by
  unfold maxLen at _hs
  have hab := bounds_i64 hat
  clear hat
  by_cases h1 : 3000 < s.size
  · go_enter Try.func8, Try.ntmps8
    go_wp2_with (go_at_call 10; refine (awake_any _).mono ?_; rintro e w1 ⟨rfl, hb1⟩)
    go_returns
    exact ⟨rfl, hb1⟩
  · by_cases h2 : at_ < 0
    · go_enter Try.func8, Try.ntmps8
      go_wp2_with (go_at_call 10; refine (awake_any _).mono ?_; rintro e w1 ⟨rfl, hb1⟩)
      go_returns
      exact ⟨rfl, hb1⟩
    · by_cases h3 : 3 < at_
      · go_enter Try.func8, Try.ntmps8
        go_wp2_with (go_at_call 10; refine (awake_any _).mono ?_; rintro e w1 ⟨rfl, hb1⟩)
        go_returns
        exact ⟨rfl, hb1⟩
      · obtain ⟨k, rfl⟩ := Int.eq_ofNat_of_zero_le (show 0 ≤ at_ by omega)
        have hs : s.size ≤ 100000 := by omega
        obtain ⟨B, HB⟩ : ∃ B, Hid (B = sealB s) := ⟨_, rfl⟩
        have hBs : B.size = s.size + 4 := by rw [HB.out, sealB_size]
        have hXs : (B ++ ⟨#[120]⟩).size = (s.size + 1) + 4 := by rw [ByteArray.size_append, hBs]; rfl
        have hks : (B.extract 0 k).size < 4 := by rw [ByteArray.size_extract]; omega
        have hEx : (B ++ ⟨#[120]⟩).extract 0 (s.size + 1) = B.extract 0 (s.size + 1) := by
          apply ByteArray.ext
          rw [← Array.toList_inj, extract_list, extract_list, ByteArray.data_append, Array.toList_append, List.take_append_of_le_length (by simp; omega)]
        have hop := fun w => open_long (B ++ ⟨#[120]⟩) w (s.size + 1) hXs (by omega)
        have htest := refOpen_test (B ++ ⟨#[120]⟩) (s.size + 1) hXs
        rw [hEx] at htest hop
        have hpz : (B.extract 0 (s.size + 1)).size ≤ 100000 := by rw [ByteArray.size_extract]; omega
        obtain ⟨P, HP⟩ : ∃ P, Hid (P = B.extract 0 (s.size + 1)) := ⟨_, rfl⟩
        rw [← HP.out] at htest hpz hop
        obtain ⟨Q, HQ⟩ : ∃ Q, Hid (Q = sealB P) := ⟨_, rfl⟩
        rw [← HQ.out] at htest
        have hex : B.extract 0 (s.size + 1) = P := HP.out.symm
        have e3 : (s.size : Int) + 4 - 3 = ((s.size + 1 : Nat) : Int) := by omega
        obtain ⟨ok, Hok⟩ : ∃ ok, Hid (ok = opened (B ++ ⟨#[120]⟩).data.toList) := ⟨_, rfl⟩
        rw [← Hok.out] at htest hop
        have HOP := Lib.hid hop
        have HXS := Lib.hid hXs
        have HEX := Lib.hid hEx
        clear hop hXs hEx
        cases ok
        all_goals
          go_enter Try.func8, Try.ntmps8
          go_wp2_with (first
            | (go_at_call 18; (with_reducible refine (seal_any s _ hs).mono ?_); rintro e w1 ⟨rfl, hb1⟩; rw [← HB.out])
            | (go_at_call 16; (with_reducible refine (open_short (B.extract 0 k) _ hks).mono ?_); rintro e w2 ⟨rfl, rfl⟩)
            | (go_at_call 16; (with_reducible refine (HOP.out _).mono ?_); rintro e w3 ⟨he3, hb3⟩; (obtain rfl := he3.out))
            | (go_at_call 18; (with_reducible refine (seal_any P _ hpz).mono ?_); rintro e w4 ⟨rfl, hb4⟩; rw [← HQ.out])
            | (go_at_call 10; refine (awake_any _).mono ?_; rintro e w5 ⟨rfl, hb5⟩))
          go_returns
          have k2 := hb1.trans (hb3.mono hb1.size)
          have k3 := k2.trans (hb4.mono k2.size)
          exact ⟨rfl, k3.trans (hb5.mono k3.size)⟩

set_option maxRecDepth 100000 in
theorem crcShort_lifted (os : Os) (started : os.Started) (H : Type) (enc : TypeId × Value → H) :
    ReturnsInHanded {} Try.checked os 8 .any (Rows.crcShortSpec.pre6 enc Try.prog Try.f8 Rows.crcShortRow.domain false) (Rows.crcShortSpec.post enc Try.prog Try.f8 false true false false) := by
  refine returnsInHanded_of_change (C := Try.checked) crcShort_own started (by kernel_rfl) Try.func8
    (ChangeSpec.witness6 (enc := enc) (C := Try.checked) false ⟨#[], #[.string ByteArray.empty, .int .i64 0], []⟩ 8 (by kernel_rfl) (by kernel_rfl) (by kernel_rfl) (by kernel_rfl)) ?_
  intro W base args ds gs before hval0 hW hcnd _
  have hval : ∀ (j : Nat) t v, Try.f8.params[j]? = some t → args[j]? = some v → Value.okWide Try.prog W .any base t v := hval0
  have hW' := hW
  obtain ⟨p, q, hA0, hV, rfl, hfz, hnd⟩ := hW
  have hA : DataW.TrodAll enc Try.prog W 0 (fun _ => true) true Try.f8.params.toList args.toList ds p := hA0
  rw [Try.params8] at hA hval
  obtain ⟨v0, vs0, d0, ds0, p0, q0, hargs, rfl, rfl, h0, r0⟩ := trodAll_cons hA
  obtain ⟨v1, vs1, d1, ds1, p1, q1, rfl, rfl, rfl, h1, r1⟩ := trodAll_cons r0
  obtain ⟨rfl, rfl, rfl⟩ := trodAll_nil r1
  obtain rfl : args = #[v0, v1] := by cases args; simp_all
  obtain ⟨rfl, rfl⟩ := trodVars_none hV
  obtain ⟨a0, rfl, rfl, rfl, w0⟩ := open_string Try.underlying9 (hval 0 9 v0 rfl rfl) h0
  obtain ⟨a1, rfl, rfl, rfl, w1⟩ := open_int Try.underlying3 (hval 1 3 v1 rfl rfl) h1
  clear hA0 hval0
  have hwalk := crcShort_walk a0 w0 a1 w1 W

  refine hwalk.mono fun e W' ⟨he, bel⟩ => ?_
  subst he
  exact ⟨_, rfl, _, _, _, [], _, [], hW', trodAll_mk1 (shut_bool Try.underlying4 _), (trodAll_cons_mk (shut_string Try.underlying9 w0) (trodAll_cons_mk (shut_int Try.underlying3 w1) trodAll_mk0)), rfl, bel.frame _, fun h => by cases h⟩

theorem crcShort_over : Rows.crcShortRow.holds Try.pinned (OpenSpec.ofChange Rows.crcShortSpec) :=
  OpenClaim.holds_of_wide 8 Try.f8 rfl rfl rfl rfl rfl rfl rfl ⟨rfl, rfl, rfl, rfl, rfl⟩ rfl rfl rfl rfl rfl (by kernel_rfl) Try.func8 (by kernel_rfl)
    (of_decide_eq_true (by kernel_rfl)) (by unfold Func.isWrapper; first | (rw [if_pos (by decide +kernel)]; kernel_rfl) | (rw [if_neg (by decide +kernel)]; exact ⟨rfl, rfl⟩))
    (fun os started H enc _ => crcShort_lifted os started H enc)

theorem crcShort_holds : Rows.CrcShortSaid := crcShort_over
#print axioms crcShort_holds
end Go.Proofs.Ytplknfdbgcdaoaa
