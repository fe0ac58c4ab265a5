/- For every number of 32 bits and every string the law CrcTable answers true: the table and what it does to a number are as the document says. No conditions. -/
import Derived.Test.YtplknfdbgcdaoaaRows
import Derived.Test.YtplknfdbgcdaoaaOp
import Derived.WalkKit
import Derived.ProofKit
import Derived.OpenShut
import Derived.ShutString
import Derived.ChangeOld
import Derived.Below
namespace Go.Proofs.Ytplknfdbgcdaoaa
open Go.ChangeShapes Go.WideShapes Go.ChangeAt Go.RowKit
open Go.ChangeMaps (open_string shut_string)
set_option linter.unusedVariables false

theorem crcTable_own : ownKnob Try.prog.godebug = none := by kernel_rfl
theorem crcTable_laid : laidOutB Try.prog = true := by kernel_rfl

open Go.Proofs.PitotCrc in
theorem take_zero (k : Nat) (w : World) (hk : k < 256) : Calls Try.prog 11 #[.int .u32 0, .int .u8 k] w fun e w' => e = .returned (.int .u32 (mv k : Nat)) ∧ w' = w := by
  have h := take_any 0 (UInt8.ofNat k) w (by decide)
  have e1 : (UInt8.ofNat k).toNat = k := by simp; omega
  have e2 : tk 0 (UInt8.ofNat k) = mv k := by unfold tk; rw [e1, Nat.zero_xor]
  rw [e1, e2] at h
  exact h.mono fun e w' ⟨a, b⟩ => ⟨a, b.symm⟩

open Go.Proofs.PitotCrc in
set_option maxRecDepth 100000 in
set_option maxHeartbeats 1000000 in
theorem crcTable_walk (c : Int) (hc : (Lit.int .u32 c).wf = true) (s : ByteArray) (_hs : s.size ≤ maxLen) (w : World) :
    Calls Try.prog 3 #[.int .u32 c, .string s] w fun e w' => e = .returned (.bool true) ∧ Below w.heap.size w w' := by
  unfold maxLen at _hs
  have hcb := bounds_u32 hc
  clear hc
  obtain ⟨c, rfl⟩ := Int.eq_ofNat_of_zero_le hcb.1
  have hc : c < 4294967296 := by omega
  clear hcb
  by_cases hb : 5000 < s.size
  · go_enter Try.func3, Try.ntmps3
    go_wp2_with (first
      | (go_at_call 9; refine (make_any _).mono ?_; rintro e w1 ⟨rfl, ht1, hb1⟩; (have HT := Lib.hid ht1); clear ht1)
      | (go_at_call 10; refine (awake_any _).mono ?_; rintro e w2 ⟨rfl, hb2⟩))
    go_returns
    exact ⟨rfl, hb1.trans (hb2.mono hb1.size)⟩
  · have hs : s.size ≤ 100000 := by omega
    obtain ⟨R, HR⟩ : ∃ R, Hid (R = go c s.data.toList) := ⟨_, rfl⟩
    go_enter Try.func3, Try.ntmps3
    go_wp2_with (go_at_call 9; refine (make_any _).mono ?_; rintro e w1 ⟨rfl, ht1, hb1⟩; (have HT := Lib.hid ht1); clear ht1)
    go_loopw [6] (fun v6 wr => ∃ k : Nat, k ≤ 256 ∧ v6 = .int .i64 k ∧ Below w.heap.size w wr ∧ Hid (TabAt wr w.heap.size 256)) (fun v6 _ => 256 - (intOf v6).toNat)
    case atStart => exact ⟨0, Nat.zero_le _, rfl, hb1, HT⟩
    case round =>
      obtain ⟨k, hk, rfl, hbr, ht⟩ := hrel
      by_cases hlt : k < 256
      · have hcell : wr.cell? ⟨w.heap.size, k, none⟩ = some (.int .u32 (mv k : Nat)) := by
          rw [lies_cell ht.out]; simpa using tc_get 256 k hlt hlt
        have e1 : IntKind.u8.wrap (k : Int) = (k : Int) := by rw [IntKind.wrap_u8]; omega
        have i2 : (k : Int) < 256 := by omega
        obtain ⟨m, Hm⟩ : ∃ m, Hid (m = mv k) := ⟨_, rfl⟩
        have h11 := fun w => take_zero k w hlt
        rw [← Hm.out] at hcell h11
        have H11 := Lib.hid h11; clear h11
        go_wp2
        go_quiet ((go_at_call 11; exact Calls.quiet_of_same (H11.out _)))
        go_wp2
        go_roundw
        case rel => exact ⟨k + 1, by omega, by go_num, below_drewN hbr nq, ht.out⟩
        case measure => simp [intOf]; omega
      · go_wp2_with (first
          | (go_at_call 12; (with_reducible refine (go_any w.heap.size c s _ ht.out hc hs).mono ?_); rintro e w2 ⟨rfl, hb2⟩; rw [← HR.out])
          | (go_at_call 13; refine (refGo_any c s _ hc hs).mono ?_; rintro e w3 ⟨rfl, rfl⟩; rw [← HR.out])
          | (go_at_call 12; (with_reducible refine (go_nilT _ _ _).mono ?_); rintro e w4 ⟨rfl, rfl⟩)
          | (go_at_call 10; refine (awake_any _).mono ?_; rintro e w5 ⟨rfl, hb5⟩))
        go_returns
        have k2 := hbr.trans (hb2.mono hbr.size)
        exact ⟨rfl, k2.trans (hb5.mono k2.size)⟩

set_option maxRecDepth 100000 in
theorem crcTable_lifted (os : Os) (started : os.Started) (H : Type) (enc : TypeId × Value → H) :
    ReturnsInHanded {} Try.checked os 3 .any (Rows.crcTableSpec.pre6 enc Try.prog Try.f3 Rows.crcTableRow.domain false) (Rows.crcTableSpec.post enc Try.prog Try.f3 false true false false) := by
  refine returnsInHanded_of_change (C := Try.checked) crcTable_own started (by kernel_rfl) Try.func3
    (ChangeSpec.witness6 (enc := enc) (C := Try.checked) false ⟨#[], #[.int .u32 0, .string ByteArray.empty], []⟩ 8 (by kernel_rfl) (by kernel_rfl) (by kernel_rfl) (by kernel_rfl)) ?_
  intro W base args ds gs before hval0 hW hcnd _
  have hval : ∀ (j : Nat) t v, Try.f3.params[j]? = some t → args[j]? = some v → Value.okWide Try.prog W .any base t v := hval0
  have hW' := hW
  obtain ⟨p, q, hA0, hV, rfl, hfz, hnd⟩ := hW
  have hA : DataW.TrodAll enc Try.prog W 0 (fun _ => true) true Try.f3.params.toList args.toList ds p := hA0
  rw [Try.params3] at hA hval
  obtain ⟨v0, vs0, d0, ds0, p0, q0, hargs, rfl, rfl, h0, r0⟩ := trodAll_cons hA
  obtain ⟨v1, vs1, d1, ds1, p1, q1, rfl, rfl, rfl, h1, r1⟩ := trodAll_cons r0
  obtain ⟨rfl, rfl, rfl⟩ := trodAll_nil r1
  obtain rfl : args = #[v0, v1] := by cases args; simp_all
  obtain ⟨rfl, rfl⟩ := trodVars_none hV
  obtain ⟨a0, rfl, rfl, rfl, w0⟩ := open_int Try.underlying22 (hval 0 22 v0 rfl rfl) h0
  obtain ⟨a1, rfl, rfl, rfl, w1⟩ := open_string Try.underlying9 (hval 1 9 v1 rfl rfl) h1
  clear hA0 hval0
  have hwalk := crcTable_walk a0 w0 a1 w1 W

  refine hwalk.mono fun e W' ⟨he, bel⟩ => ?_
  subst he
  exact ⟨_, rfl, _, _, _, [], _, [], hW', trodAll_mk1 (shut_bool Try.underlying4 _), (trodAll_cons_mk (shut_int Try.underlying22 w0) (trodAll_cons_mk (shut_string Try.underlying9 w1) trodAll_mk0)), rfl, bel.frame _, fun h => by cases h⟩

theorem crcTable_over : Rows.crcTableRow.holds Try.pinned (OpenSpec.ofChange Rows.crcTableSpec) :=
  OpenClaim.holds_of_wide 3 Try.f3 rfl rfl rfl rfl rfl rfl rfl ⟨rfl, rfl, rfl, rfl, rfl⟩ rfl rfl rfl rfl rfl (by kernel_rfl) Try.func3 (by kernel_rfl)
    (of_decide_eq_true (by kernel_rfl)) (by unfold Func.isWrapper; first | (rw [if_pos (by decide +kernel)]; kernel_rfl) | (rw [if_neg (by decide +kernel)]; exact ⟨rfl, rfl⟩))
    (fun os started H enc _ => crcTable_lifted os started H enc)

theorem crcTable_holds : Rows.CrcTableSaid := crcTable_over
#print axioms crcTable_holds
end Go.Proofs.Ytplknfdbgcdaoaa
