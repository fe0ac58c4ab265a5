/- For every frame the law EtherBack answers true: what was encoded is decoded, with bytes 0 behind its Data up to 45 of them, and is as long as Size says. No conditions. -/
import Derived.Test.YthlpehiloabfiaaRows
import Derived.Test.YthlpehiloabfiaaRe
import Derived.Test.YthlpehiloabfiaaRn
import Derived.Deep.RegionHeld3
import Derived.WalkKit
import Derived.ProofKit
import Derived.OpenShut
import Derived.ShutString
import Derived.ChangeOld
import Derived.Below
namespace Go.Proofs.Ythlpehiloabfiaa
open Go.ChangeShapes Go.WideShapes Go.ChangeAt Go.RowKit
open Go.ChangeMaps (open_string shut_string)
set_option linter.unusedVariables false

theorem etherBack_own : ownKnob Try.prog.godebug = none := by kernel_rfl
theorem etherBack_laid : laidOutB Try.prog = true := by kernel_rfl


open Go.Proofs.PitotEther
open Go.Proofs.Ythlpehiloabfiaa.Ad (lies_lt lies_below lies_alloc)

/-- Data with bytes 0 behind. -/
def padB (s : ByteArray) : ByteArray := ⟨(pad s.data.toList).toArray⟩
theorem padB_size (s : ByteArray) : (padB s).size = max s.size 45 := by
  show (pad s.data.toList).toArray.size = _
  simp [pad_length]
theorem padB_list (s : ByteArray) : (padB s).data.toList = pad s.data.toList := by simp [padB]
theorem padB_front (s : ByteArray) : (padB s).extract 0 s.size = s := by
  apply ByteArray.ext
  rw [← Array.toList_inj, Cr.extract_list, padB_list, List.drop_zero]
  have := pad_take s.data.toList
  simpa using this
theorem padB_zero (s : ByteArray) (j : Nat) (h1 : s.size ≤ j) (h2 : j < (padB s).size) (w : World) :
    (Instr.index 9 (.string (padB s)) (.int .i64 j)).run Try.prog w = .ok (.int .u8 0) w := by
  have hl : j < (pad s.data.toList).length := by rw [pad_length]; rw [padB_size] at h2; simpa using h2
  have := idx_run (padB s) 0 j h2 (by rw [padB_list, List.getElem?_eq_getElem hl, pad_zero s.data.toList j (by simpa using h1) hl]) w
  simpa using this

set_option maxRecDepth 100000 in
set_option maxHeartbeats 2000000 in
theorem etherBack_walk (a b c d : Int) (s : ByteArray) (_ha : (Lit.int .i64 a).wf = true) (_hb : (Lit.int .i64 b).wf = true) (_hc : (Lit.int .i64 c).wf = true) (_hd : (Lit.int .i64 d).wf = true) (hs : s.size ≤ maxLen) (w : World) :
    Calls Try.prog 5 #[fr a b c d s] w fun e w' => e = .returned (.bool true) ∧ Below w.heap.size w w' := by
  unfold maxLen at hs
  clear _ha _hb _hc _hd
  rcases enc_cases a b c d s (by omega) with ⟨e, he, H⟩ | ⟨v, n, k, q, rfl, rfl, rfl, rfl, hmay⟩
  · have H10 := Lib.hid H; clear H
    have he0 : ((e : Int) != 0) = true := by simp; omega
    have he1 : ¬ (e : Int) = 0 := by omega
    clear he
    go_enter Try.func5, Try.ntmps5
    go_wp2_with (first
      | (go_at_call 10; (with_reducible refine (H10.out _).mono ?_); rintro r w1 ⟨rfl, hb1⟩)
      | (go_at_call 9; (with_reducible refine (awake_any _).mono ?_); rintro r w2 ⟨rfl, hb2⟩))
    go_returns
    have k1 : Below w.heap.size w w1 := ((Below.refl _ w).alloc (Nat.le_refl _) _).trans (hb1.mono (by simp))
    exact ⟨rfl, k1.trans (hb2.mono k1.size)⟩
  · have H10 := Lib.hid (fun w => encode_may v n k q s w hmay)
    have H14 := Lib.hid (fun w => decode_may v n k q s w hmay)
    have H16 := Lib.hid (fun w => look_may v n k q s w hmay)
    have hd2 := hmay.d2
    have h12 := fun w => size_any s.size w (by omega)
    have hBs := outB_size v n k q s
    rw [sz_nat s.size hd2, ← hBs] at h12
    have H12 := Lib.hid h12; clear h12
    have hPs := padB_size s
    have hP0 := padB_zero s
    have hPf := padB_front s
    obtain ⟨B, HB⟩ : ∃ B, Hid (B = outB v n k q s) := ⟨_, rfl⟩
    obtain ⟨P, HP⟩ : ∃ B, Hid (B = padB s) := ⟨_, rfl⟩
    rw [← HB.out] at H10 H14 H16 H12 hBs
    have e14 : (⟨(pad s.data.toList).toArray⟩ : ByteArray) = P := HP.out.symm
    rw [e14] at H14
    clear e14
    rw [← HP.out] at hPs hP0 hPf
    have hB1 : B.size ≤ 1518 := by omega
    obtain ⟨z, Hz⟩ : ∃ z, Hid (z = B.size) := ⟨_, rfl⟩
    have HB2 := Lib.hid hBs; clear hBs
    have hp1 : s.size ≤ P.size := by omega
    have hp2 : P.size ≤ 1499 := by omega
    have HP0 := Lib.hid hP0; clear hP0
    have hmx : max (s.size : Int) 45 = (P.size : Int) := by omega
    have hmx' : ((s.size : Int) < 45 ∧ P.size = 45 ∧ (s.size : Int) ≤ 45) ∨ (¬ (s.size : Int) < 45 ∧ P.size = s.size ∧ (s.size : Int) ≤ s.size) := by omega
    have hz0 : (0 : Int) ≤ s.size := by omega
    have hz1 : (s.size : Int) ≤ P.size := by omega
    clear hmay hPs
    rcases hmx' with ⟨g1, g2, g3⟩ | ⟨g1, g2, g3⟩
    all_goals
      go_enter Try.func5, Try.ntmps5
      go_wp2_with (first
        | (go_at_call 10; (with_reducible refine (H10.out _).mono ?_); rintro r w1 ⟨rfl, hb1⟩
           (have L1 := lies_below (heap_alloc_new w (frC v n k q s)) hb1 (by simp))
           (have L1 := Lib.hid L1))
        | (go_at_call 14; (with_reducible refine (H14.out _).mono ?_); rintro r w2 ⟨rfl, hb2⟩
           (have L2 := Lib.hid (fun o => lies_alloc (lies_below L1.out hb2 (lies_lt L1.out)) o)))
        | (go_at_call 16; (with_reducible refine (H16.out _).mono ?_); rintro r w3 ⟨rfl, hb3⟩
           (have F3 := lies_below (L2.out (frC v n k q P)) hb3 (lies_lt (L2.out _)))
           (have G3 := lies_below (heap_alloc_new w2 (frC v n k q P)) hb3 (by simp))
           (obtain ⟨r0, r1, r2, r3, r4⟩ := five F3)
           (obtain ⟨t0, t1, t2, t3, t4⟩ := five G3)
           (have F3 := Lib.hid F3)
           (have G3 := Lib.hid G3))
        | (go_at_call 12; (with_reducible refine (H12.out _).mono ?_); rintro r w4 ⟨rfl, rfl⟩))
      go_loop [9] (fun x => ∃ j : Nat, s.size ≤ j ∧ j ≤ P.size ∧ x = .int .i64 j) (fun x => P.size - (intOf x).toNat)
      case atStart => exact ⟨s.size, Nat.le_refl _, hp1, rfl⟩
      case round =>
        obtain ⟨j, hj1, hj2, rfl⟩ := hrel
        by_cases hlt : j < P.size
        · first
            | (exfalso; omega; done)
            | (have hlt2 := hlt
               rw [g2] at hlt2
               have hi := HP0.out j hj1 hlt
               go_wp2
               go_round
               case rel => exact ⟨j + 1, by omega, by omega, by go_num⟩
               case measure => simp [intOf]; omega)
        · have hlt2 := hlt
          rw [g2] at hlt2
          go_upto_region 13 with (fail)
          have F4 : Hid (w3.drew.heap[w.heap.size]? = some (frC v n k q s)) := F3.out
          have G4 : Hid (w3.drew.heap[w2.heap.size]? = some (frC v n k q P)) := G3.out
          go_region_held3 (fun x => (x.cell? ⟨w.heap.size, 0, none⟩ = some (.int .i64 v) ∧ x.cell? ⟨w.heap.size, 1, none⟩ = some (.int .i64 n) ∧ x.cell? ⟨w.heap.size, 2, none⟩ = some (.int .i64 k) ∧ x.cell? ⟨w.heap.size, 3, none⟩ = some (.int .i64 q) ∧ x.cell? ⟨w.heap.size, 4, none⟩ = some (.string s)) ∧ (x.cell? ⟨w2.heap.size, 0, none⟩ = some (.int .i64 v) ∧ x.cell? ⟨w2.heap.size, 1, none⟩ = some (.int .i64 n) ∧ x.cell? ⟨w2.heap.size, 2, none⟩ = some (.int .i64 k) ∧ x.cell? ⟨w2.heap.size, 3, none⟩ = some (.int .i64 q) ∧ x.cell? ⟨w2.heap.size, 4, none⟩ = some (.string P)))
            (first | (with_reducible exact ⟨five F4.out, five G4.out⟩) | (with_reducible exact ⟨five (lies_below F4.out hb5 (lies_lt F4.out)), five (lies_below G4.out hb5 (lies_lt G4.out))⟩))
            (first
              | (go_at_call 9; (with_reducible refine (awake_any _).mono ?_); rintro r w5 ⟨rfl, hb5⟩))
          all_goals
            go_wp2
            go_returns
            have k1 : Below w.heap.size w w1 := ((Below.refl _ w).alloc (Nat.le_refl _) _).trans (hb1.mono (by simp))
            have k2 := k1.trans (hb2.mono k1.size)
            have k3 := k2.alloc k2.size (frC v n k q P)
            have k4 := (k3.trans (hb3.mono k3.size)).drew
            exact ⟨rfl, k4.trans (hb5.mono k4.size)⟩


set_option maxRecDepth 100000 in
theorem etherBack_lifted (os : Os) (started : os.Started) (H : Type) (enc : TypeId × Value → H) :
    ReturnsInHanded {} Try.checked os 5 .any (Rows.etherBackSpec.pre6 enc Try.prog Try.f5 Rows.etherBackRow.domain false) (Rows.etherBackSpec.post enc Try.prog Try.f5 false true false false) := by
  refine returnsInHanded_of_change (C := Try.checked) etherBack_own started (by kernel_rfl) Try.func5
    (ChangeSpec.witness6 (enc := enc) (C := Try.checked) false ⟨#[], #[.agg #[.int .i64 0, .int .i64 0, .int .i64 0, .int .i64 0, .string ByteArray.empty]], []⟩ 8 (by kernel_rfl) (by kernel_rfl) (by kernel_rfl) (by kernel_rfl)) ?_
  intro W base args ds gs before hval0 hW hcnd _
  have hval : ∀ (j : Nat) t v, Try.f5.params[j]? = some t → args[j]? = some v → Value.okWide Try.prog W .any base t v := hval0
  have hW' := hW
  obtain ⟨p, q, hA0, hV, rfl, hfz, hnd⟩ := hW
  have hA : DataW.TrodAll enc Try.prog W 0 (fun _ => true) true Try.f5.params.toList args.toList ds p := hA0
  rw [Try.params5] at hA hval
  obtain ⟨v0, vs0, d0, ds0, p0, q0, hargs, rfl, rfl, h0, r0⟩ := trodAll_cons hA
  obtain ⟨rfl, rfl, rfl⟩ := trodAll_nil r0
  obtain rfl : args = #[v0] := by cases args; simp_all
  obtain ⟨rfl, rfl⟩ := trodVars_none hV
  have k0 := h0
  have lt0 : ∀ x ∈ p0, x.block < W.heap.size := by obtain ⟨m, hm⟩ := k0; exact DataW.trod_lt m _ _ _ hm
  obtain ⟨fu0, hf0⟩ := h0
  obtain ⟨fa0, fb0, fc0, fd0, fs0, ga0, gb0, gc0, gd0, gs0, rfl⟩ := frame_open (hval 0 23 v0 rfl rfl) hf0
  clear hA0 hval0
  have hwalk := etherBack_walk fa0 fb0 fc0 fd0 fs0 ga0 gb0 gc0 gd0 gs0 W

  refine hwalk.mono fun e W' ⟨he, bel⟩ => ?_
  subst he
  exact ⟨_, rfl, _, _, _, [], _, [], hW', trodAll_mk1 (shut_bool Try.underlying4 _), (trodAll_cons_mk (Below.trod etherBack_laid (by kernel_rfl) (of_decide_eq_true (by kernel_rfl)) k0 bel lt0) trodAll_mk0), rfl, bel.frame _, fun h => by cases h⟩

theorem etherBack_over : Rows.etherBackRow.holds Try.pinned (OpenSpec.ofChange Rows.etherBackSpec) :=
  OpenClaim.holds_of_wide 5 Try.f5 rfl rfl rfl rfl rfl rfl rfl ⟨rfl, rfl, rfl, rfl, rfl⟩ rfl rfl rfl rfl rfl (by kernel_rfl) Try.func5 (by kernel_rfl)
    (of_decide_eq_true (by kernel_rfl)) (by unfold Func.isWrapper; first | (rw [if_pos (by decide +kernel)]; kernel_rfl) | (rw [if_neg (by decide +kernel)]; exact ⟨rfl, rfl⟩))
    (fun os started H enc _ => etherBack_lifted os started H enc)

theorem etherBack_holds : Rows.EtherBackSaid := etherBack_over
#print axioms etherBack_holds
end Go.Proofs.Ythlpehiloabfiaa
