/- For every frame the law EtherSides answers true: a frame's bytes on A and on B are the same but for one byte of the address and the sum. No conditions. -/
import Derived.Test.YthlpehiloabfiaaRows
import Derived.Test.YthlpehiloabfiaaEx
import Derived.WalkKit
import Derived.ProofKit
import Derived.OpenShut
import Derived.ShutString
import Derived.ChangeOld
import Derived.Below
namespace Go.Proofs.Ythlpehiloabfiaa
open Go.ChangeShapes Go.WideShapes Go.ChangeAt Go.RowKit
open Go.ChangeMaps (open_string shut_string)
set_option linter.unusedVariables false

theorem etherSides_own : ownKnob Try.prog.godebug = none := by kernel_rfl
theorem etherSides_laid : laidOutB Try.prog = true := by kernel_rfl

open Go.Proofs.PitotEther
open Go.Proofs.Ythlpehiloabfiaa.Ad (lies_lt lies_frozen lies_below)
open Go.Proofs.Ythlpehiloabfiaa.Bi (lies_set)

theorem side_list (v n k q : Nat) (s : ByteArray) : (outB v n k q s).data.toList = PitotEther.bytes v n k q s.data.toList := by simp [outB]
theorem ext_eq {A B : ByteArray} {i j : Nat} (h : (A.data.toList.take j).drop i = (B.data.toList.take j).drop i) : A.extract i j = B.extract i j := by
  apply ByteArray.ext
  rw [← Array.toList_inj, Cr.extract_list, Cr.extract_list, h]
theorem index_at (B : ByteArray) (x : UInt8) (j : Nat) (hj : j < B.size) (hb : B.size ≤ 100000) (h : B.data.toList[j]? = some x) (w : World) :
    (Instr.index 9 (.string B) (.int .i64 j)).run Try.prog w = .ok (.int .u8 x.toNat) w := by
  have h1 : B[j]'hj = x := by
    have : B[j]'hj = B.data.toList[j]'(by simpa using hj) := by simp; rfl
    rw [this]
    exact (List.getElem?_eq_some_iff.1 h).2
  simp [Instr.index, go_sem, h1, hj]

set_option maxRecDepth 100000 in
set_option maxHeartbeats 2000000 in
theorem etherSides_walk (a b c d : Int) (s : ByteArray) (_ha : (Lit.int .i64 a).wf = true) (_hb : (Lit.int .i64 b).wf = true) (_hc : (Lit.int .i64 c).wf = true) (_hd : (Lit.int .i64 d).wf = true) (hs : s.size ≤ maxLen) (w : World) :
    Calls Try.prog 8 #[fr a b c d s] w fun e w' => e = .returned (.bool true) ∧ Below w.heap.size w w' := by
  unfold maxLen at hs
  clear _ha _hb _hc _hd
  rcases enc_sides a b d s (by omega) with ⟨e, he, H0, H1⟩ | ⟨v, n, q, rfl, rfl, rfl, hm0, hm1⟩
  · have HA := Lib.hid H0; clear H0
    have HB := Lib.hid H1; clear H1
    have he0 : ((e : Int) != 0) = true := by simp; omega
    have he1 : ¬ (e : Int) = 0 := by omega
    clear he
    go_enter Try.func8, Try.ntmps8
    go_wp2_with (first
      | (go_at_call 10; (with_reducible refine (HA.out _).mono ?_); rintro r w1 ⟨rfl, hb1⟩
         (have L1 := lies_below (heap_alloc_new w (frC a b 0 d s)) hb1 (by simp))
         (obtain ⟨r0, r1, r2, r3, r4⟩ := five L1)
         (have f2 := lies_frozen L1 2)
         (have L2 := lies_set L1 2 (.int .i64 1))
         (obtain ⟨g0, g1, g2, g3, g4⟩ := five L2)
         (have L1 := Lib.hid L1)
         (have L2 := Lib.hid L2))
      | (go_at_call 10; (with_reducible refine (HB.out _).mono ?_); rintro r w2 ⟨rfl, hb2⟩)
      | (go_at_call 9; (with_reducible refine (awake_any _).mono ?_); rintro r w3 ⟨rfl, hb3⟩))
    go_returns
    have k1 : Below w.heap.size w w1 := ((Below.refl _ w).alloc (Nat.le_refl _) _).trans (hb1.mono (by simp))
    have k2 := k1.setCell (p := ⟨w.heap.size, 2, none⟩) (Nat.le_refl _) (.int .i64 1)
    have k3 := k2.trans (hb2.mono k2.size)
    exact ⟨rfl, k3.trans (hb3.mono k3.size)⟩
  · have HA := Lib.hid (fun w => encode_may v n 0 q s w hm0)
    have HB := Lib.hid (fun w => encode_may v n 1 q s w hm1)
    have z0 := outB_size v n 0 q s
    have z1 := outB_size v n 1 q s
    have hd2 := hm0.d2
    obtain ⟨m, hm⟩ : ∃ m, max s.size 45 + 19 = m + 4 := ⟨max s.size 45 + 15, by omega⟩
    have hmm : m = max s.size 45 + 15 := by omega
    have hm60 : 60 ≤ m := by omega
    have hmx : m ≤ 1514 := by omega
    rw [hm] at z0 z1
    have hS := sides v n q s.data.toList
    have hl : s.data.toList.length = s.size := by simp
    rw [hl, ← hmm, ← side_list, ← side_list] at hS
    obtain ⟨B0, HB0⟩ : ∃ B, Hid (B = outB v n 0 q s) := ⟨_, rfl⟩
    obtain ⟨B1, HB1⟩ : ∃ B, Hid (B = outB v n 1 q s) := ⟨_, rfl⟩
    rw [← HB0.out] at z0 hS
    rw [← HB1.out] at z1 hS
    have c0 : ((0 : Nat) : Int) = 0 := rfl
    have c1 : ((1 : Nat) : Int) = 1 := rfl
    rw [← HB0.out, c0] at HA
    rw [← HB1.out, c1] at HB
    obtain ⟨s1, s2, s3, s4, s5⟩ := hS
    have e1 : B1.extract 0 11 = B0.extract 0 11 := ext_eq (by rw [s1])
    have e2 : B1.extract 12 m = B0.extract 12 m := ext_eq s2.symm
    have i0 := fun w => index_at B0 32 11 (by omega) (by omega) s3 w
    have i1 := fun w => index_at B1 64 11 (by omega) (by omega) s4 w
    have t0 : (B0.extract m (m + 4)).toList = B0.data.toList.drop m := by
      rw [ByteArray.toList_eq, Cr.extract_list, List.take_of_length_le (by simp; omega)]
    have t1 : (B1.extract m (m + 4)).toList = B1.data.toList.drop m := by
      rw [ByteArray.toList_eq, Cr.extract_list, List.take_of_length_le (by simp; omega)]
    have n1 : ((B0.extract m (m + 4)).toList == (B1.extract m (m + 4)).toList) = false := by rw [t0, t1]; simpa using s5
    have n2 : ((B0.extract m (m + 4)).toList != (B1.extract m (m + 4)).toList) = true := by rw [bne, n1]; rfl
    have n3 : ¬ (B0.extract m (m + 4)).toList = (B1.extract m (m + 4)).toList := by rw [t0, t1]; exact s5
    have w32 : ((32 : UInt8).toNat : Int) = 32 := rfl
    have w64 : ((64 : UInt8).toNat : Int) = 64 := rfl
    have c11 : ((11 : Nat) : Int) = 11 := rfl
    rw [w32, c11] at i0
    rw [w64, c11] at i1
    clear w32 w64 c11 t0 t1 s1 s2 s3 s4 s5 c0 c1 hl hmm hm hd2 hm0 hm1
    obtain ⟨X0, x0⟩ : ∃ X, B0.extract 0 11 = X := ⟨_, rfl⟩
    obtain ⟨X1, x1⟩ : ∃ X, B0.extract 12 m = X := ⟨_, rfl⟩
    obtain ⟨X2, x2⟩ : ∃ X, B0.extract m (m + 4) = X := ⟨_, rfl⟩
    obtain ⟨X3, x3⟩ : ∃ X, B1.extract m (m + 4) = X := ⟨_, rfl⟩
    rw [x0] at e1
    rw [x1] at e2
    rw [x2, x3] at n1 n2 n3
    go_enter Try.func8, Try.ntmps8
    go_upto_region 10 with (first
      | (go_at_call 10; (with_reducible refine (HA.out _).mono ?_); rintro r w1 ⟨rfl, hb1⟩
         (have L1 := lies_below (heap_alloc_new w (frC v n 0 q s)) hb1 (by simp))
         (obtain ⟨r0, r1, r2, r3, r4⟩ := five L1)
         (have f2 := lies_frozen L1 2)
         (have L2 := lies_set L1 2 (.int .i64 1))
         (obtain ⟨g0, g1, g2, g3, g4⟩ := five L2)
         (have L1 := Lib.hid L1)
         (have L2 := Lib.hid L2))
      | (go_at_call 10; (with_reducible refine (HB.out _).mono ?_); rintro r w2 ⟨rfl, hb2⟩))
    have hr1 : (11 : Int) ≤ (m : Int) + 4 := by omega
    have hr2 : (12 : Int) ≤ (m : Int) := by omega
    have hr3 : (0 : Int) ≤ (m : Int) := by omega
    have hr4 : (m : Int) ≤ (m : Int) + 4 := by omega
    have hr5 : (11 : Int) ≤ (B0.size : Int) := by omega
    have hr6 : (11 : Int) ≤ (B1.size : Int) := by omega
    have hr7 : (m : Int) ≤ (B0.size : Int) := by omega
    have hr8 : (m : Int) ≤ (B1.size : Int) := by omega
    go_region_held3 (fun _ => True) (trivial) (first
      | (go_at_call 9; (with_reducible refine (awake_any _).mono ?_); rintro r w3 ⟨rfl, hb3⟩))
    all_goals
      go_wp2
      go_returns
      have k1 : Below w.heap.size w w1 := ((Below.refl _ w).alloc (Nat.le_refl _) _).trans (hb1.mono (by simp))
      have k2 := k1.setCell (p := ⟨w.heap.size, 2, none⟩) (Nat.le_refl _) (.int .i64 1)
      have k3 := (k2.trans (hb2.mono k2.size)).drew
      exact ⟨rfl, k3.trans (hb3.mono k3.size)⟩


set_option maxRecDepth 100000 in
theorem etherSides_lifted (os : Os) (started : os.Started) (H : Type) (enc : TypeId × Value → H) :
    ReturnsInHanded {} Try.checked os 8 .any (Rows.etherSidesSpec.pre6 enc Try.prog Try.f8 Rows.etherSidesRow.domain false) (Rows.etherSidesSpec.post enc Try.prog Try.f8 false true false false) := by
  refine returnsInHanded_of_change (C := Try.checked) etherSides_own started (by kernel_rfl) Try.func8
    (ChangeSpec.witness6 (enc := enc) (C := Try.checked) false ⟨#[], #[.agg #[.int .i64 0, .int .i64 0, .int .i64 0, .int .i64 0, .string ByteArray.empty]], []⟩ 8 (by kernel_rfl) (by kernel_rfl) (by kernel_rfl) (by kernel_rfl)) ?_
  intro W base args ds gs before hval0 hW hcnd _
  have hval : ∀ (j : Nat) t v, Try.f8.params[j]? = some t → args[j]? = some v → Value.okWide Try.prog W .any base t v := hval0
  have hW' := hW
  obtain ⟨p, q, hA0, hV, rfl, hfz, hnd⟩ := hW
  have hA : DataW.TrodAll enc Try.prog W 0 (fun _ => true) true Try.f8.params.toList args.toList ds p := hA0
  rw [Try.params8] at hA hval
  obtain ⟨v0, vs0, d0, ds0, p0, q0, hargs, rfl, rfl, h0, r0⟩ := trodAll_cons hA
  obtain ⟨rfl, rfl, rfl⟩ := trodAll_nil r0
  obtain rfl : args = #[v0] := by cases args; simp_all
  obtain ⟨rfl, rfl⟩ := trodVars_none hV
  have k0 := h0
  have lt0 : ∀ x ∈ p0, x.block < W.heap.size := by obtain ⟨m, hm⟩ := k0; exact DataW.trod_lt m _ _ _ hm
  obtain ⟨fu0, hf0⟩ := h0
  obtain ⟨fa0, fb0, fc0, fd0, fs0, ga0, gb0, gc0, gd0, gs0, rfl⟩ := frame_open (hval 0 23 v0 rfl rfl) hf0
  clear hA0 hval0
  have hwalk := etherSides_walk fa0 fb0 fc0 fd0 fs0 ga0 gb0 gc0 gd0 gs0 W

  refine hwalk.mono fun e W' ⟨he, bel⟩ => ?_
  subst he
  exact ⟨_, rfl, _, _, _, [], _, [], hW', trodAll_mk1 (shut_bool Try.underlying4 _), (trodAll_cons_mk (Below.trod etherSides_laid (by kernel_rfl) (of_decide_eq_true (by kernel_rfl)) k0 bel lt0) trodAll_mk0), rfl, bel.frame _, fun h => by cases h⟩

theorem etherSides_over : Rows.etherSidesRow.holds Try.pinned (OpenSpec.ofChange Rows.etherSidesSpec) :=
  OpenClaim.holds_of_wide 8 Try.f8 rfl rfl rfl rfl rfl rfl rfl ⟨rfl, rfl, rfl, rfl, rfl⟩ rfl rfl rfl rfl rfl (by kernel_rfl) Try.func8 (by kernel_rfl)
    (of_decide_eq_true (by kernel_rfl)) (by unfold Func.isWrapper; first | (rw [if_pos (by decide +kernel)]; kernel_rfl) | (rw [if_neg (by decide +kernel)]; exact ⟨rfl, rfl⟩))
    (fun os started H enc _ => etherSides_lifted os started H enc)

theorem etherSides_holds : Rows.EtherSidesSaid := etherSides_over
#print axioms etherSides_holds
end Go.Proofs.Ythlpehiloabfiaa
