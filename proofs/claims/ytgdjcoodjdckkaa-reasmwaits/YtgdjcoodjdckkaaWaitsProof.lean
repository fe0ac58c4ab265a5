/- For every wait and tick the law ReasmWaits answers true: a packet that is begun is given up just when more than so many ticks have passed. No conditions. -/
import Derived.Test.YtgdjcoodjdckkaaRows
import Derived.Test.YtgdjcoodjdckkaaM8
import Derived.WalkKit
import Derived.IntWalk
import Derived.Deep.RegionHeld3
import Derived.StillTailTactics
import Derived.ProofKit
import Derived.OpenShut
import Derived.ShutString
import Derived.ChangeOld
import Derived.Below
set_option linter.unusedVariables false
namespace Go.Proofs.Ytgdjcoodjdckkaa
open Go.ChangeShapes Go.WideShapes Go.ChangeAt Go.RowKit
open Go.ChangeMaps (open_string shut_string)
set_option linter.unusedVariables false

theorem reasmWaits_own : ownKnob Try.prog.godebug = none := by kernel_rfl
theorem reasmWaits_laid : laidOutB Try.prog = true := by kernel_rfl


open Go.Proofs.PitotIp Go.Maps
open Go.Proofs.PitotReasm (Bg Tb Fine bad first next passed passE put keep)
open Go.Proofs.Ytgdjcoodjdckkaa.Bi (lies_lt lies_cell lies_frozen lies_alloc lies_set)
set_option maxRecDepth 100000 in
set_option maxHeartbeats 4000000 in
theorem waits_ahead (wait now : Int) (h1 : 0 ≤ wait) (h2 : wait ≤ 1000000) (h3 : 0 ≤ now) (h4 : now ≤ 2000000) (h5 : now < 5) (w : World) : Calls Try.prog 6 #[.int .i64 wait, .int .i64 now] w fun e w' => e = .returned (.bool true) ∧ Below w.heap.size w w' := by
  have HA := Lib.hid awake_any
  have HN : Calls Try.prog 9 #[.int .i64 1, .int .i64 wait] w fun e w' => ∃ tp, e = .returned (.tuple #[.pointer (some ⟨tp, 0, none⟩), .int .i64 0]) ∧ TabAt w.heap.size w' tp ((1 : Nat) : Int) wait t0 ∧ Below w.heap.size w w' := new_ok w 1 wait (by omega) (by omega) (by omega) (by omega)
  have HN := Lib.hid HN
  obtain ⟨h1, g1⟩ := call_put (base := w.heap.size) (p := pA) wfA (k := kA) rfl (put1 1 wait 5 (by omega) (by omega) (by omega)) (good_new 1) (by omega) (by decide) (by omega) (by omega) (by decide)
  have hb := fun (V : World) (tp : Nat) (h : TabAt w.heap.size V tp ((1 : Nat) : Int) wait ⟨[⟨kA, 5, dA⟩], 5, 0⟩) => pass_bad h now (by simp [passE]; omega)
  have eP : passE (⟨[⟨kA, 5, dA⟩], 5, 0⟩ : Tb K UInt8) now = 24 := by simp [passE]; omega
  rw [eP] at hb
  have hk := fun (V : World) (tp : Nat) (h : TabAt w.heap.size V tp ((1 : Nat) : Int) wait ⟨[⟨kA, 5, dA⟩], 5, 0⟩) => keys_any h (by decide)
  simp only [List.length_cons, List.length_nil, Nat.zero_add, List.map_cons, List.map_nil] at hk
  obtain ⟨S1, HT1⟩ : ∃ T : Tb K UInt8, Hid (T = ⟨[⟨kA, 5, dA⟩], 5, 0⟩) := ⟨_, rfl⟩
  rw [← HT1.out] at h1 hb hk
  have Hb := Lib.hid hb; have Hk := Lib.hid hk
  clear hb hk g1 eP
  have HPA := fun w => parts_any w
  obtain ⟨Z1, HZ1⟩ : ∃ Q : Pk, Hid (Q = ansP pA none) := ⟨_, rfl⟩
  rw [← HZ1.out] at h1
  obtain ⟨A, HA2⟩ : ∃ A, Hid (A = pA) := ⟨_, rfl⟩
  obtain ⟨B, HB⟩ : ∃ A, Hid (A = pB) := ⟨_, rfl⟩
  rw [← HA2.out] at h1
  rw [← HA2.out, ← HB.out] at HPA
  simp only [Option.isSome_none] at h1
  have H1 := Lib.hid h1; clear h1
  have HPA := Lib.hid HPA
  have e1 : decide (wait < 0) = false := decide_eq_false (by omega)
  have e2 : decide (1000000 < wait) = false := decide_eq_false (by omega)
  have e3 : decide (now < 0) = false := decide_eq_false (by omega)
  have e4 : decide (2000000 < now) = false := decide_eq_false (by omega)
  have e5 : decide (now < 5) = true := decide_eq_true h5
  clear h1 h2 h3 h4 h5
  go_enter Try.func6, Try.ntmps6
  go_upto_region 7 with (first
    | (go_at_call 9; (with_reducible refine HN.out.mono ?_); rintro e Vn ⟨tp, rfl, hTn, hBn⟩)
    | (go_at_call 22; (with_reducible refine (HPA.out _).mono ?_); rintro e V0 ⟨rfl, hV⟩
       (have T0 : Hid (TabAt w.heap.size V0 tp ((1 : Nat) : Int) wait t0) := by show TabAt _ _ _ _ _ _; rw [hV]; exact hTn.alloc _)
       (have L0 : Hid (V0.heap[Vn.heap.size]? = some (partsC A B)) := by show _ = _; rw [hV]; exact heap_alloc_new Vn _)
       (have B0 : Hid (Below w.heap.size w V0) := by show Below _ _ _; rw [hV]; exact hBn.alloc hBn.size _)
       (clear hTn hBn hV e1 e2 e3 e4)))
  generalize Vn.heap.size = g at L0 ⊢
  obtain ⟨a0, a1, a2, a3, a4, a5, a6, a7, a8, a9, a10, a11, a12, a13⟩ := parts_a L0.out
  go_upto_region 8 with (first
    | (go_at_call 14; (with_reducible refine (H1.out _ _ T0.out).mono ?_); rintro e V1 ⟨rfl, hT, hF⟩
       (have T1 := Lib.hid hT; have L1 := Lib.hid (fr_parts L0.out hF); have B1 := Lib.hid (B0.out.trans hF.below); clear hT hF a0 a1 a2 a3 a4 a5 a6 a7 a8 a9 a10 a11 a12 a13)))
  go_wp2_with (first
    | (go_at_call 12; (with_reducible refine (Hb.out _ _ T1.out).mono ?_); rintro e w2 ⟨rfl, rfl⟩)
    | (go_at_call 17; (with_reducible refine (Hk.out _ _ T1.out).mono ?_); rintro e w3 ⟨⟨A3, c3, rfl, hk3⟩, hb3⟩)
    | (go_at_call 11; (with_reducible refine (HA.out _).mono ?_); rintro e w4 ⟨rfl, hb4⟩))
  go_returns
  have k1 := B1.out.trans (hb3.mono B1.out.size)
  exact ⟨rfl, k1.trans (hb4.mono k1.size)⟩

set_option maxRecDepth 100000 in
set_option maxHeartbeats 4000000 in
theorem waits_soon (wait now : Int) (h1 : 0 ≤ wait) (h2 : wait ≤ 1000000) (h3 : 0 ≤ now) (h4 : now ≤ 2000000) (h5 : 5 ≤ now) (h6 : now - 5 ≤ wait) (w : World) : Calls Try.prog 6 #[.int .i64 wait, .int .i64 now] w fun e w' => e = .returned (.bool true) ∧ Below w.heap.size w w' := by
  have HA := Lib.hid awake_any
  have HN : Calls Try.prog 9 #[.int .i64 1, .int .i64 wait] w fun e w' => ∃ tp, e = .returned (.tuple #[.pointer (some ⟨tp, 0, none⟩), .int .i64 0]) ∧ TabAt w.heap.size w' tp ((1 : Nat) : Int) wait t0 ∧ Below w.heap.size w w' := new_ok w 1 wait (by omega) (by omega) (by omega) (by omega)
  have HN := Lib.hid HN
  obtain ⟨h1, g1⟩ := call_put (base := w.heap.size) (p := pA) wfA (k := kA) rfl (put1 1 wait 5 (by omega) (by omega) (by omega)) (good_new 1) (by omega) (by decide) (by omega) (by omega) (by decide)
  obtain ⟨h2', g2⟩ := call_put (base := w.heap.size) (p := pB) wfB (k := kA) rfl (put2 1 wait now 5 0 (by omega) (by omega) h6) g1 (by omega) (by decide) (by omega) (by omega) (by decide)
  have hk := fun (V : World) (tp : Nat) (h : TabAt w.heap.size V tp ((1 : Nat) : Int) wait ⟨[], now, 0⟩) => keys_any h (show (0 : Nat) ≤ 64 by omega)
  simp only [List.length_nil, List.map_nil] at hk
  obtain ⟨S1, HT1⟩ : ∃ T : Tb K UInt8, Hid (T = ⟨[⟨kA, 5, dA⟩], 5, 0⟩) := ⟨_, rfl⟩
  obtain ⟨S2, HT2⟩ : ∃ T : Tb K UInt8, Hid (T = ⟨[], now, 0⟩) := ⟨_, rfl⟩
  rw [← HT1.out] at h1
  rw [← HT1.out, ← HT2.out] at h2'
  rw [← HT2.out] at hk
  have Hk := Lib.hid hk
  obtain ⟨Z2, HZ2⟩ : ∃ Q : Pk, Hid (Q = ansP pB (some (dA ++ [57]))) := ⟨ansP pB (some (dA ++ [57])), Lib.hid rfl⟩
  rw [← HZ2.out] at h2'
  simp only [Option.isSome_some] at h2'
  clear hk g1 g2
  have HPA := fun w => parts_any w
  obtain ⟨Z1, HZ1⟩ : ∃ Q : Pk, Hid (Q = ansP pA none) := ⟨_, rfl⟩
  rw [← HZ1.out] at h1
  obtain ⟨A, HA2⟩ : ∃ A, Hid (A = pA) := ⟨_, rfl⟩
  obtain ⟨B, HB⟩ : ∃ A, Hid (A = pB) := ⟨_, rfl⟩
  rw [← HA2.out] at h1
  rw [← HA2.out, ← HB.out] at HPA
  simp only [Option.isSome_none] at h1
  have H1 := Lib.hid h1; clear h1
  have HPA := Lib.hid HPA
  have e1 : decide (wait < 0) = false := decide_eq_false (by omega)
  have e2 : decide (1000000 < wait) = false := decide_eq_false (by omega)
  have e3 : decide (now < 0) = false := decide_eq_false (by omega)
  have e4 : decide (2000000 < now) = false := decide_eq_false (by omega)
  rw [← HB.out] at h2'
  have H2 := Lib.hid h2'; clear h2'
  have e5 : decide (now < 5) = false := decide_eq_false (by omega)
  have e6 : decide (now - 5 ≤ wait) = true := decide_eq_true h6
  have e7 : wrap64 (now - 5) = now - 5 := by rw [wrap64]; omega
  have e8 : IntKind.i64.wrap (now - 5) = now - 5 := IntWalk.i64_in _ (by omega)
  clear h1 h2 h3 h4 h5 h6
  go_enter Try.func6, Try.ntmps6
  go_upto_region 7 with (first
    | (go_at_call 9; (with_reducible refine HN.out.mono ?_); rintro e Vn ⟨tp, rfl, hTn, hBn⟩)
    | (go_at_call 22; (with_reducible refine (HPA.out _).mono ?_); rintro e V0 ⟨rfl, hV⟩
       (have T0 : Hid (TabAt w.heap.size V0 tp ((1 : Nat) : Int) wait t0) := by show TabAt _ _ _ _ _ _; rw [hV]; exact hTn.alloc _)
       (have L0 : Hid (V0.heap[Vn.heap.size]? = some (partsC A B)) := by show _ = _; rw [hV]; exact heap_alloc_new Vn _)
       (have B0 : Hid (Below w.heap.size w V0) := by show Below _ _ _; rw [hV]; exact hBn.alloc hBn.size _)
       (clear hTn hBn hV e1 e2 e3 e4)))
  generalize Vn.heap.size = g at L0 ⊢
  obtain ⟨a0, a1, a2, a3, a4, a5, a6, a7, a8, a9, a10, a11, a12, a13⟩ := parts_a L0.out
  go_upto_region 8 with (first
    | (go_at_call 14; (with_reducible refine (H1.out _ _ T0.out).mono ?_); rintro e V1 ⟨rfl, hT, hF⟩
       (have T1 := Lib.hid hT; have L1 := Lib.hid (fr_parts L0.out hF); have B1 := Lib.hid (B0.out.trans hF.below); clear hT hF a0 a1 a2 a3 a4 a5 a6 a7 a8 a9 a10 a11 a12 a13)))
  obtain ⟨a0, a1, a2, a3, a4, a5, a6, a7, a8, a9, a10, a11, a12, a13⟩ := parts_b L1.out
  go_upto_region 11 with (first
    | (go_at_call 14; (with_reducible refine (H2.out _ _ T1.out).mono ?_); rintro e V2 ⟨rfl, hT, hF⟩
       (have T2 := Lib.hid hT; have B2 := Lib.hid (B1.out.trans hF.below); clear hT hF a0 a1 a2 a3 a4 a5 a6 a7 a8 a9 a10 a11 a12 a13)))
  have T2a : Hid (TabAt w.heap.size (V2.alloc Z2.obj) tp ((1 : Nat) : Int) wait S2) := T2.out.alloc _
  have B2a : Hid (Below w.heap.size w (V2.alloc Z2.obj)) := B2.out.alloc B2.out.size _
  generalize V2.alloc Z2.obj = W2 at T2a B2a ⊢
  go_wp2_with (first
    | (go_at_call 17; (with_reducible refine (Hk.out _ _ T2a.out).mono ?_); rintro e w3 ⟨⟨A3, c3, rfl, hk3⟩, hb3⟩)
    | (go_at_call 11; (with_reducible refine (HA.out _).mono ?_); rintro e w4 ⟨rfl, hb4⟩))
  go_returns
  have k1 := B2a.out.trans (hb3.mono B2a.out.size)
  exact ⟨rfl, k1.trans (hb4.mono k1.size)⟩

set_option maxRecDepth 100000 in
set_option maxHeartbeats 4000000 in
theorem waits_late (wait now : Int) (h1 : 0 ≤ wait) (h2 : wait ≤ 1000000) (h3 : 0 ≤ now) (h4 : now ≤ 2000000) (h5 : 5 ≤ now) (h6 : ¬ now - 5 ≤ wait) (w : World) : Calls Try.prog 6 #[.int .i64 wait, .int .i64 now] w fun e w' => e = .returned (.bool true) ∧ Below w.heap.size w w' := by
  have HA := Lib.hid awake_any
  have HN : Calls Try.prog 9 #[.int .i64 1, .int .i64 wait] w fun e w' => ∃ tp, e = .returned (.tuple #[.pointer (some ⟨tp, 0, none⟩), .int .i64 0]) ∧ TabAt w.heap.size w' tp ((1 : Nat) : Int) wait t0 ∧ Below w.heap.size w w' := new_ok w 1 wait (by omega) (by omega) (by omega) (by omega)
  have HN := Lib.hid HN
  obtain ⟨h1, g1⟩ := call_put (base := w.heap.size) (p := pA) wfA (k := kA) rfl (put1 1 wait 5 (by omega) (by omega) (by omega)) (good_new 1) (by omega) (by decide) (by omega) (by omega) (by decide)
  obtain ⟨h2', g2⟩ := call_put (base := w.heap.size) (p := pB) wfB (k := kA) rfl (put2' 1 wait now 5 0 (by omega) (by omega) h6) g1 (by omega) (by decide) (by omega) (by omega) (by decide)
  have hk := fun (V : World) (tp : Nat) (h : TabAt w.heap.size V tp ((1 : Nat) : Int) wait ⟨[], now, 0 + 1⟩) => keys_any h (show (0 : Nat) ≤ 64 by omega)
  simp only [List.length_nil, List.map_nil] at hk
  obtain ⟨S1, HT1⟩ : ∃ T : Tb K UInt8, Hid (T = ⟨[⟨kA, 5, dA⟩], 5, 0⟩) := ⟨_, rfl⟩
  obtain ⟨S2, HT2⟩ : ∃ T : Tb K UInt8, Hid (T = ⟨[], now, 0 + 1⟩) := ⟨_, rfl⟩
  rw [← HT1.out] at h1
  rw [← HT1.out, ← HT2.out] at h2'
  rw [← HT2.out] at hk
  have Hk := Lib.hid hk
  obtain ⟨Z2, HZ2⟩ : ∃ Q : Pk, Hid (Q = ansP pB none) := ⟨ansP pB none, Lib.hid rfl⟩
  rw [← HZ2.out] at h2'
  simp only [Option.isSome_none] at h2'
  clear hk g1 g2
  have HPA := fun w => parts_any w
  obtain ⟨Z1, HZ1⟩ : ∃ Q : Pk, Hid (Q = ansP pA none) := ⟨_, rfl⟩
  rw [← HZ1.out] at h1
  obtain ⟨A, HA2⟩ : ∃ A, Hid (A = pA) := ⟨_, rfl⟩
  obtain ⟨B, HB⟩ : ∃ A, Hid (A = pB) := ⟨_, rfl⟩
  rw [← HA2.out] at h1
  rw [← HA2.out, ← HB.out] at HPA
  simp only [Option.isSome_none] at h1
  have H1 := Lib.hid h1; clear h1
  have HPA := Lib.hid HPA
  have e1 : decide (wait < 0) = false := decide_eq_false (by omega)
  have e2 : decide (1000000 < wait) = false := decide_eq_false (by omega)
  have e3 : decide (now < 0) = false := decide_eq_false (by omega)
  have e4 : decide (2000000 < now) = false := decide_eq_false (by omega)
  rw [← HB.out] at h2'
  have H2 := Lib.hid h2'; clear h2'
  have e5 : decide (now < 5) = false := decide_eq_false (by omega)
  have e6 : decide (now - 5 ≤ wait) = false := decide_eq_false h6
  have e7 : wrap64 (now - 5) = now - 5 := by rw [wrap64]; omega
  have e8 : IntKind.i64.wrap (now - 5) = now - 5 := IntWalk.i64_in _ (by omega)
  clear h1 h2 h3 h4 h5 h6
  go_enter Try.func6, Try.ntmps6
  go_upto_region 7 with (first
    | (go_at_call 9; (with_reducible refine HN.out.mono ?_); rintro e Vn ⟨tp, rfl, hTn, hBn⟩)
    | (go_at_call 22; (with_reducible refine (HPA.out _).mono ?_); rintro e V0 ⟨rfl, hV⟩
       (have T0 : Hid (TabAt w.heap.size V0 tp ((1 : Nat) : Int) wait t0) := by show TabAt _ _ _ _ _ _; rw [hV]; exact hTn.alloc _)
       (have L0 : Hid (V0.heap[Vn.heap.size]? = some (partsC A B)) := by show _ = _; rw [hV]; exact heap_alloc_new Vn _)
       (have B0 : Hid (Below w.heap.size w V0) := by show Below _ _ _; rw [hV]; exact hBn.alloc hBn.size _)
       (clear hTn hBn hV e1 e2 e3 e4)))
  generalize Vn.heap.size = g at L0 ⊢
  obtain ⟨a0, a1, a2, a3, a4, a5, a6, a7, a8, a9, a10, a11, a12, a13⟩ := parts_a L0.out
  go_upto_region 8 with (first
    | (go_at_call 14; (with_reducible refine (H1.out _ _ T0.out).mono ?_); rintro e V1 ⟨rfl, hT, hF⟩
       (have T1 := Lib.hid hT; have L1 := Lib.hid (fr_parts L0.out hF); have B1 := Lib.hid (B0.out.trans hF.below); clear hT hF a0 a1 a2 a3 a4 a5 a6 a7 a8 a9 a10 a11 a12 a13)))
  obtain ⟨a0, a1, a2, a3, a4, a5, a6, a7, a8, a9, a10, a11, a12, a13⟩ := parts_b L1.out
  go_upto_region 11 with (first
    | (go_at_call 14; (with_reducible refine (H2.out _ _ T1.out).mono ?_); rintro e V2 ⟨rfl, hT, hF⟩
       (have T2 := Lib.hid hT; have B2 := Lib.hid (B1.out.trans hF.below); clear hT hF a0 a1 a2 a3 a4 a5 a6 a7 a8 a9 a10 a11 a12 a13)))
  have T2a : Hid (TabAt w.heap.size (V2.alloc Z2.obj) tp ((1 : Nat) : Int) wait S2) := T2.out.alloc _
  have B2a : Hid (Below w.heap.size w (V2.alloc Z2.obj)) := B2.out.alloc B2.out.size _
  generalize V2.alloc Z2.obj = W2 at T2a B2a ⊢
  go_wp2_with (first
    | (go_at_call 17; (with_reducible refine (Hk.out _ _ T2a.out).mono ?_); rintro e w3 ⟨⟨A3, c3, rfl, hk3⟩, hb3⟩)
    | (go_at_call 11; (with_reducible refine (HA.out _).mono ?_); rintro e w4 ⟨rfl, hb4⟩))
  go_returns
  have k1 := B2a.out.trans (hb3.mono B2a.out.size)
  exact ⟨rfl, k1.trans (hb4.mono k1.size)⟩

set_option maxRecDepth 100000 in
set_option maxHeartbeats 4000000 in
theorem waits_out (wait now : Int) (h : wait < 0 ∨ 1000000 < wait ∨ now < 0 ∨ 2000000 < now) (w : World) : Calls Try.prog 6 #[.int .i64 wait, .int .i64 now] w fun e w' => e = .returned (.bool true) ∧ Below w.heap.size w w' := by
  have HA := Lib.hid awake_any
  by_cases q0 : wait < 0
  · have e1 : decide (wait < 0) = true := decide_eq_true q0
    clear q0 h
    go_enter Try.func6, Try.ntmps6
    go_wp2_with (first
      | (go_at_call 11; (with_reducible refine (HA.out _).mono ?_); rintro e w4 ⟨rfl, hb4⟩))
    go_returns
    exact ⟨rfl, hb4⟩
  have e1 : decide (wait < 0) = false := decide_eq_false q0
  by_cases q1 : 1000000 < wait
  · have e2 : decide (1000000 < wait) = true := decide_eq_true q1
    clear q0 q1 h
    go_enter Try.func6, Try.ntmps6
    go_wp2_with (first
      | (go_at_call 11; (with_reducible refine (HA.out _).mono ?_); rintro e w4 ⟨rfl, hb4⟩))
    go_returns
    exact ⟨rfl, hb4⟩
  have e2 : decide (1000000 < wait) = false := decide_eq_false q1
  by_cases q2 : now < 0
  · have e3 : decide (now < 0) = true := decide_eq_true q2
    clear q0 q1 q2 h
    go_enter Try.func6, Try.ntmps6
    go_wp2_with (first
      | (go_at_call 11; (with_reducible refine (HA.out _).mono ?_); rintro e w4 ⟨rfl, hb4⟩))
    go_returns
    exact ⟨rfl, hb4⟩
  have e3 : decide (now < 0) = false := decide_eq_false q2
  by_cases q3 : 2000000 < now
  · have e4 : decide (2000000 < now) = true := decide_eq_true q3
    clear q0 q1 q2 q3 h
    go_enter Try.func6, Try.ntmps6
    go_wp2_with (first
      | (go_at_call 11; (with_reducible refine (HA.out _).mono ?_); rintro e w4 ⟨rfl, hb4⟩))
    go_returns
    exact ⟨rfl, hb4⟩
  have e4 : decide (2000000 < now) = false := decide_eq_false q3
  omega

theorem reasmWaits_walk (wait : Int) (_h1 : (Lit.int .i64 wait).wf = true) (now : Int) (_h2 : (Lit.int .i64 now).wf = true) (w : World) : Calls Try.prog 6 #[.int .i64 wait, .int .i64 now] w fun e w' => e = .returned (.bool true) ∧ Below w.heap.size w w' := by
  by_cases h : wait < 0 ∨ 1000000 < wait ∨ now < 0 ∨ 2000000 < now
  · exact waits_out wait now h w
  · by_cases h5 : now < 5
    · exact waits_ahead wait now (by omega) (by omega) (by omega) (by omega) h5 w
    · by_cases h6 : now - 5 ≤ wait
      · exact waits_soon wait now (by omega) (by omega) (by omega) (by omega) (by omega) h6 w
      · exact waits_late wait now (by omega) (by omega) (by omega) (by omega) (by omega) h6 w


set_option maxRecDepth 100000 in
theorem reasmWaits_lifted (os : Os) (started : os.Started) (H : Type) (enc : TypeId × Value → H) :
    ReturnsInHanded {} Try.checked os 6 .any (Rows.reasmWaitsSpec.pre6 enc Try.prog Try.f6 Rows.reasmWaitsRow.domain false) (Rows.reasmWaitsSpec.post enc Try.prog Try.f6 false true false false) := by
  refine returnsInHanded_of_change (C := Try.checked) reasmWaits_own started (by kernel_rfl) Try.func6
    (ChangeSpec.witness6 (enc := enc) (C := Try.checked) false ⟨#[], #[.int .i64 0, .int .i64 0], []⟩ 8 (by kernel_rfl) (by kernel_rfl) (by kernel_rfl) (by kernel_rfl)) ?_
  intro W base args ds gs before hval0 hW hcnd _
  have hval : ∀ (j : Nat) t v, Try.f6.params[j]? = some t → args[j]? = some v → Value.okWide Try.prog W .any base t v := hval0
  have hW' := hW
  obtain ⟨p, q, hA0, hV, rfl, hfz, hnd⟩ := hW
  have hA : DataW.TrodAll enc Try.prog W 0 (fun _ => true) true Try.f6.params.toList args.toList ds p := hA0
  rw [Try.params6] at hA hval
  obtain ⟨v0, vs0, d0, ds0, p0, q0, hargs, rfl, rfl, h0, r0⟩ := trodAll_cons hA
  obtain ⟨v1, vs1, d1, ds1, p1, q1, rfl, rfl, rfl, h1, r1⟩ := trodAll_cons r0
  obtain ⟨rfl, rfl, rfl⟩ := trodAll_nil r1
  obtain rfl : args = #[v0, v1] := by cases args; simp_all
  obtain ⟨rfl, rfl⟩ := trodVars_none hV
  obtain ⟨a0, rfl, rfl, rfl, w0⟩ := open_int Try.underlying3 (hval 0 3 v0 rfl rfl) h0
  obtain ⟨a1, rfl, rfl, rfl, w1⟩ := open_int Try.underlying3 (hval 1 3 v1 rfl rfl) h1
  clear hA0 hval0
  have hwalk := reasmWaits_walk a0 w0 a1 w1 W

  refine hwalk.mono fun e W' ⟨he, bel⟩ => ?_
  subst he
  exact ⟨_, rfl, _, _, _, [], _, [], hW', trodAll_mk1 (shut_bool Try.underlying4 _), (trodAll_cons_mk (shut_int Try.underlying3 w0) (trodAll_cons_mk (shut_int Try.underlying3 w1) trodAll_mk0)), rfl, bel.frame _, fun h => by cases h⟩

theorem reasmWaits_over : Rows.reasmWaitsRow.holds Try.pinned (OpenSpec.ofChange Rows.reasmWaitsSpec) :=
  OpenClaim.holds_of_wide 6 Try.f6 rfl rfl rfl rfl rfl rfl rfl ⟨rfl, rfl, rfl, rfl, rfl⟩ rfl rfl rfl rfl rfl (by kernel_rfl) Try.func6 (by kernel_rfl)
    (of_decide_eq_true (by kernel_rfl)) (by unfold Func.isWrapper; first | (rw [if_pos (by decide +kernel)]; kernel_rfl) | (rw [if_neg (by decide +kernel)]; exact ⟨rfl, rfl⟩))
    (fun os started H enc _ => reasmWaits_lifted os started H enc)

theorem reasmWaits_holds : Rows.ReasmWaitsSaid := reasmWaits_over
#print axioms reasmWaits_holds
end Go.Proofs.Ytgdjcoodjdckkaa
