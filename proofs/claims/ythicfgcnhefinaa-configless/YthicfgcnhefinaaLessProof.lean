/- For every network (its slices as long as any may be) the law ConfigLess answers true: a network that may be may be without its last port, its last window, or all ports and its last link. No conditions. -/
import Derived.Test.YthicfgcnhefinaaRows
import Derived.Test.YthicfgcnhefinaaM12
import Derived.WalkKit
import Derived.Handy
import Derived.Deep.RegionHeld3
import Derived.Deep.CutRange
import Derived.StillTailTactics
import Derived.ProofKit
import Derived.OpenShut
import Derived.ShutString
import Derived.ChangeOld
import Derived.Below
set_option linter.unusedVariables false
namespace Go.Proofs.Ythicfgcnhefinaa
open Go.ChangeShapes Go.WideShapes Go.ChangeAt Go.RowKit
open Go.ChangeMaps (open_string shut_string)
set_option linter.unusedVariables false

theorem configLess_own : ownKnob Try.prog.godebug = none := by kernel_rfl
theorem configLess_laid : laidOutB Try.prog = true := by kernel_rfl

/-- A network without its last port, its last window, all ports and its last link. -/
def dP (c : Cx) : Cx := ⟨c.hosts, c.partsA, c.partsc, c.parts, c.major, c.winsA, c.winsc, c.wins, c.vlsA, c.vlsc, c.vls, c.portsA, c.portsc, c.ports.take (c.ports.length - 1)⟩
def dW (c : Cx) : Cx := ⟨c.hosts, c.partsA, c.partsc, c.parts, c.major, c.winsA, c.winsc, c.wins.take (c.wins.length - 1), c.vlsA, c.vlsc, c.vls, c.portsA, c.portsc, c.ports⟩
def dV (c : Cx) : Cx := ⟨c.hosts, c.partsA, c.partsc, c.parts, c.major, c.winsA, c.winsc, c.wins, c.vlsA, c.vlsc, c.vls.take (c.vls.length - 1), none, 0, []⟩
theorem dP_may {c : Cx} (h : PitotConf.May c.pl) : PitotConf.May (dP c).pl := by
  have := h.less_ports (c.ports.length - 1)
  simp only [Cx.pl, dP, List.map_take] at this ⊢
  exact this
theorem dW_may {c : Cx} (h : PitotConf.May c.pl) : PitotConf.May (dW c).pl := by
  have := h.less_wins (c.wins.length - 1)
  simp only [Cx.pl, dW, List.map_take] at this ⊢
  exact this
theorem dV_may {c : Cx} (h : PitotConf.May c.pl) : PitotConf.May (dV c).pl := by
  have := h.less_vls (c.vls.length - 1)
  simp only [Cx.pl, dV, List.map_take, List.map_nil] at this ⊢
  exact this
theorem wns_take {w : World} {A : Option Addr} {l : List Wn} (h : WnsAt w A l) (n : Nat) : WnsAt w A (l.take n) := fun hne => by
  obtain ⟨b, off, e, hlt, hc⟩ := h (by rintro rfl; simp at hne)
  exact ⟨b, off, e, hlt, fun i hi => by rw [List.getElem_take]; exact hc i (by simp at hi; omega)⟩
theorem vxs_take {w : World} {A : Option Addr} {l : List Vx} (h : VxsAt w A l) (n : Nat) : VxsAt w A (l.take n) := fun hne => by
  obtain ⟨b, off, e, hlt, hc⟩ := h (by rintro rfl; simp at hne)
  exact ⟨b, off, e, hlt, fun i hi => by simp only [List.getElem_take]; exact hc i (by simp at hi; omega)⟩
theorem pxs_take {w : World} {A : Option Addr} {l : List Px} (h : PxsAt w A l) (n : Nat) : PxsAt w A (l.take n) := fun hne => by
  obtain ⟨b, off, e, hlt, hc⟩ := h (by rintro rfl; simp at hne)
  exact ⟨b, off, e, hlt, fun i hi => by rw [List.getElem_take]; exact hc i (by simp at hi; omega)⟩
theorem dP_held {c : Cx} {w : World} (h : c.Held w) : (dP c).Held w := ⟨h.1, h.2.1, h.2.2.1, pxs_take h.2.2.2 _⟩
theorem dW_held {c : Cx} {w : World} (h : c.Held w) : (dW c).Held w := ⟨h.1, wns_take h.2.1 _, h.2.2.1, h.2.2.2⟩
theorem dV_held {c : Cx} {w : World} (h : c.Held w) : (dV c).Held w := ⟨h.1, h.2.1, vxs_take h.2.2.1 _, fun h => absurd rfl h⟩
theorem len_take {α : Type} (l : List α) (n : Nat) : (l.take n).length ≤ l.length := by rw [List.length_take]; omega
theorem dP_sm {c : Cx} (h : Sm c) : Sm (dP c) := by
  obtain ⟨⟨o1, o2, o3, o4, o5, o6, o7, o8, o9, o10⟩, h2, h3, h4, h5, h6⟩ := h
  exact ⟨⟨o1, o2, o3, o4, o5, o6, o7, o8, Nat.le_trans (len_take _ _) o9, fun y hy => o10 y (List.mem_of_mem_take hy)⟩, h2, h3, h4, Nat.le_trans (len_take _ _) h5, h6⟩
theorem dW_sm {c : Cx} (h : Sm c) : Sm (dW c) := by
  obtain ⟨⟨o1, o2, o3, o4, o5, o6, o7, o8, o9, o10⟩, h2, h3, h4, h5, h6⟩ := h
  exact ⟨⟨o1, o2, o3, o4, Nat.le_trans (len_take _ _) o5, fun y hy => o6 y (List.mem_of_mem_take hy), o7, o8, o9, o10⟩, h2, Nat.le_trans (len_take _ _) h3, h4, h5, h6⟩
theorem dV_sm {c : Cx} (h : Sm c) : Sm (dV c) := by
  obtain ⟨⟨o1, o2, o3, o4, o5, o6, o7, o8, o9, o10⟩, h2, h3, h4, h5, h6⟩ := h
  exact ⟨⟨o1, o2, o3, o4, o5, o6, Nat.le_trans (len_take _ _) o7, fun y hy => o8 y (List.mem_of_mem_take hy), Nat.zero_le _, fun y hy => by cases hy⟩, h2, h3, Nat.le_trans (len_take _ _) h4, Nat.zero_le _, fun v hv => h6 v (List.mem_of_mem_take hv)⟩
set_option maxRecDepth 100000 in
set_option maxHeartbeats 8000000 in
theorem configLess_walk {w : World} (c : Cx) (co : c.Ok) (ch : c.Held w) (ck : c.Caps) (_w : World) :
    Calls Try.prog 6 #[c.val] w fun e w' => e = .returned (.bool true) ∧ Below w.heap.size w w' := by
  have HA := Lib.hid awake_any
  have HF := Lib.hid (fun (w' : World) (hb : Below w.heap.size w w') => few_any c w' (ch.below hb) ⟨co.2.1, co.2.2.2.2.1, co.2.2.2.2.2.2.1, co.2.2.2.2.2.2.2.2.1⟩)
  have HCK := Lib.hid (fun (hs : Sm c) (w' : World) (hb : Below w.heap.size w w') => Check_any c hs w' (ch.below hb))
  have HP : Hid (few c = true → (PitotConf.check c.pl).2.2 = 0 → ∀ (w' : World), Below w.heap.size w w' → Calls Try.prog 11 #[(dP c).val] w' fun e w'' => e = .returned (.tuple #[.agg #[.int .i64 0, .int .i64 0], .int .i64 0]) ∧ Below w'.heap.size w' w'') := fun hf h0 w' hb => by
    have hm := (dP_may (PitotConf.check_may h0)).check
    have := Check_any (dP c) (dP_sm (few_sm co hf)) w' (dP_held (ch.below hb))
    rw [hm] at this
    exact this
  have HW : Hid (few c = true → (PitotConf.check c.pl).2.2 = 0 → ∀ (w' : World), Below w.heap.size w w' → Calls Try.prog 11 #[(dW c).val] w' fun e w'' => e = .returned (.tuple #[.agg #[.int .i64 0, .int .i64 0], .int .i64 0]) ∧ Below w'.heap.size w' w'') := fun hf h0 w' hb => by
    have hm := (dW_may (PitotConf.check_may h0)).check
    have := Check_any (dW c) (dW_sm (few_sm co hf)) w' (dW_held (ch.below hb))
    rw [hm] at this
    exact this
  have HV : Hid (few c = true → (PitotConf.check c.pl).2.2 = 0 → ∀ (w' : World), Below w.heap.size w w' → Calls Try.prog 11 #[(dV c).val] w' fun e w'' => e = .returned (.tuple #[.agg #[.int .i64 0, .int .i64 0], .int .i64 0]) ∧ Below w'.heap.size w' w'') := fun hf h0 w' hb => by
    have hm := (dV_may (PitotConf.check_may h0)).check
    have := Check_any (dV c) (dV_sm (few_sm co hf)) w' (dV_held (ch.below hb))
    rw [hm] at this
    exact this
  have HSM : Hid (few c = true → Sm c) := few_sm co
  have HQN : Hid (0 < c.ports.length → ∃ b off, c.portsA = some ⟨b, off, none⟩) := fun h => by
    obtain ⟨b, off, e, _⟩ := ch.2.2.2.get h; exact ⟨b, off, e⟩
  have HWN : Hid (0 < c.wins.length → ∃ b off, c.winsA = some ⟨b, off, none⟩) := fun h => by
    obtain ⟨b, off, e, _⟩ := ch.2.1.get h; exact ⟨b, off, e⟩
  have HVN : Hid (0 < c.vls.length → ∃ b off, c.vlsA = some ⟨b, off, none⟩) := fun h => by
    obtain ⟨b, off, e, _⟩ := ch.2.2.1.get h; exact ⟨b, off, e⟩
  clear ch
  obtain ⟨k1, k2, k3, k4⟩ := ck
  have m2 := co.2.2.2.2.1
  have m3 := co.2.2.2.2.2.2.1
  have m4 := co.2.2.2.2.2.2.2.2.1
  unfold maxLen at m2 m3 m4
  clear co
  generalize PitotConf.check c.pl = R at HCK HP HW HV
  obtain ⟨r1, r2, r3⟩ := R
  simp only at HCK HP HW HV
  generalize few c = fw at HF HCK HP HW HV HSM
  obtain ⟨hosts, pA, pc, parts, major, wA, wk, wins, vA, vc, vls, qA, qc, ports⟩ := c
  have dp1 : (ports.take (ports.length - 1)).length = ports.length - 1 := by simp
  have dw1 : (wins.take (wins.length - 1)).length = wins.length - 1 := by simp
  have dv1 : (vls.take (vls.length - 1)).length = vls.length - 1 := by simp
  simp only [dP, dW, dV, Cx.val, dp1, dw1, dv1, List.length_nil] at HF HCK HP HW HV k1 k2 k3 k4 m2 m3 m4 HQN HWN HVN ⊢
  clear dp1 dw1 dv1
  have HCW : Hid (fw = true → ∀ (w' : World), Below w.heap.size w w' → Calls Try.prog 11 #[.agg #[.int .i64 hosts, .slice pA parts.length pc, .int .i64 major, .slice wA wins.length wk, .slice vA vls.length vc, .slice qA ports.length qc]] w' fun e w'' => e = .returned (.tuple #[.agg #[.int .i64 r1, .int .i64 r2], .int .i64 r3]) ∧ Below w'.heap.size w' w'') := fun h => HCK.out (HSM.out h)
  clear HCK HSM
  generalize wins.length = wl, parts.length = pl, vls.length = vl, ports.length = ql at HF HCW HP HW HV k1 k2 k3 k4 m2 m3 m4 HQN HWN HVN ⊢
  have HFW : Hid (∀ (w' : World), Below w.heap.size w w' → Calls Try.prog 9 #[.agg #[.int .i64 hosts, .slice pA pl pc, .int .i64 major, .slice wA wl wk, .slice vA vl vc, .slice qA ql qc]] w' fun e w'' => e = .returned (.bool fw) ∧ Below w'.heap.size w' w'') := HF
  clear HF
  have CB0 : Hid ((w.alloc (.cells #[.int .i64 hosts, .slice pA pl pc, .int .i64 major, .slice wA wl wk, .slice vA vl vc, .slice qA ql qc] 27)).heap[w.heap.size]? = some (.cells #[.int .i64 hosts, .slice pA pl pc, .int .i64 major, .slice wA wl wk, .slice vA vl vc, .slice qA ql qc] 27)) := heap_alloc_new w _
  have BB0 : Hid (Below w.heap.size w (w.alloc (.cells #[.int .i64 hosts, .slice pA pl pc, .int .i64 major, .slice wA wl wk, .slice vA vl vc, .slice qA ql qc] 27))) := (Below.refl _ w).alloc (Nat.le_refl _) _
  go_enter Try.func6, Try.ntmps6
  go_upto_region 1 with (fail)
  have CB := CB0
  have BB := BB0
  clear CB0 BB0
  generalize w.alloc (.cells #[.int .i64 hosts, .slice pA pl pc, .int .i64 major, .slice wA wl wk, .slice vA vl vc, .slice qA ql qc] 27) = Wi at CB BB ⊢
  obtain ⟨c0, c1, c2, c3, c4, c5⟩ := cells_6 CB.out
  cases fw
  · go_wp2_with (first
      | (go_at_call 9; (with_reducible refine (HFW.out _ BB.out).mono ?_); rintro e w2 ⟨rfl, hb2⟩
         (have CX := Lib.hid (lies_below CB.out hb2 (lies_lt CB.out)))
         (have BX := Lib.hid (BB.out.trans (hb2.mono BB.out.size)))
         (clear hb2 CB BB c0 c1 c2 c3 c4 c5)
         (have CB := CX)
         (have BB := BX)
         (clear CX BX)
         (obtain ⟨c0, c1, c2, c3, c4, c5⟩ := cells_6 CB.out))
      | (go_at_call 10; (with_reducible refine (HA.out _).mono ?_); rintro e w9 ⟨rfl, hb2⟩
         (have CX := Lib.hid (lies_below CB.out hb2 (lies_lt CB.out)))
         (have BX := Lib.hid (BB.out.trans (hb2.mono BB.out.size)))
         (clear hb2 CB BB c0 c1 c2 c3 c4 c5)
         (have CB := CX)
         (have BB := BX)
         (clear CX BX)
         (obtain ⟨c0, c1, c2, c3, c4, c5⟩ := cells_6 CB.out)))
    go_returns
    exact ⟨rfl, BB.out⟩
  have HC := Lib.hid (HCW.out rfl); clear HCW
  go_upto_region 4 with (first
    | (go_at_call 9; (with_reducible refine (HFW.out _ BB.out).mono ?_); rintro e w2 ⟨rfl, hb2⟩
       (have CX := Lib.hid (lies_below CB.out hb2 (lies_lt CB.out)))
       (have BX := Lib.hid (BB.out.trans (hb2.mono BB.out.size)))
       (clear hb2 CB BB c0 c1 c2 c3 c4 c5)
       (have CB := CX)
       (have BB := BX)
       (clear CX BX)
       (obtain ⟨c0, c1, c2, c3, c4, c5⟩ := cells_6 CB.out))
    | (go_at_call 11; (with_reducible refine (HC.out _ BB.out).mono ?_); rintro e w3 ⟨rfl, hb2⟩
       (have CX := Lib.hid (lies_below CB.out hb2 (lies_lt CB.out)))
       (have BX := Lib.hid (BB.out.trans (hb2.mono BB.out.size)))
       (clear hb2 CB BB c0 c1 c2 c3 c4 c5)
       (have CB := CX)
       (have BB := BX)
       (clear CX BX)
       (obtain ⟨c0, c1, c2, c3, c4, c5⟩ := cells_6 CB.out)))
  have CX := Lib.hid (lies_alloc (o := .cells #[.int .i64 r1, .int .i64 r2] 31) CB.out)
  have BX : Hid (Below w.heap.size w (w3.alloc (.cells #[.int .i64 r1, .int .i64 r2] 31))) := BB.out.alloc BB.out.size _
  clear CB BB c0 c1 c2 c3 c4 c5
  have CB := CX
  have BB := BX
  clear CX BX
  generalize w3.alloc (.cells #[.int .i64 r1, .int .i64 r2] 31) = w3x at CB BB ⊢
  obtain ⟨c0, c1, c2, c3, c4, c5⟩ := cells_6 CB.out
  by_cases g : r3 = 0
  case neg =>
    have g1 : (r3 == 0) = false := by simpa using g
    go_wp2_with (first
      | (go_at_call 10; (with_reducible refine (HA.out _).mono ?_); rintro e w9 ⟨rfl, hb2⟩
         (have CX := Lib.hid (lies_below CB.out hb2 (lies_lt CB.out)))
         (have BX := Lib.hid (BB.out.trans (hb2.mono BB.out.size)))
         (clear hb2 CB BB c0 c1 c2 c3 c4 c5)
         (have CB := CX)
         (have BB := BX)
         (clear CX BX)
         (obtain ⟨c0, c1, c2, c3, c4, c5⟩ := cells_6 CB.out)))
    go_returns
    exact ⟨rfl, BB.out⟩
  have g1 : (r3 == 0) = true := by rw [g]; rfl
  subst g
  have HPa := Lib.hid (HP.out (by trivial) (by trivial))
  have HWa := Lib.hid (HW.out (by trivial) (by trivial))
  have HVa := Lib.hid (HV.out (by trivial) (by trivial))
  clear HP HW HV
  go_upto_region 6 with (fail)
  clear g1
  generalize hW : w3x = W0 at CB BB c0 c1 c2 c3 c4 c5 ⊢
  clear hW
  by_cases z0 : 0 < ql
  · obtain ⟨b0, off0, e0⟩ := HQN.out z0
    obtain ⟨n0, hn0⟩ : ∃ n0, ql = n0 + 1 := ⟨ql - 1, by omega⟩
    have i1 : decide (0 < (ql : Int)) = true := decide_eq_true (by omega)
    have i2 : decide (0 < ql) = true := decide_eq_true z0
    have i3 : IntKind.i64.wrap ((ql : Int) - 1) = (n0 : Int) := by rw [hn0]; exact (IntWalk.i64_in _ (by omega)).trans (by omega)
    have i4 : ql - 1 = n0 := by omega
    rw [i4] at HPa
    have i5 : n0 ≤ qc := by omega
    have i6 : (n0 : Int) ≤ (qc : Int) := by omega
    clear i4 hn0
    subst e0
    go_upto_region 8 with (fail)
    have DX : Hid ((W0.alloc (.cells #[.int .i64 hosts, .slice pA pl pc, .int .i64 major, .slice wA wl wk, .slice vA vl vc, .slice (some ⟨b0, off0, none⟩) ql qc] 27)).heap[W0.heap.size]? = some (.cells #[.int .i64 hosts, .slice pA pl pc, .int .i64 major, .slice wA wl wk, .slice vA vl vc, .slice (some ⟨b0, off0, none⟩) ql qc] 27)) := heap_alloc_new W0 _
    have hdb : w.heap.size < W0.heap.size := lies_lt CB.out
    have CX := Lib.hid (lies_alloc (o := .cells #[.int .i64 hosts, .slice pA pl pc, .int .i64 major, .slice wA wl wk, .slice vA vl vc, .slice (some ⟨b0, off0, none⟩) ql qc] 27) CB.out)
    have BX : Hid (Below w.heap.size w (W0.alloc (.cells #[.int .i64 hosts, .slice pA pl pc, .int .i64 major, .slice wA wl wk, .slice vA vl vc, .slice (some ⟨b0, off0, none⟩) ql qc] 27))) := BB.out.alloc BB.out.size _
    clear CB BB c0 c1 c2 c3 c4 c5
    have CB := CX
    have BB := BX
    clear CX BX
    generalize W0.alloc (.cells #[.int .i64 hosts, .slice pA pl pc, .int .i64 major, .slice wA wl wk, .slice vA vl vc, .slice (some ⟨b0, off0, none⟩) ql qc] 27) = X0 at CB BB DX ⊢
    obtain ⟨c0, c1, c2, c3, c4, c5⟩ := cells_6 CB.out
    generalize W0.heap.size = db at DX hdb ⊢
    obtain ⟨d0, d1, d2, d3, d4, d5⟩ := cells_6 DX.out
    have fd := lies_frozen DX.out 5
    go_upto_region 9 with (fail)
    have CX : Hid ((X0.setCell ⟨db, 5, none⟩ (.slice (some ⟨b0, off0, none⟩) n0 qc)).heap[w.heap.size]? = some (.cells #[.int .i64 hosts, .slice pA pl pc, .int .i64 major, .slice wA wl wk, .slice vA vl vc, .slice (some ⟨b0, off0, none⟩) ql qc] 27)) := (Below.heap_setCell _ _ _ _ (show w.heap.size ≠ db by omega)).trans CB.out
    have DY : Hid ((X0.setCell ⟨db, 5, none⟩ (.slice (some ⟨b0, off0, none⟩) n0 qc)).heap[db]? = some (.cells #[.int .i64 hosts, .slice pA pl pc, .int .i64 major, .slice wA wl wk, .slice vA vl vc, .slice (some ⟨b0, off0, none⟩) n0 qc] 27)) := lies_set DX.out 5 _
    have BX : Hid (Below w.heap.size w (X0.setCell ⟨db, 5, none⟩ (.slice (some ⟨b0, off0, none⟩) n0 qc))) := BB.out.setCell (show w.heap.size ≤ (⟨db, 5, none⟩ : Addr).block by show w.heap.size ≤ db; omega) _
    clear CB BB DX c0 c1 c2 c3 c4 c5 d0 d1 d2 d3 d4 d5 fd
    have CB := CX
    have BB := BX
    have DX := DY
    clear CX BX DY
    generalize X0.setCell ⟨db, 5, none⟩ (.slice (some ⟨b0, off0, none⟩) n0 qc) = Y0 at CB BB DX ⊢
    obtain ⟨c0, c1, c2, c3, c4, c5⟩ := cells_6 CB.out
    obtain ⟨d0, d1, d2, d3, d4, d5⟩ := cells_6 DX.out
    go_upto_region 12 with (first
      | (go_at_call 11; (with_reducible refine (HPa.out _ BB.out).mono ?_); rintro e w4 ⟨rfl, hb2⟩
         (have CX := Lib.hid (lies_below CB.out hb2 (lies_lt CB.out)))
         (have BX := Lib.hid (BB.out.trans (hb2.mono BB.out.size)))
         (clear hb2 CB BB c0 c1 c2 c3 c4 c5)
         (have CB := CX)
         (have BB := BX)
         (clear CX BX)
         (obtain ⟨c0, c1, c2, c3, c4, c5⟩ := cells_6 CB.out)))
    clear DX hdb d0 d1 d2 d3 d4 d5 i1 i2 i3 i5 i6
    have CX := Lib.hid (lies_alloc (o := .cells #[.int .i64 0, .int .i64 0] 31) CB.out)
    have BX : Hid (Below w.heap.size w (w4.alloc (.cells #[.int .i64 0, .int .i64 0] 31))) := BB.out.alloc BB.out.size _
    clear CB BB c0 c1 c2 c3 c4 c5
    have CB := CX
    have BB := BX
    clear CX BX
    generalize w4.alloc (.cells #[.int .i64 0, .int .i64 0] 31) = W1 at CB BB ⊢
    obtain ⟨c0, c1, c2, c3, c4, c5⟩ := cells_6 CB.out
    by_cases z1 : 0 < wl
    · obtain ⟨b1, off1, e1⟩ := HWN.out z1
      obtain ⟨n1, hn1⟩ : ∃ n1, wl = n1 + 1 := ⟨wl - 1, by omega⟩
      have i1 : decide (0 < (wl : Int)) = true := decide_eq_true (by omega)
      have i2 : decide (0 < wl) = true := decide_eq_true z1
      have i3 : IntKind.i64.wrap ((wl : Int) - 1) = (n1 : Int) := by rw [hn1]; exact (IntWalk.i64_in _ (by omega)).trans (by omega)
      have i4 : wl - 1 = n1 := by omega
      rw [i4] at HWa
      have i5 : n1 ≤ wk := by omega
      have i6 : (n1 : Int) ≤ (wk : Int) := by omega
      clear i4 hn1
      subst e1
      go_upto_region 14 with (fail)
      have DX : Hid ((W1.alloc (.cells #[.int .i64 hosts, .slice pA pl pc, .int .i64 major, .slice (some ⟨b1, off1, none⟩) wl wk, .slice vA vl vc, .slice (some ⟨b0, off0, none⟩) ql qc] 27)).heap[W1.heap.size]? = some (.cells #[.int .i64 hosts, .slice pA pl pc, .int .i64 major, .slice (some ⟨b1, off1, none⟩) wl wk, .slice vA vl vc, .slice (some ⟨b0, off0, none⟩) ql qc] 27)) := heap_alloc_new W1 _
      have hdb : w.heap.size < W1.heap.size := lies_lt CB.out
      have CX := Lib.hid (lies_alloc (o := .cells #[.int .i64 hosts, .slice pA pl pc, .int .i64 major, .slice (some ⟨b1, off1, none⟩) wl wk, .slice vA vl vc, .slice (some ⟨b0, off0, none⟩) ql qc] 27) CB.out)
      have BX : Hid (Below w.heap.size w (W1.alloc (.cells #[.int .i64 hosts, .slice pA pl pc, .int .i64 major, .slice (some ⟨b1, off1, none⟩) wl wk, .slice vA vl vc, .slice (some ⟨b0, off0, none⟩) ql qc] 27))) := BB.out.alloc BB.out.size _
      clear CB BB c0 c1 c2 c3 c4 c5
      have CB := CX
      have BB := BX
      clear CX BX
      generalize W1.alloc (.cells #[.int .i64 hosts, .slice pA pl pc, .int .i64 major, .slice (some ⟨b1, off1, none⟩) wl wk, .slice vA vl vc, .slice (some ⟨b0, off0, none⟩) ql qc] 27) = X1 at CB BB DX ⊢
      obtain ⟨c0, c1, c2, c3, c4, c5⟩ := cells_6 CB.out
      generalize W1.heap.size = db at DX hdb ⊢
      obtain ⟨d0, d1, d2, d3, d4, d5⟩ := cells_6 DX.out
      have fd := lies_frozen DX.out 3
      go_upto_region 15 with (fail)
      have CX : Hid ((X1.setCell ⟨db, 3, none⟩ (.slice (some ⟨b1, off1, none⟩) n1 wk)).heap[w.heap.size]? = some (.cells #[.int .i64 hosts, .slice pA pl pc, .int .i64 major, .slice (some ⟨b1, off1, none⟩) wl wk, .slice vA vl vc, .slice (some ⟨b0, off0, none⟩) ql qc] 27)) := (Below.heap_setCell _ _ _ _ (show w.heap.size ≠ db by omega)).trans CB.out
      have DY : Hid ((X1.setCell ⟨db, 3, none⟩ (.slice (some ⟨b1, off1, none⟩) n1 wk)).heap[db]? = some (.cells #[.int .i64 hosts, .slice pA pl pc, .int .i64 major, .slice (some ⟨b1, off1, none⟩) n1 wk, .slice vA vl vc, .slice (some ⟨b0, off0, none⟩) ql qc] 27)) := lies_set DX.out 3 _
      have BX : Hid (Below w.heap.size w (X1.setCell ⟨db, 3, none⟩ (.slice (some ⟨b1, off1, none⟩) n1 wk))) := BB.out.setCell (show w.heap.size ≤ (⟨db, 3, none⟩ : Addr).block by show w.heap.size ≤ db; omega) _
      clear CB BB DX c0 c1 c2 c3 c4 c5 d0 d1 d2 d3 d4 d5 fd
      have CB := CX
      have BB := BX
      have DX := DY
      clear CX BX DY
      generalize X1.setCell ⟨db, 3, none⟩ (.slice (some ⟨b1, off1, none⟩) n1 wk) = Y1 at CB BB DX ⊢
      obtain ⟨c0, c1, c2, c3, c4, c5⟩ := cells_6 CB.out
      obtain ⟨d0, d1, d2, d3, d4, d5⟩ := cells_6 DX.out
      go_upto_region 18 with (first
        | (go_at_call 11; (with_reducible refine (HWa.out _ BB.out).mono ?_); rintro e w4 ⟨rfl, hb2⟩
           (have CX := Lib.hid (lies_below CB.out hb2 (lies_lt CB.out)))
           (have BX := Lib.hid (BB.out.trans (hb2.mono BB.out.size)))
           (clear hb2 CB BB c0 c1 c2 c3 c4 c5)
           (have CB := CX)
           (have BB := BX)
           (clear CX BX)
           (obtain ⟨c0, c1, c2, c3, c4, c5⟩ := cells_6 CB.out)))
      clear DX hdb d0 d1 d2 d3 d4 d5 i1 i2 i3 i5 i6
      have CX := Lib.hid (lies_alloc (o := .cells #[.int .i64 0, .int .i64 0] 31) CB.out)
      have BX : Hid (Below w.heap.size w (w4.alloc (.cells #[.int .i64 0, .int .i64 0] 31))) := BB.out.alloc BB.out.size _
      clear CB BB c0 c1 c2 c3 c4 c5
      have CB := CX
      have BB := BX
      clear CX BX
      generalize w4.alloc (.cells #[.int .i64 0, .int .i64 0] 31) = W2 at CB BB ⊢
      obtain ⟨c0, c1, c2, c3, c4, c5⟩ := cells_6 CB.out
      by_cases z2 : 0 < vl
      · obtain ⟨b2, off2, e2⟩ := HVN.out z2
        obtain ⟨n2, hn2⟩ : ∃ n2, vl = n2 + 1 := ⟨vl - 1, by omega⟩
        have i1 : decide (0 < (vl : Int)) = true := decide_eq_true (by omega)
        have i2 : decide (0 < vl) = true := decide_eq_true z2
        have i3 : IntKind.i64.wrap ((vl : Int) - 1) = (n2 : Int) := by rw [hn2]; exact (IntWalk.i64_in _ (by omega)).trans (by omega)
        have i4 : vl - 1 = n2 := by omega
        rw [i4] at HVa
        have i5 : n2 ≤ vc := by omega
        have i6 : (n2 : Int) ≤ (vc : Int) := by omega
        clear i4 hn2
        subst e2
        go_upto_region 20 with (fail)
        have DX : Hid ((W2.alloc (.cells #[.int .i64 hosts, .slice pA pl pc, .int .i64 major, .slice (some ⟨b1, off1, none⟩) wl wk, .slice (some ⟨b2, off2, none⟩) vl vc, .slice (some ⟨b0, off0, none⟩) ql qc] 27)).heap[W2.heap.size]? = some (.cells #[.int .i64 hosts, .slice pA pl pc, .int .i64 major, .slice (some ⟨b1, off1, none⟩) wl wk, .slice (some ⟨b2, off2, none⟩) vl vc, .slice (some ⟨b0, off0, none⟩) ql qc] 27)) := heap_alloc_new W2 _
        have hdb : w.heap.size < W2.heap.size := lies_lt CB.out
        have CX := Lib.hid (lies_alloc (o := .cells #[.int .i64 hosts, .slice pA pl pc, .int .i64 major, .slice (some ⟨b1, off1, none⟩) wl wk, .slice (some ⟨b2, off2, none⟩) vl vc, .slice (some ⟨b0, off0, none⟩) ql qc] 27) CB.out)
        have BX : Hid (Below w.heap.size w (W2.alloc (.cells #[.int .i64 hosts, .slice pA pl pc, .int .i64 major, .slice (some ⟨b1, off1, none⟩) wl wk, .slice (some ⟨b2, off2, none⟩) vl vc, .slice (some ⟨b0, off0, none⟩) ql qc] 27))) := BB.out.alloc BB.out.size _
        clear CB BB c0 c1 c2 c3 c4 c5
        have CB := CX
        have BB := BX
        clear CX BX
        generalize W2.alloc (.cells #[.int .i64 hosts, .slice pA pl pc, .int .i64 major, .slice (some ⟨b1, off1, none⟩) wl wk, .slice (some ⟨b2, off2, none⟩) vl vc, .slice (some ⟨b0, off0, none⟩) ql qc] 27) = X2 at CB BB DX ⊢
        obtain ⟨c0, c1, c2, c3, c4, c5⟩ := cells_6 CB.out
        generalize W2.heap.size = db at DX hdb ⊢
        obtain ⟨d0, d1, d2, d3, d4, d5⟩ := cells_6 DX.out
        have fd := lies_frozen DX.out 5
        go_upto_region 21 with (fail)
        have CX : Hid ((X2.setCell ⟨db, 5, none⟩ (.slice none 0 0)).heap[w.heap.size]? = some (.cells #[.int .i64 hosts, .slice pA pl pc, .int .i64 major, .slice (some ⟨b1, off1, none⟩) wl wk, .slice (some ⟨b2, off2, none⟩) vl vc, .slice (some ⟨b0, off0, none⟩) ql qc] 27)) := (Below.heap_setCell _ _ _ _ (show w.heap.size ≠ db by omega)).trans CB.out
        have DY : Hid ((X2.setCell ⟨db, 5, none⟩ (.slice none 0 0)).heap[db]? = some (.cells #[.int .i64 hosts, .slice pA pl pc, .int .i64 major, .slice (some ⟨b1, off1, none⟩) wl wk, .slice (some ⟨b2, off2, none⟩) vl vc, .slice none 0 0] 27)) := lies_set DX.out 5 _
        have BX : Hid (Below w.heap.size w (X2.setCell ⟨db, 5, none⟩ (.slice none 0 0))) := BB.out.setCell (show w.heap.size ≤ (⟨db, 5, none⟩ : Addr).block by show w.heap.size ≤ db; omega) _
        clear CB BB DX c0 c1 c2 c3 c4 c5 d0 d1 d2 d3 d4 d5 fd
        have CB := CX
        have BB := BX
        have DX := DY
        clear CX BX DY
        generalize X2.setCell ⟨db, 5, none⟩ (.slice none 0 0) = Z2 at CB BB DX ⊢
        obtain ⟨c0, c1, c2, c3, c4, c5⟩ := cells_6 CB.out
        obtain ⟨d0, d1, d2, d3, d4, d5⟩ := cells_6 DX.out
        have fd := lies_frozen DX.out 4
        go_upto_region 22 with (fail)
        have CX : Hid ((Z2.setCell ⟨db, 4, none⟩ (.slice (some ⟨b2, off2, none⟩) n2 vc)).heap[w.heap.size]? = some (.cells #[.int .i64 hosts, .slice pA pl pc, .int .i64 major, .slice (some ⟨b1, off1, none⟩) wl wk, .slice (some ⟨b2, off2, none⟩) vl vc, .slice (some ⟨b0, off0, none⟩) ql qc] 27)) := (Below.heap_setCell _ _ _ _ (show w.heap.size ≠ db by omega)).trans CB.out
        have DY : Hid ((Z2.setCell ⟨db, 4, none⟩ (.slice (some ⟨b2, off2, none⟩) n2 vc)).heap[db]? = some (.cells #[.int .i64 hosts, .slice pA pl pc, .int .i64 major, .slice (some ⟨b1, off1, none⟩) wl wk, .slice (some ⟨b2, off2, none⟩) n2 vc, .slice none 0 0] 27)) := lies_set DX.out 4 _
        have BX : Hid (Below w.heap.size w (Z2.setCell ⟨db, 4, none⟩ (.slice (some ⟨b2, off2, none⟩) n2 vc))) := BB.out.setCell (show w.heap.size ≤ (⟨db, 4, none⟩ : Addr).block by show w.heap.size ≤ db; omega) _
        clear CB BB DX c0 c1 c2 c3 c4 c5 d0 d1 d2 d3 d4 d5 fd
        have CB := CX
        have BB := BX
        have DX := DY
        clear CX BX DY
        generalize Z2.setCell ⟨db, 4, none⟩ (.slice (some ⟨b2, off2, none⟩) n2 vc) = Y2 at CB BB DX ⊢
        obtain ⟨c0, c1, c2, c3, c4, c5⟩ := cells_6 CB.out
        obtain ⟨d0, d1, d2, d3, d4, d5⟩ := cells_6 DX.out
        go_upto_region 25 with (first
          | (go_at_call 11; (with_reducible refine (HVa.out _ BB.out).mono ?_); rintro e w4 ⟨rfl, hb2⟩
             (have CX := Lib.hid (lies_below CB.out hb2 (lies_lt CB.out)))
             (have BX := Lib.hid (BB.out.trans (hb2.mono BB.out.size)))
             (clear hb2 CB BB c0 c1 c2 c3 c4 c5)
             (have CB := CX)
             (have BB := BX)
             (clear CX BX)
             (obtain ⟨c0, c1, c2, c3, c4, c5⟩ := cells_6 CB.out)))
        clear DX hdb d0 d1 d2 d3 d4 d5 i1 i2 i3 i5 i6
        have CX := Lib.hid (lies_alloc (o := .cells #[.int .i64 0, .int .i64 0] 31) CB.out)
        have BX : Hid (Below w.heap.size w (w4.alloc (.cells #[.int .i64 0, .int .i64 0] 31))) := BB.out.alloc BB.out.size _
        clear CB BB c0 c1 c2 c3 c4 c5
        have CB := CX
        have BB := BX
        clear CX BX
        generalize w4.alloc (.cells #[.int .i64 0, .int .i64 0] 31) = W3 at CB BB ⊢
        obtain ⟨c0, c1, c2, c3, c4, c5⟩ := cells_6 CB.out
        go_wp2_with (first
          | (go_at_call 10; (with_reducible refine (HA.out _).mono ?_); rintro e w9 ⟨rfl, hb2⟩
             (have CX := Lib.hid (lies_below CB.out hb2 (lies_lt CB.out)))
             (have BX := Lib.hid (BB.out.trans (hb2.mono BB.out.size)))
             (clear hb2 CB BB c0 c1 c2 c3 c4 c5)
             (have CB := CX)
             (have BB := BX)
             (clear CX BX)
             (obtain ⟨c0, c1, c2, c3, c4, c5⟩ := cells_6 CB.out)))
        go_returns
        exact ⟨rfl, BB.out⟩

      · have i1 : decide (0 < (vl : Int)) = false := decide_eq_false (by omega)
        have i2 : decide (0 < vl) = false := decide_eq_false z2
        go_upto_region 25 with (fail)
        clear i1 i2
        generalize hW : W2 = W3 at CB BB c0 c1 c2 c3 c4 c5 ⊢
        clear hW
        go_wp2_with (first
          | (go_at_call 10; (with_reducible refine (HA.out _).mono ?_); rintro e w9 ⟨rfl, hb2⟩
             (have CX := Lib.hid (lies_below CB.out hb2 (lies_lt CB.out)))
             (have BX := Lib.hid (BB.out.trans (hb2.mono BB.out.size)))
             (clear hb2 CB BB c0 c1 c2 c3 c4 c5)
             (have CB := CX)
             (have BB := BX)
             (clear CX BX)
             (obtain ⟨c0, c1, c2, c3, c4, c5⟩ := cells_6 CB.out)))
        go_returns
        exact ⟨rfl, BB.out⟩


    · have i1 : decide (0 < (wl : Int)) = false := decide_eq_false (by omega)
      have i2 : decide (0 < wl) = false := decide_eq_false z1
      go_upto_region 18 with (fail)
      clear i1 i2
      generalize hW : W1 = W2 at CB BB c0 c1 c2 c3 c4 c5 ⊢
      clear hW
      by_cases z2 : 0 < vl
      · obtain ⟨b2, off2, e2⟩ := HVN.out z2
        obtain ⟨n2, hn2⟩ : ∃ n2, vl = n2 + 1 := ⟨vl - 1, by omega⟩
        have i1 : decide (0 < (vl : Int)) = true := decide_eq_true (by omega)
        have i2 : decide (0 < vl) = true := decide_eq_true z2
        have i3 : IntKind.i64.wrap ((vl : Int) - 1) = (n2 : Int) := by rw [hn2]; exact (IntWalk.i64_in _ (by omega)).trans (by omega)
        have i4 : vl - 1 = n2 := by omega
        rw [i4] at HVa
        have i5 : n2 ≤ vc := by omega
        have i6 : (n2 : Int) ≤ (vc : Int) := by omega
        clear i4 hn2
        subst e2
        go_upto_region 20 with (fail)
        have DX : Hid ((W2.alloc (.cells #[.int .i64 hosts, .slice pA pl pc, .int .i64 major, .slice wA wl wk, .slice (some ⟨b2, off2, none⟩) vl vc, .slice (some ⟨b0, off0, none⟩) ql qc] 27)).heap[W2.heap.size]? = some (.cells #[.int .i64 hosts, .slice pA pl pc, .int .i64 major, .slice wA wl wk, .slice (some ⟨b2, off2, none⟩) vl vc, .slice (some ⟨b0, off0, none⟩) ql qc] 27)) := heap_alloc_new W2 _
        have hdb : w.heap.size < W2.heap.size := lies_lt CB.out
        have CX := Lib.hid (lies_alloc (o := .cells #[.int .i64 hosts, .slice pA pl pc, .int .i64 major, .slice wA wl wk, .slice (some ⟨b2, off2, none⟩) vl vc, .slice (some ⟨b0, off0, none⟩) ql qc] 27) CB.out)
        have BX : Hid (Below w.heap.size w (W2.alloc (.cells #[.int .i64 hosts, .slice pA pl pc, .int .i64 major, .slice wA wl wk, .slice (some ⟨b2, off2, none⟩) vl vc, .slice (some ⟨b0, off0, none⟩) ql qc] 27))) := BB.out.alloc BB.out.size _
        clear CB BB c0 c1 c2 c3 c4 c5
        have CB := CX
        have BB := BX
        clear CX BX
        generalize W2.alloc (.cells #[.int .i64 hosts, .slice pA pl pc, .int .i64 major, .slice wA wl wk, .slice (some ⟨b2, off2, none⟩) vl vc, .slice (some ⟨b0, off0, none⟩) ql qc] 27) = X2 at CB BB DX ⊢
        obtain ⟨c0, c1, c2, c3, c4, c5⟩ := cells_6 CB.out
        generalize W2.heap.size = db at DX hdb ⊢
        obtain ⟨d0, d1, d2, d3, d4, d5⟩ := cells_6 DX.out
        have fd := lies_frozen DX.out 5
        go_upto_region 21 with (fail)
        have CX : Hid ((X2.setCell ⟨db, 5, none⟩ (.slice none 0 0)).heap[w.heap.size]? = some (.cells #[.int .i64 hosts, .slice pA pl pc, .int .i64 major, .slice wA wl wk, .slice (some ⟨b2, off2, none⟩) vl vc, .slice (some ⟨b0, off0, none⟩) ql qc] 27)) := (Below.heap_setCell _ _ _ _ (show w.heap.size ≠ db by omega)).trans CB.out
        have DY : Hid ((X2.setCell ⟨db, 5, none⟩ (.slice none 0 0)).heap[db]? = some (.cells #[.int .i64 hosts, .slice pA pl pc, .int .i64 major, .slice wA wl wk, .slice (some ⟨b2, off2, none⟩) vl vc, .slice none 0 0] 27)) := lies_set DX.out 5 _
        have BX : Hid (Below w.heap.size w (X2.setCell ⟨db, 5, none⟩ (.slice none 0 0))) := BB.out.setCell (show w.heap.size ≤ (⟨db, 5, none⟩ : Addr).block by show w.heap.size ≤ db; omega) _
        clear CB BB DX c0 c1 c2 c3 c4 c5 d0 d1 d2 d3 d4 d5 fd
        have CB := CX
        have BB := BX
        have DX := DY
        clear CX BX DY
        generalize X2.setCell ⟨db, 5, none⟩ (.slice none 0 0) = Z2 at CB BB DX ⊢
        obtain ⟨c0, c1, c2, c3, c4, c5⟩ := cells_6 CB.out
        obtain ⟨d0, d1, d2, d3, d4, d5⟩ := cells_6 DX.out
        have fd := lies_frozen DX.out 4
        go_upto_region 22 with (fail)
        have CX : Hid ((Z2.setCell ⟨db, 4, none⟩ (.slice (some ⟨b2, off2, none⟩) n2 vc)).heap[w.heap.size]? = some (.cells #[.int .i64 hosts, .slice pA pl pc, .int .i64 major, .slice wA wl wk, .slice (some ⟨b2, off2, none⟩) vl vc, .slice (some ⟨b0, off0, none⟩) ql qc] 27)) := (Below.heap_setCell _ _ _ _ (show w.heap.size ≠ db by omega)).trans CB.out
        have DY : Hid ((Z2.setCell ⟨db, 4, none⟩ (.slice (some ⟨b2, off2, none⟩) n2 vc)).heap[db]? = some (.cells #[.int .i64 hosts, .slice pA pl pc, .int .i64 major, .slice wA wl wk, .slice (some ⟨b2, off2, none⟩) n2 vc, .slice none 0 0] 27)) := lies_set DX.out 4 _
        have BX : Hid (Below w.heap.size w (Z2.setCell ⟨db, 4, none⟩ (.slice (some ⟨b2, off2, none⟩) n2 vc))) := BB.out.setCell (show w.heap.size ≤ (⟨db, 4, none⟩ : Addr).block by show w.heap.size ≤ db; omega) _
        clear CB BB DX c0 c1 c2 c3 c4 c5 d0 d1 d2 d3 d4 d5 fd
        have CB := CX
        have BB := BX
        have DX := DY
        clear CX BX DY
        generalize Z2.setCell ⟨db, 4, none⟩ (.slice (some ⟨b2, off2, none⟩) n2 vc) = Y2 at CB BB DX ⊢
        obtain ⟨c0, c1, c2, c3, c4, c5⟩ := cells_6 CB.out
        obtain ⟨d0, d1, d2, d3, d4, d5⟩ := cells_6 DX.out
        go_upto_region 25 with (first
          | (go_at_call 11; (with_reducible refine (HVa.out _ BB.out).mono ?_); rintro e w4 ⟨rfl, hb2⟩
             (have CX := Lib.hid (lies_below CB.out hb2 (lies_lt CB.out)))
             (have BX := Lib.hid (BB.out.trans (hb2.mono BB.out.size)))
             (clear hb2 CB BB c0 c1 c2 c3 c4 c5)
             (have CB := CX)
             (have BB := BX)
             (clear CX BX)
             (obtain ⟨c0, c1, c2, c3, c4, c5⟩ := cells_6 CB.out)))
        clear DX hdb d0 d1 d2 d3 d4 d5 i1 i2 i3 i5 i6
        have CX := Lib.hid (lies_alloc (o := .cells #[.int .i64 0, .int .i64 0] 31) CB.out)
        have BX : Hid (Below w.heap.size w (w4.alloc (.cells #[.int .i64 0, .int .i64 0] 31))) := BB.out.alloc BB.out.size _
        clear CB BB c0 c1 c2 c3 c4 c5
        have CB := CX
        have BB := BX
        clear CX BX
        generalize w4.alloc (.cells #[.int .i64 0, .int .i64 0] 31) = W3 at CB BB ⊢
        obtain ⟨c0, c1, c2, c3, c4, c5⟩ := cells_6 CB.out
        go_wp2_with (first
          | (go_at_call 10; (with_reducible refine (HA.out _).mono ?_); rintro e w9 ⟨rfl, hb2⟩
             (have CX := Lib.hid (lies_below CB.out hb2 (lies_lt CB.out)))
             (have BX := Lib.hid (BB.out.trans (hb2.mono BB.out.size)))
             (clear hb2 CB BB c0 c1 c2 c3 c4 c5)
             (have CB := CX)
             (have BB := BX)
             (clear CX BX)
             (obtain ⟨c0, c1, c2, c3, c4, c5⟩ := cells_6 CB.out)))
        go_returns
        exact ⟨rfl, BB.out⟩

      · have i1 : decide (0 < (vl : Int)) = false := decide_eq_false (by omega)
        have i2 : decide (0 < vl) = false := decide_eq_false z2
        go_upto_region 25 with (fail)
        clear i1 i2
        generalize hW : W2 = W3 at CB BB c0 c1 c2 c3 c4 c5 ⊢
        clear hW
        go_wp2_with (first
          | (go_at_call 10; (with_reducible refine (HA.out _).mono ?_); rintro e w9 ⟨rfl, hb2⟩
             (have CX := Lib.hid (lies_below CB.out hb2 (lies_lt CB.out)))
             (have BX := Lib.hid (BB.out.trans (hb2.mono BB.out.size)))
             (clear hb2 CB BB c0 c1 c2 c3 c4 c5)
             (have CB := CX)
             (have BB := BX)
             (clear CX BX)
             (obtain ⟨c0, c1, c2, c3, c4, c5⟩ := cells_6 CB.out)))
        go_returns
        exact ⟨rfl, BB.out⟩



  · have i1 : decide (0 < (ql : Int)) = false := decide_eq_false (by omega)
    have i2 : decide (0 < ql) = false := decide_eq_false z0
    go_upto_region 12 with (fail)
    clear i1 i2
    generalize hW : W0 = W1 at CB BB c0 c1 c2 c3 c4 c5 ⊢
    clear hW
    by_cases z1 : 0 < wl
    · obtain ⟨b1, off1, e1⟩ := HWN.out z1
      obtain ⟨n1, hn1⟩ : ∃ n1, wl = n1 + 1 := ⟨wl - 1, by omega⟩
      have i1 : decide (0 < (wl : Int)) = true := decide_eq_true (by omega)
      have i2 : decide (0 < wl) = true := decide_eq_true z1
      have i3 : IntKind.i64.wrap ((wl : Int) - 1) = (n1 : Int) := by rw [hn1]; exact (IntWalk.i64_in _ (by omega)).trans (by omega)
      have i4 : wl - 1 = n1 := by omega
      rw [i4] at HWa
      have i5 : n1 ≤ wk := by omega
      have i6 : (n1 : Int) ≤ (wk : Int) := by omega
      clear i4 hn1
      subst e1
      go_upto_region 14 with (fail)
      have DX : Hid ((W1.alloc (.cells #[.int .i64 hosts, .slice pA pl pc, .int .i64 major, .slice (some ⟨b1, off1, none⟩) wl wk, .slice vA vl vc, .slice qA ql qc] 27)).heap[W1.heap.size]? = some (.cells #[.int .i64 hosts, .slice pA pl pc, .int .i64 major, .slice (some ⟨b1, off1, none⟩) wl wk, .slice vA vl vc, .slice qA ql qc] 27)) := heap_alloc_new W1 _
      have hdb : w.heap.size < W1.heap.size := lies_lt CB.out
      have CX := Lib.hid (lies_alloc (o := .cells #[.int .i64 hosts, .slice pA pl pc, .int .i64 major, .slice (some ⟨b1, off1, none⟩) wl wk, .slice vA vl vc, .slice qA ql qc] 27) CB.out)
      have BX : Hid (Below w.heap.size w (W1.alloc (.cells #[.int .i64 hosts, .slice pA pl pc, .int .i64 major, .slice (some ⟨b1, off1, none⟩) wl wk, .slice vA vl vc, .slice qA ql qc] 27))) := BB.out.alloc BB.out.size _
      clear CB BB c0 c1 c2 c3 c4 c5
      have CB := CX
      have BB := BX
      clear CX BX
      generalize W1.alloc (.cells #[.int .i64 hosts, .slice pA pl pc, .int .i64 major, .slice (some ⟨b1, off1, none⟩) wl wk, .slice vA vl vc, .slice qA ql qc] 27) = X1 at CB BB DX ⊢
      obtain ⟨c0, c1, c2, c3, c4, c5⟩ := cells_6 CB.out
      generalize W1.heap.size = db at DX hdb ⊢
      obtain ⟨d0, d1, d2, d3, d4, d5⟩ := cells_6 DX.out
      have fd := lies_frozen DX.out 3
      go_upto_region 15 with (fail)
      have CX : Hid ((X1.setCell ⟨db, 3, none⟩ (.slice (some ⟨b1, off1, none⟩) n1 wk)).heap[w.heap.size]? = some (.cells #[.int .i64 hosts, .slice pA pl pc, .int .i64 major, .slice (some ⟨b1, off1, none⟩) wl wk, .slice vA vl vc, .slice qA ql qc] 27)) := (Below.heap_setCell _ _ _ _ (show w.heap.size ≠ db by omega)).trans CB.out
      have DY : Hid ((X1.setCell ⟨db, 3, none⟩ (.slice (some ⟨b1, off1, none⟩) n1 wk)).heap[db]? = some (.cells #[.int .i64 hosts, .slice pA pl pc, .int .i64 major, .slice (some ⟨b1, off1, none⟩) n1 wk, .slice vA vl vc, .slice qA ql qc] 27)) := lies_set DX.out 3 _
      have BX : Hid (Below w.heap.size w (X1.setCell ⟨db, 3, none⟩ (.slice (some ⟨b1, off1, none⟩) n1 wk))) := BB.out.setCell (show w.heap.size ≤ (⟨db, 3, none⟩ : Addr).block by show w.heap.size ≤ db; omega) _
      clear CB BB DX c0 c1 c2 c3 c4 c5 d0 d1 d2 d3 d4 d5 fd
      have CB := CX
      have BB := BX
      have DX := DY
      clear CX BX DY
      generalize X1.setCell ⟨db, 3, none⟩ (.slice (some ⟨b1, off1, none⟩) n1 wk) = Y1 at CB BB DX ⊢
      obtain ⟨c0, c1, c2, c3, c4, c5⟩ := cells_6 CB.out
      obtain ⟨d0, d1, d2, d3, d4, d5⟩ := cells_6 DX.out
      go_upto_region 18 with (first
        | (go_at_call 11; (with_reducible refine (HWa.out _ BB.out).mono ?_); rintro e w4 ⟨rfl, hb2⟩
           (have CX := Lib.hid (lies_below CB.out hb2 (lies_lt CB.out)))
           (have BX := Lib.hid (BB.out.trans (hb2.mono BB.out.size)))
           (clear hb2 CB BB c0 c1 c2 c3 c4 c5)
           (have CB := CX)
           (have BB := BX)
           (clear CX BX)
           (obtain ⟨c0, c1, c2, c3, c4, c5⟩ := cells_6 CB.out)))
      clear DX hdb d0 d1 d2 d3 d4 d5 i1 i2 i3 i5 i6
      have CX := Lib.hid (lies_alloc (o := .cells #[.int .i64 0, .int .i64 0] 31) CB.out)
      have BX : Hid (Below w.heap.size w (w4.alloc (.cells #[.int .i64 0, .int .i64 0] 31))) := BB.out.alloc BB.out.size _
      clear CB BB c0 c1 c2 c3 c4 c5
      have CB := CX
      have BB := BX
      clear CX BX
      generalize w4.alloc (.cells #[.int .i64 0, .int .i64 0] 31) = W2 at CB BB ⊢
      obtain ⟨c0, c1, c2, c3, c4, c5⟩ := cells_6 CB.out
      by_cases z2 : 0 < vl
      · obtain ⟨b2, off2, e2⟩ := HVN.out z2
        obtain ⟨n2, hn2⟩ : ∃ n2, vl = n2 + 1 := ⟨vl - 1, by omega⟩
        have i1 : decide (0 < (vl : Int)) = true := decide_eq_true (by omega)
        have i2 : decide (0 < vl) = true := decide_eq_true z2
        have i3 : IntKind.i64.wrap ((vl : Int) - 1) = (n2 : Int) := by rw [hn2]; exact (IntWalk.i64_in _ (by omega)).trans (by omega)
        have i4 : vl - 1 = n2 := by omega
        rw [i4] at HVa
        have i5 : n2 ≤ vc := by omega
        have i6 : (n2 : Int) ≤ (vc : Int) := by omega
        clear i4 hn2
        subst e2
        go_upto_region 20 with (fail)
        have DX : Hid ((W2.alloc (.cells #[.int .i64 hosts, .slice pA pl pc, .int .i64 major, .slice (some ⟨b1, off1, none⟩) wl wk, .slice (some ⟨b2, off2, none⟩) vl vc, .slice qA ql qc] 27)).heap[W2.heap.size]? = some (.cells #[.int .i64 hosts, .slice pA pl pc, .int .i64 major, .slice (some ⟨b1, off1, none⟩) wl wk, .slice (some ⟨b2, off2, none⟩) vl vc, .slice qA ql qc] 27)) := heap_alloc_new W2 _
        have hdb : w.heap.size < W2.heap.size := lies_lt CB.out
        have CX := Lib.hid (lies_alloc (o := .cells #[.int .i64 hosts, .slice pA pl pc, .int .i64 major, .slice (some ⟨b1, off1, none⟩) wl wk, .slice (some ⟨b2, off2, none⟩) vl vc, .slice qA ql qc] 27) CB.out)
        have BX : Hid (Below w.heap.size w (W2.alloc (.cells #[.int .i64 hosts, .slice pA pl pc, .int .i64 major, .slice (some ⟨b1, off1, none⟩) wl wk, .slice (some ⟨b2, off2, none⟩) vl vc, .slice qA ql qc] 27))) := BB.out.alloc BB.out.size _
        clear CB BB c0 c1 c2 c3 c4 c5
        have CB := CX
        have BB := BX
        clear CX BX
        generalize W2.alloc (.cells #[.int .i64 hosts, .slice pA pl pc, .int .i64 major, .slice (some ⟨b1, off1, none⟩) wl wk, .slice (some ⟨b2, off2, none⟩) vl vc, .slice qA ql qc] 27) = X2 at CB BB DX ⊢
        obtain ⟨c0, c1, c2, c3, c4, c5⟩ := cells_6 CB.out
        generalize W2.heap.size = db at DX hdb ⊢
        obtain ⟨d0, d1, d2, d3, d4, d5⟩ := cells_6 DX.out
        have fd := lies_frozen DX.out 5
        go_upto_region 21 with (fail)
        have CX : Hid ((X2.setCell ⟨db, 5, none⟩ (.slice none 0 0)).heap[w.heap.size]? = some (.cells #[.int .i64 hosts, .slice pA pl pc, .int .i64 major, .slice (some ⟨b1, off1, none⟩) wl wk, .slice (some ⟨b2, off2, none⟩) vl vc, .slice qA ql qc] 27)) := (Below.heap_setCell _ _ _ _ (show w.heap.size ≠ db by omega)).trans CB.out
        have DY : Hid ((X2.setCell ⟨db, 5, none⟩ (.slice none 0 0)).heap[db]? = some (.cells #[.int .i64 hosts, .slice pA pl pc, .int .i64 major, .slice (some ⟨b1, off1, none⟩) wl wk, .slice (some ⟨b2, off2, none⟩) vl vc, .slice none 0 0] 27)) := lies_set DX.out 5 _
        have BX : Hid (Below w.heap.size w (X2.setCell ⟨db, 5, none⟩ (.slice none 0 0))) := BB.out.setCell (show w.heap.size ≤ (⟨db, 5, none⟩ : Addr).block by show w.heap.size ≤ db; omega) _
        clear CB BB DX c0 c1 c2 c3 c4 c5 d0 d1 d2 d3 d4 d5 fd
        have CB := CX
        have BB := BX
        have DX := DY
        clear CX BX DY
        generalize X2.setCell ⟨db, 5, none⟩ (.slice none 0 0) = Z2 at CB BB DX ⊢
        obtain ⟨c0, c1, c2, c3, c4, c5⟩ := cells_6 CB.out
        obtain ⟨d0, d1, d2, d3, d4, d5⟩ := cells_6 DX.out
        have fd := lies_frozen DX.out 4
        go_upto_region 22 with (fail)
        have CX : Hid ((Z2.setCell ⟨db, 4, none⟩ (.slice (some ⟨b2, off2, none⟩) n2 vc)).heap[w.heap.size]? = some (.cells #[.int .i64 hosts, .slice pA pl pc, .int .i64 major, .slice (some ⟨b1, off1, none⟩) wl wk, .slice (some ⟨b2, off2, none⟩) vl vc, .slice qA ql qc] 27)) := (Below.heap_setCell _ _ _ _ (show w.heap.size ≠ db by omega)).trans CB.out
        have DY : Hid ((Z2.setCell ⟨db, 4, none⟩ (.slice (some ⟨b2, off2, none⟩) n2 vc)).heap[db]? = some (.cells #[.int .i64 hosts, .slice pA pl pc, .int .i64 major, .slice (some ⟨b1, off1, none⟩) wl wk, .slice (some ⟨b2, off2, none⟩) n2 vc, .slice none 0 0] 27)) := lies_set DX.out 4 _
        have BX : Hid (Below w.heap.size w (Z2.setCell ⟨db, 4, none⟩ (.slice (some ⟨b2, off2, none⟩) n2 vc))) := BB.out.setCell (show w.heap.size ≤ (⟨db, 4, none⟩ : Addr).block by show w.heap.size ≤ db; omega) _
        clear CB BB DX c0 c1 c2 c3 c4 c5 d0 d1 d2 d3 d4 d5 fd
        have CB := CX
        have BB := BX
        have DX := DY
        clear CX BX DY
        generalize Z2.setCell ⟨db, 4, none⟩ (.slice (some ⟨b2, off2, none⟩) n2 vc) = Y2 at CB BB DX ⊢
        obtain ⟨c0, c1, c2, c3, c4, c5⟩ := cells_6 CB.out
        obtain ⟨d0, d1, d2, d3, d4, d5⟩ := cells_6 DX.out
        go_upto_region 25 with (first
          | (go_at_call 11; (with_reducible refine (HVa.out _ BB.out).mono ?_); rintro e w4 ⟨rfl, hb2⟩
             (have CX := Lib.hid (lies_below CB.out hb2 (lies_lt CB.out)))
             (have BX := Lib.hid (BB.out.trans (hb2.mono BB.out.size)))
             (clear hb2 CB BB c0 c1 c2 c3 c4 c5)
             (have CB := CX)
             (have BB := BX)
             (clear CX BX)
             (obtain ⟨c0, c1, c2, c3, c4, c5⟩ := cells_6 CB.out)))
        clear DX hdb d0 d1 d2 d3 d4 d5 i1 i2 i3 i5 i6
        have CX := Lib.hid (lies_alloc (o := .cells #[.int .i64 0, .int .i64 0] 31) CB.out)
        have BX : Hid (Below w.heap.size w (w4.alloc (.cells #[.int .i64 0, .int .i64 0] 31))) := BB.out.alloc BB.out.size _
        clear CB BB c0 c1 c2 c3 c4 c5
        have CB := CX
        have BB := BX
        clear CX BX
        generalize w4.alloc (.cells #[.int .i64 0, .int .i64 0] 31) = W3 at CB BB ⊢
        obtain ⟨c0, c1, c2, c3, c4, c5⟩ := cells_6 CB.out
        go_wp2_with (first
          | (go_at_call 10; (with_reducible refine (HA.out _).mono ?_); rintro e w9 ⟨rfl, hb2⟩
             (have CX := Lib.hid (lies_below CB.out hb2 (lies_lt CB.out)))
             (have BX := Lib.hid (BB.out.trans (hb2.mono BB.out.size)))
             (clear hb2 CB BB c0 c1 c2 c3 c4 c5)
             (have CB := CX)
             (have BB := BX)
             (clear CX BX)
             (obtain ⟨c0, c1, c2, c3, c4, c5⟩ := cells_6 CB.out)))
        go_returns
        exact ⟨rfl, BB.out⟩

      · have i1 : decide (0 < (vl : Int)) = false := decide_eq_false (by omega)
        have i2 : decide (0 < vl) = false := decide_eq_false z2
        go_upto_region 25 with (fail)
        clear i1 i2
        generalize hW : W2 = W3 at CB BB c0 c1 c2 c3 c4 c5 ⊢
        clear hW
        go_wp2_with (first
          | (go_at_call 10; (with_reducible refine (HA.out _).mono ?_); rintro e w9 ⟨rfl, hb2⟩
             (have CX := Lib.hid (lies_below CB.out hb2 (lies_lt CB.out)))
             (have BX := Lib.hid (BB.out.trans (hb2.mono BB.out.size)))
             (clear hb2 CB BB c0 c1 c2 c3 c4 c5)
             (have CB := CX)
             (have BB := BX)
             (clear CX BX)
             (obtain ⟨c0, c1, c2, c3, c4, c5⟩ := cells_6 CB.out)))
        go_returns
        exact ⟨rfl, BB.out⟩


    · have i1 : decide (0 < (wl : Int)) = false := decide_eq_false (by omega)
      have i2 : decide (0 < wl) = false := decide_eq_false z1
      go_upto_region 18 with (fail)
      clear i1 i2
      generalize hW : W1 = W2 at CB BB c0 c1 c2 c3 c4 c5 ⊢
      clear hW
      by_cases z2 : 0 < vl
      · obtain ⟨b2, off2, e2⟩ := HVN.out z2
        obtain ⟨n2, hn2⟩ : ∃ n2, vl = n2 + 1 := ⟨vl - 1, by omega⟩
        have i1 : decide (0 < (vl : Int)) = true := decide_eq_true (by omega)
        have i2 : decide (0 < vl) = true := decide_eq_true z2
        have i3 : IntKind.i64.wrap ((vl : Int) - 1) = (n2 : Int) := by rw [hn2]; exact (IntWalk.i64_in _ (by omega)).trans (by omega)
        have i4 : vl - 1 = n2 := by omega
        rw [i4] at HVa
        have i5 : n2 ≤ vc := by omega
        have i6 : (n2 : Int) ≤ (vc : Int) := by omega
        clear i4 hn2
        subst e2
        go_upto_region 20 with (fail)
        have DX : Hid ((W2.alloc (.cells #[.int .i64 hosts, .slice pA pl pc, .int .i64 major, .slice wA wl wk, .slice (some ⟨b2, off2, none⟩) vl vc, .slice qA ql qc] 27)).heap[W2.heap.size]? = some (.cells #[.int .i64 hosts, .slice pA pl pc, .int .i64 major, .slice wA wl wk, .slice (some ⟨b2, off2, none⟩) vl vc, .slice qA ql qc] 27)) := heap_alloc_new W2 _
        have hdb : w.heap.size < W2.heap.size := lies_lt CB.out
        have CX := Lib.hid (lies_alloc (o := .cells #[.int .i64 hosts, .slice pA pl pc, .int .i64 major, .slice wA wl wk, .slice (some ⟨b2, off2, none⟩) vl vc, .slice qA ql qc] 27) CB.out)
        have BX : Hid (Below w.heap.size w (W2.alloc (.cells #[.int .i64 hosts, .slice pA pl pc, .int .i64 major, .slice wA wl wk, .slice (some ⟨b2, off2, none⟩) vl vc, .slice qA ql qc] 27))) := BB.out.alloc BB.out.size _
        clear CB BB c0 c1 c2 c3 c4 c5
        have CB := CX
        have BB := BX
        clear CX BX
        generalize W2.alloc (.cells #[.int .i64 hosts, .slice pA pl pc, .int .i64 major, .slice wA wl wk, .slice (some ⟨b2, off2, none⟩) vl vc, .slice qA ql qc] 27) = X2 at CB BB DX ⊢
        obtain ⟨c0, c1, c2, c3, c4, c5⟩ := cells_6 CB.out
        generalize W2.heap.size = db at DX hdb ⊢
        obtain ⟨d0, d1, d2, d3, d4, d5⟩ := cells_6 DX.out
        have fd := lies_frozen DX.out 5
        go_upto_region 21 with (fail)
        have CX : Hid ((X2.setCell ⟨db, 5, none⟩ (.slice none 0 0)).heap[w.heap.size]? = some (.cells #[.int .i64 hosts, .slice pA pl pc, .int .i64 major, .slice wA wl wk, .slice (some ⟨b2, off2, none⟩) vl vc, .slice qA ql qc] 27)) := (Below.heap_setCell _ _ _ _ (show w.heap.size ≠ db by omega)).trans CB.out
        have DY : Hid ((X2.setCell ⟨db, 5, none⟩ (.slice none 0 0)).heap[db]? = some (.cells #[.int .i64 hosts, .slice pA pl pc, .int .i64 major, .slice wA wl wk, .slice (some ⟨b2, off2, none⟩) vl vc, .slice none 0 0] 27)) := lies_set DX.out 5 _
        have BX : Hid (Below w.heap.size w (X2.setCell ⟨db, 5, none⟩ (.slice none 0 0))) := BB.out.setCell (show w.heap.size ≤ (⟨db, 5, none⟩ : Addr).block by show w.heap.size ≤ db; omega) _
        clear CB BB DX c0 c1 c2 c3 c4 c5 d0 d1 d2 d3 d4 d5 fd
        have CB := CX
        have BB := BX
        have DX := DY
        clear CX BX DY
        generalize X2.setCell ⟨db, 5, none⟩ (.slice none 0 0) = Z2 at CB BB DX ⊢
        obtain ⟨c0, c1, c2, c3, c4, c5⟩ := cells_6 CB.out
        obtain ⟨d0, d1, d2, d3, d4, d5⟩ := cells_6 DX.out
        have fd := lies_frozen DX.out 4
        go_upto_region 22 with (fail)
        have CX : Hid ((Z2.setCell ⟨db, 4, none⟩ (.slice (some ⟨b2, off2, none⟩) n2 vc)).heap[w.heap.size]? = some (.cells #[.int .i64 hosts, .slice pA pl pc, .int .i64 major, .slice wA wl wk, .slice (some ⟨b2, off2, none⟩) vl vc, .slice qA ql qc] 27)) := (Below.heap_setCell _ _ _ _ (show w.heap.size ≠ db by omega)).trans CB.out
        have DY : Hid ((Z2.setCell ⟨db, 4, none⟩ (.slice (some ⟨b2, off2, none⟩) n2 vc)).heap[db]? = some (.cells #[.int .i64 hosts, .slice pA pl pc, .int .i64 major, .slice wA wl wk, .slice (some ⟨b2, off2, none⟩) n2 vc, .slice none 0 0] 27)) := lies_set DX.out 4 _
        have BX : Hid (Below w.heap.size w (Z2.setCell ⟨db, 4, none⟩ (.slice (some ⟨b2, off2, none⟩) n2 vc))) := BB.out.setCell (show w.heap.size ≤ (⟨db, 4, none⟩ : Addr).block by show w.heap.size ≤ db; omega) _
        clear CB BB DX c0 c1 c2 c3 c4 c5 d0 d1 d2 d3 d4 d5 fd
        have CB := CX
        have BB := BX
        have DX := DY
        clear CX BX DY
        generalize Z2.setCell ⟨db, 4, none⟩ (.slice (some ⟨b2, off2, none⟩) n2 vc) = Y2 at CB BB DX ⊢
        obtain ⟨c0, c1, c2, c3, c4, c5⟩ := cells_6 CB.out
        obtain ⟨d0, d1, d2, d3, d4, d5⟩ := cells_6 DX.out
        go_upto_region 25 with (first
          | (go_at_call 11; (with_reducible refine (HVa.out _ BB.out).mono ?_); rintro e w4 ⟨rfl, hb2⟩
             (have CX := Lib.hid (lies_below CB.out hb2 (lies_lt CB.out)))
             (have BX := Lib.hid (BB.out.trans (hb2.mono BB.out.size)))
             (clear hb2 CB BB c0 c1 c2 c3 c4 c5)
             (have CB := CX)
             (have BB := BX)
             (clear CX BX)
             (obtain ⟨c0, c1, c2, c3, c4, c5⟩ := cells_6 CB.out)))
        clear DX hdb d0 d1 d2 d3 d4 d5 i1 i2 i3 i5 i6
        have CX := Lib.hid (lies_alloc (o := .cells #[.int .i64 0, .int .i64 0] 31) CB.out)
        have BX : Hid (Below w.heap.size w (w4.alloc (.cells #[.int .i64 0, .int .i64 0] 31))) := BB.out.alloc BB.out.size _
        clear CB BB c0 c1 c2 c3 c4 c5
        have CB := CX
        have BB := BX
        clear CX BX
        generalize w4.alloc (.cells #[.int .i64 0, .int .i64 0] 31) = W3 at CB BB ⊢
        obtain ⟨c0, c1, c2, c3, c4, c5⟩ := cells_6 CB.out
        go_wp2_with (first
          | (go_at_call 10; (with_reducible refine (HA.out _).mono ?_); rintro e w9 ⟨rfl, hb2⟩
             (have CX := Lib.hid (lies_below CB.out hb2 (lies_lt CB.out)))
             (have BX := Lib.hid (BB.out.trans (hb2.mono BB.out.size)))
             (clear hb2 CB BB c0 c1 c2 c3 c4 c5)
             (have CB := CX)
             (have BB := BX)
             (clear CX BX)
             (obtain ⟨c0, c1, c2, c3, c4, c5⟩ := cells_6 CB.out)))
        go_returns
        exact ⟨rfl, BB.out⟩

      · have i1 : decide (0 < (vl : Int)) = false := decide_eq_false (by omega)
        have i2 : decide (0 < vl) = false := decide_eq_false z2
        go_upto_region 25 with (fail)
        clear i1 i2
        generalize hW : W2 = W3 at CB BB c0 c1 c2 c3 c4 c5 ⊢
        clear hW
        go_wp2_with (first
          | (go_at_call 10; (with_reducible refine (HA.out _).mono ?_); rintro e w9 ⟨rfl, hb2⟩
             (have CX := Lib.hid (lies_below CB.out hb2 (lies_lt CB.out)))
             (have BX := Lib.hid (BB.out.trans (hb2.mono BB.out.size)))
             (clear hb2 CB BB c0 c1 c2 c3 c4 c5)
             (have CB := CX)
             (have BB := BX)
             (clear CX BX)
             (obtain ⟨c0, c1, c2, c3, c4, c5⟩ := cells_6 CB.out)))
        go_returns
        exact ⟨rfl, BB.out⟩






set_option maxRecDepth 100000 in
theorem configLess_lifted (os : Os) (started : os.Started) (H : Type) (enc : TypeId × Value → H) :
    ReturnsInHanded {} Try.checked os 6 .any (Rows.configLessSpec.pre6 enc Try.prog Try.f6 Rows.configLessRow.domain false) (Rows.configLessSpec.post enc Try.prog Try.f6 false true false false) := by
  refine returnsInHanded_of_change (C := Try.checked) configLess_own started (by kernel_rfl) Try.func6
    (ChangeSpec.witness6 (enc := enc) (C := Try.checked) false ⟨#[], #[.agg #[.int .i64 0, .slice none 0 0, .int .i64 0, .slice none 0 0, .slice none 0 0, .slice none 0 0]], []⟩ 8 (by kernel_rfl) (by kernel_rfl) (by kernel_rfl) (by kernel_rfl)) ?_
  intro W base args ds gs before hval0 hW hcnd _
  have hval : ∀ (j : Nat) t v, Try.f6.params[j]? = some t → args[j]? = some v → Value.okWide Try.prog W .any base t v := hval0
  have hW' := hW
  obtain ⟨p, q, hA0, hV, rfl, hfz, hnd⟩ := hW
  have hA : DataW.TrodAll enc Try.prog W 0 (fun _ => true) true Try.f6.params.toList args.toList ds p := hA0
  rw [Try.params6] at hA hval
  obtain ⟨v0, vs0, d0, ds0, p0, q0, hargs, rfl, rfl, h0, r0⟩ := trodAll_cons hA
  obtain ⟨rfl, rfl, rfl⟩ := trodAll_nil r0
  obtain rfl : args = #[v0] := by cases args; simp_all
  obtain ⟨rfl, rfl⟩ := trodVars_none hV
  have k0 := h0
  have lt0 : ∀ x ∈ p0, x.block < W.heap.size := by obtain ⟨m, hm⟩ := k0; exact DataW.trod_lt m _ _ _ hm
  obtain ⟨fu0, hf0⟩ := h0
  obtain ⟨c0, co0, ch0, ck0, rfl⟩ := Cx_open2 (hval 0 27 v0 rfl rfl) hf0
  clear hA0 hval0
  have hwalk := configLess_walk c0 co0 ch0 ck0 W

  refine hwalk.mono fun e W' ⟨he, bel⟩ => ?_
  subst he
  exact ⟨_, rfl, _, _, _, [], _, [], hW', trodAll_mk1 (shut_bool Try.underlying4 _), (trodAll_cons_mk (Below.trod configLess_laid (by kernel_rfl) (of_decide_eq_true (by kernel_rfl)) k0 bel lt0) trodAll_mk0), rfl, bel.frame _, fun h => by cases h⟩

theorem configLess_over : Rows.configLessRow.holds Try.pinned (OpenSpec.ofChange Rows.configLessSpec) :=
  OpenClaim.holds_of_wide 6 Try.f6 rfl rfl rfl rfl rfl rfl rfl ⟨rfl, rfl, rfl, rfl, rfl⟩ rfl rfl rfl rfl rfl (by kernel_rfl) Try.func6 (by kernel_rfl)
    (of_decide_eq_true (by kernel_rfl)) (by unfold Func.isWrapper; first | (rw [if_pos (by decide +kernel)]; kernel_rfl) | (rw [if_neg (by decide +kernel)]; exact ⟨rfl, rfl⟩))
    (fun os started H enc _ => configLess_lifted os started H enc)

theorem configLess_holds : Rows.ConfigLessSaid := configLess_over
#print axioms configLess_holds
end Go.Proofs.Ythicfgcnhefinaa
