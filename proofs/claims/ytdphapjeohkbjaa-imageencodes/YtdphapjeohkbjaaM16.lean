/- Merged: Rm, Cl, Ro, Xh. -/
import Derived.Test.YtdphapjeohkbjaaM15
import Derived.Test.YtdphapjeohkbjaaM4
import Derived.Test.YtdphapjeohkbjaaM6
import Derived.Test.YtdphapjeohkbjaaM12
import Derived.Deep.CutRange
set_option linter.unusedVariables false
/- The document's Check, over what its judges tell. -/
set_option maxRecDepth 100000
namespace Go.Proofs.Ytdphapjeohkbjaa
open Go.RowKit

set_option maxHeartbeats 16000000 in
theorem refCheck_core (hosts major : Int) (pA wA vA qA : Option Addr) (pl pc wl wk vl vc ql qc : Nat) (w : World) (parts : List Int) (jf : Nat → Int × Int) (J2 J4 J5 J6 : Nat → Int) (JT : Int → Int)
    (HPA : IntsAt w pA parts) (hpl : parts.length = pl) (b1 : pl ≤ 5000) (b2 : wl ≤ 1000) (b3 : vl ≤ 1000) (b4 : ql ≤ 1000)
    (h1 : jf 1 = (0, if hosts < 1 ∨ 64 < hosts then 1 else 0)) (h3 : jf 3 = (0, if major < 1 ∨ 1073741824 < major then 1 else 0))
    (h2h : ∀ k, k < pl → (∀ q, q < k → J2 q = 0) → J2 k ≠ 0 → jf 2 = ((k : Int), J2 k)) (h2n : (∀ q, q < pl → J2 q = 0) → (jf 2).2 = 0)
    (h2d : ∀ k (hk : k < parts.length), J2 k = if 64 ≤ k ∨ PitotConf.isHost hosts parts[k] = false then 1 else 0)
    (h4h : ∀ k, k < wl → (∀ q, q < k → J4 q = 0) → J4 k ≠ 0 → jf 4 = ((k : Int), J4 k)) (h4n : (∀ q, q < wl → J4 q = 0) → (jf 4).2 = 0)
    (h5h : ∀ k, k < vl → (∀ q, q < k → J5 q = 0) → J5 k ≠ 0 → jf 5 = ((k : Int), J5 k)) (h5n : (∀ q, q < vl → J5 q = 0) → (jf 5).2 = 0)
    (h6h : ∀ k, k < ql → (∀ q, q < k → J6 q = 0) → J6 k ≠ 0 → jf 6 = ((k : Int), J6 k)) (h6n : (∀ q, q < ql → J6 q = 0) → (jf 6).2 = 0)
    (h7h : ∀ k : Nat, (k : Int) < hosts → (∀ q : Nat, q < k → JT q ≤ 6250) → 6250 < JT k → jf 7 = ((k : Int), 26)) (h7n : (∀ q : Nat, (q : Int) < hosts → JT q ≤ 6250) → (jf 7).2 = 0)
    (H32 : ∀ n w, Calls Try.prog 45 #[.agg #[.int .i64 hosts, .slice pA pl pc, .int .i64 major, .slice wA wl wk, .slice vA vl vc, .slice qA ql qc], .int .i64 n] w fun e w' => e = .returned (.bool (PitotConf.isHost hosts n)) ∧ Below w.heap.size w w')
    (H33 : (∀ i, 1 ≤ i → i < 4 → (jf i).2 = 0) → ∀ k : Nat, k < wl → (∀ q, q < k → J4 q = 0) → ∀ (w' : World), Below w.heap.size w w' → Calls Try.prog 46 #[.agg #[.int .i64 hosts, .slice pA pl pc, .int .i64 major, .slice wA wl wk, .slice vA vl vc, .slice qA ql qc], .int .i64 k] w' fun e w'' => e = .returned (.int .i64 (J4 k)) ∧ Below w'.heap.size w' w'')
    (H34 : (∀ i, 1 ≤ i → i < 5 → (jf i).2 = 0) → ∀ k : Nat, k < vl → (∀ q, q < k → J5 q = 0) → ∀ (w' : World), Below w.heap.size w w' → Calls Try.prog 47 #[.agg #[.int .i64 hosts, .slice pA pl pc, .int .i64 major, .slice wA wl wk, .slice vA vl vc, .slice qA ql qc], .int .i64 k] w' fun e w'' => e = .returned (.int .i64 (J5 k)) ∧ Below w'.heap.size w' w'')
    (H35 : (∀ i, 1 ≤ i → i < 6 → (jf i).2 = 0) → ∀ k : Nat, k < ql → (∀ q, q < k → J6 q = 0) → ∀ (w' : World), Below w.heap.size w w' → Calls Try.prog 48 #[.agg #[.int .i64 hosts, .slice pA pl pc, .int .i64 major, .slice wA wl wk, .slice vA vl vc, .slice qA ql qc], .int .i64 k] w' fun e w'' => e = .returned (.int .i64 (J6 k)) ∧ Below w'.heap.size w' w'')
    (H19 : (∀ i, 1 ≤ i → i < 7 → (jf i).2 = 0) → ∀ k : Nat, ∀ (w' : World), Below w.heap.size w w' → Calls Try.prog 49 #[.agg #[.int .i64 hosts, .slice pA pl pc, .int .i64 major, .slice wA wl wk, .slice vA vl vc, .slice qA ql qc], .int .i64 k] w' fun e w'' => e = .returned (.int .i64 (JT k)) ∧ Below w'.heap.size w' w'') :
    Calls Try.prog 14 #[.agg #[.int .i64 hosts, .slice pA pl pc, .int .i64 major, .slice wA wl wk, .slice vA vl vc, .slice qA ql qc]] w fun e w' => e = .returned (.tuple #[.int .i64 (firstJ jf [1, 2, 3, 4, 5, 6, 7]).1, .int .i64 (firstJ jf [1, 2, 3, 4, 5, 6, 7]).2.1, .int .i64 (firstJ jf [1, 2, 3, 4, 5, 6, 7]).2.2]) ∧ Below w.heap.size w w' := by
  obtain ⟨r, hr⟩ : ∃ r, firstJ jf [1, 2, 3, 4, 5, 6, 7] = r := ⟨_, rfl⟩
  obtain ⟨r1, r2, r3⟩ := r
  rw [hr]
  simp only
  have HR := Lib.hid hr
  have HH1 := Lib.hid h1; have HH3 := Lib.hid h3
  have H2h := Lib.hid h2h; have H2n := Lib.hid h2n; have H2d := Lib.hid h2d
  have H4h := Lib.hid h4h; have H4n := Lib.hid h4n
  have H5h := Lib.hid h5h; have H5n := Lib.hid h5n
  have H6h := Lib.hid h6h; have H6n := Lib.hid h6n
  have H7h := Lib.hid h7h; have H7n := Lib.hid h7n
  have K32 := Lib.hid H32; have K33 := Lib.hid H33; have K34 := Lib.hid H34; have K35 := Lib.hid H35; have K19 := Lib.hid H19
  have HPA := Lib.hid HPA
  clear hr h1 h3 h2h h2n h2d h4h h4n h5h h5n h6h h6n h7h h7n H32 H33 H34 H35 H19
  have hpI := Lib.hid hpl
  have CB0 : Hid ((w.alloc (.cells #[.int .i64 hosts, .slice pA pl pc, .int .i64 major, .slice wA wl wk, .slice vA vl vc, .slice qA ql qc] 27)).heap[w.heap.size]? = some (.cells #[.int .i64 hosts, .slice pA pl pc, .int .i64 major, .slice wA wl wk, .slice vA vl vc, .slice qA ql qc] 27)) := heap_alloc_new w _
  have BB0 : Hid (Below w.heap.size w (w.alloc (.cells #[.int .i64 hosts, .slice pA pl pc, .int .i64 major, .slice wA wl wk, .slice vA vl vc, .slice qA ql qc] 27))) := (Below.refl _ w).alloc (Nat.le_refl _) _
  go_enter Try.func14, Try.ntmps14
  go_upto_region 1 with (fail)
  have CB := CB0
  have BB := BB0
  clear CB0 BB0
  generalize w.alloc (.cells #[.int .i64 hosts, .slice pA pl pc, .int .i64 major, .slice wA wl wk, .slice vA vl vc, .slice qA ql qc] 27) = W0 at CB BB ⊢
  obtain ⟨c0, c1, c2, c3, c4, c5⟩ := cells_6 CB.out
  by_cases p1 : hosts < 1
  · have i1 : decide (hosts < 1) = true := decide_eq_true p1
    have HT : Hid (((1 : Int), (0 : Int), (1 : Int)) = (r1, r2, r3)) := by
      show _ = _
      rw [← HR.out, firstJ_hit jf 1 (by omega) (by omega) (fun i h1 h2 => by omega) (by rw [HH1.out, if_pos (Or.inl p1)]; decide), HH1.out, if_pos (Or.inl p1)]; rfl
    go_wp2
    go_returns
    have := HT.out
    injection this with g1 g2
    injection g2 with g2 g3
    subst g1; subst g2; subst g3
    exact ⟨rfl, BB.out⟩
  have i1 : decide (hosts < 1) = false := decide_eq_false p1
  by_cases p2 : 64 < hosts
  · have i2 : decide (64 < hosts) = true := decide_eq_true p2
    have HT : Hid (((1 : Int), (0 : Int), (1 : Int)) = (r1, r2, r3)) := by
      show _ = _
      rw [← HR.out, firstJ_hit jf 1 (by omega) (by omega) (fun i h1 h2 => by omega) (by rw [HH1.out, if_pos (Or.inr p2)]; decide), HH1.out, if_pos (Or.inr p2)]; rfl
    go_wp2
    go_returns
    have := HT.out
    injection this with g1 g2
    injection g2 with g2 g3
    subst g1; subst g2; subst g3
    exact ⟨rfl, BB.out⟩
  have i2 : decide (64 < hosts) = false := decide_eq_false p2
  have P1 : Hid ((jf 1).2 = 0) := by
    show _ = _
    rw [HH1.out, if_neg (by omega)]
  have P11 : Hid (∀ i, 1 ≤ i → i < 2 → (jf i).2 = 0) := fun i h1 h2 => by
    have e : i = 1 := by omega
    rw [e]; exact P1.out
  go_upto_region 4 with (fail)
  clear i1 i2 c0 c1 c2 c3 c4 c5
  go_loopw [5] (fun v5 wr => ∃ k : Nat, k ≤ pl ∧ v5 = .int .i64 k ∧ Hid (∀ q, q < k → J2 q = 0) ∧ wr.heap[w.heap.size]? = some (.cells #[.int .i64 hosts, .slice pA pl pc, .int .i64 major, .slice wA wl wk, .slice vA vl vc, .slice qA ql qc] 27) ∧ Below w.heap.size w wr) (fun v5 _ => pl - (intOf v5).toNat)
  case atStart => exact ⟨0, Nat.zero_le _, rfl, fun q hq => by omega, CB.out, BB.out⟩
  case round =>
    obtain ⟨k, hk, rfl, hp, hC, hB⟩ := hrel
    have CB2 := Lib.hid hC; have BB2 := Lib.hid hB
    clear hC hB CB BB
    have CB := CB2
    have BB := BB2
    clear CB2 BB2
    obtain ⟨c0, c1, c2, c3, c4, c5⟩ := cells_6 CB.out
    by_cases hkm : k < pl
    · have e1 : decide ((k : Int) < (pl : Int)) = true := decide_eq_true (by omega)
      have e1' : decide (k < pl) = true := decide_eq_true hkm
      have hkl : k < parts.length := by rw [hpI.out]; exact hkm
      obtain ⟨tb, tf, rfl, hbt, hct⟩ := HPA.out.get hkl
      have hct2 := Lib.hid ((BB.out.cell hbt).trans hct)
      have hlt2 : Hid (tb < wr.heap.size) := Nat.lt_of_lt_of_le hbt BB.out.size
      have hd := H2d.out k hkl
      have HP := Lib.hid (K32.out parts[k])
      clear hct
      generalize parts[k] = z at hct2 hd HP
      go_upto_region 6 with (fail)
      clear e1 e1' c0 c1 c2 c3 c4 c5
      by_cases h64 : 64 ≤ k
      · have hJ : J2 k = 1 := by rw [hd, if_pos (Or.inl h64)]
        have HT : Hid (((2 : Int), (k : Int), (1 : Int)) = (r1, r2, r3)) := by
          show _ = _
          have hh := H2h.out k hkm hp.out (by rw [hJ]; decide)
          rw [← HR.out, firstJ_hit jf 2 (by omega) (by omega) P11.out (by rw [hh, hJ]; exact (by decide : (1 : Int) ≠ 0)), hh, hJ]; rfl
        refine rcheck6_many CB (z := z) (R := true) rfl h64 (fun _ _ _ _ _ h => h) ?_
        intro wc hwc z28 z29 z30 z31 z32 z33 z34 z35 z36 z37 z38
        have BC := Lib.hid (BB.out.trans (hwc.mono BB.out.size))
        go_wp2
        go_returns
        have := HT.out
        injection this with g1 g2
        injection g2 with g2 g3
        subst g1; subst g2; subst g3
        exact ⟨rfl, BC.out⟩
      · cases hz : PitotConf.isHost hosts z
        · rw [hz] at HP
          have hJ : J2 k = 1 := by rw [hd, if_pos (Or.inr hz)]
          have HT : Hid (((2 : Int), (k : Int), (1 : Int)) = (r1, r2, r3)) := by
            show _ = _
            have hh := H2h.out k hkm hp.out (by rw [hJ]; decide)
            rw [← HR.out, firstJ_hit jf 2 (by omega) (by omega) P11.out (by rw [hh, hJ]; exact (by decide : (1 : Int) ≠ 0)), hh, hJ]; rfl
          refine rcheck6_few CB (P := false) (R := true) rfl (by omega) hkm hct2 hlt2 HP (fun _ _ _ _ _ h => h) ?_
          intro wc hwc z28 z29 z30 z31 z32 z33 z34 z35 z36 z37 z38
          have BC := Lib.hid (BB.out.trans (hwc.mono BB.out.size))
          go_wp2
          go_returns
          have := HT.out
          injection this with g1 g2
          injection g2 with g2 g3
          subst g1; subst g2; subst g3
          exact ⟨rfl, BC.out⟩
        · rw [hz] at HP
          have hJ : J2 k = 0 := by rw [hd, if_neg (by rw [hz]; simp; omega)]
          refine rcheck6_few CB (P := true) (R := false) rfl (by omega) hkm hct2 hlt2 HP (fun _ _ _ _ _ h => h) ?_
          intro wc hwc z28 z29 z30 z31 z32 z33 z34 z35 z36 z37 z38
          have BC := Lib.hid (BB.out.trans (hwc.mono BB.out.size))
          have CC := Lib.hid (lies_below CB.out hwc (lies_lt CB.out))
          have hpn : Hid (∀ q, q < k + 1 → J2 q = 0) := fun q hq => by
            by_cases e : q = k
            · rw [e]; exact hJ
            · exact hp.out q (by omega)
          clear hwc
          go_wp2
          go_roundw
          case rel => exact ⟨k + 1, by omega, by go_num, hpn, CC.out, BC.out⟩
          case measure => simp [intOf]; omega
    · have e1 : decide ((k : Int) < (pl : Int)) = false := decide_eq_false (by omega)
      have e1' : decide (k < pl) = false := decide_eq_false hkm
      have P2 : Hid ((jf 2).2 = 0) := H2n.out fun q hq => hp.out q (by omega)
      have P12 : Hid (∀ i, 1 ≤ i → i < 3 → (jf i).2 = 0) := fun i h1 h2 => by
        have : i = 1 ∨ i = 2 := by omega
        rcases this with rfl | rfl
        · exact P1.out
        · exact P2.out
      clear P1 P2 H2h H2n H2d K32 HPA hp
      by_cases p3 : major < 1
      · have i1 : decide (major < 1) = true := decide_eq_true p3
        have HT : Hid (((3 : Int), (0 : Int), (1 : Int)) = (r1, r2, r3)) := by
          show _ = _
          rw [← HR.out, firstJ_hit jf 3 (by omega) (by omega) P12.out (by rw [HH3.out, if_pos (Or.inl p3)]; decide), HH3.out, if_pos (Or.inl p3)]; rfl
        go_wp2
        go_returns
        have := HT.out
        injection this with g1 g2
        injection g2 with g2 g3
        subst g1; subst g2; subst g3
        exact ⟨rfl, BB.out⟩
      have i1 : decide (major < 1) = false := decide_eq_false p3
      by_cases p4 : 1073741824 < major
      · have i2 : decide (1073741824 < major) = true := decide_eq_true p4
        have HT : Hid (((3 : Int), (0 : Int), (1 : Int)) = (r1, r2, r3)) := by
          show _ = _
          rw [← HR.out, firstJ_hit jf 3 (by omega) (by omega) P12.out (by rw [HH3.out, if_pos (Or.inr p4)]; decide), HH3.out, if_pos (Or.inr p4)]; rfl
        go_wp2
        go_returns
        have := HT.out
        injection this with g1 g2
        injection g2 with g2 g3
        subst g1; subst g2; subst g3
        exact ⟨rfl, BB.out⟩
      have i2 : decide (1073741824 < major) = false := decide_eq_false p4
      have PP3 : Hid (∀ i, 1 ≤ i → i < 4 → (jf i).2 = 0) := fun i h1 h2 => by
        by_cases e : i = 3
        · subst e; rw [HH3.out, if_neg (by omega)]
        · exact P12.out i h1 (by omega)
      have hhr1 : 1 ≤ hosts := by omega
      have hhr2 : hosts ≤ 64 := by omega
      clear P12 HH1 HH3 p1 p2 p3 p4
      go_upto_region 11 with (fail)
      clear c0 c1 c2 c3 c4 c5
      go_loopw [6] (fun v wr => ∃ k : Nat, k ≤ wl ∧ v = .int .i64 k ∧ Hid (∀ q, q < k → J4 q = 0) ∧ wr.heap[w.heap.size]? = some (.cells #[.int .i64 hosts, .slice pA pl pc, .int .i64 major, .slice wA wl wk, .slice vA vl vc, .slice qA ql qc] 27) ∧ Below w.heap.size w wr) (fun v _ => wl - (intOf v).toNat)
      case atStart => exact ⟨0, Nat.zero_le _, rfl, fun q hq => by omega, CB.out, BB.out⟩
      case round =>
        obtain ⟨k4, hk, rfl, hp, hC, hB⟩ := hrel
        have CB2 := Lib.hid hC; have BB2 := Lib.hid hB
        clear hC hB CB BB
        have CB := CB2
        have BB := BB2
        clear CB2 BB2
        obtain ⟨c0, c1, c2, c3, c4, c5⟩ := cells_6 CB.out
        by_cases hkm : k4 < wl
        · have e1 : decide ((k4 : Int) < (wl : Int)) = true := decide_eq_true (by omega)
          have e1' : decide (k4 < wl) = true := decide_eq_true hkm
          have HCL := Lib.hid (K33.out PP3.out k4 hkm hp.out _ BB.out)
          obtain ⟨E, hE⟩ : ∃ E, J4 k4 = E := ⟨_, rfl⟩
          rw [hE] at HCL
          by_cases g : E = 0
          · have g1 : (E == 0) = true := by rw [g]; rfl
            have hpn : Hid (∀ q, q < k4 + 1 → J4 q = 0) := fun q hq => by
              by_cases e : q = k4
              · rw [e, hE]; exact g
              · exact hp.out q (by omega)
            clear g hE
            go_wp2_with (go_at_call 46; (with_reducible refine (HCL.out).mono ?_); rintro e w2 ⟨rfl, hb2⟩; (have C2 := Lib.hid (lies_below CB.out hb2 (lies_lt CB.out))); (have B2 := Lib.hid (BB.out.trans (hb2.mono BB.out.size))))
            go_roundw
            case rel => exact ⟨k4 + 1, by omega, by go_num, hpn, C2.out, B2.out⟩
            case measure => simp [intOf]; omega
          · have g1 : (E == 0) = false := by simpa using g
            have HT : Hid (((4 : Int), (k4 : Int), E) = (r1, r2, r3)) := by
              show _ = _
              have hh := H4h.out k4 hkm hp.out (by rw [hE]; exact g)
              rw [← HR.out, firstJ_hit jf 4 (by omega) (by omega) PP3.out (by rw [hh, hE]; exact g), hh, hE]; rfl
            clear g hE
            go_wp2_with (go_at_call 46; (with_reducible refine (HCL.out).mono ?_); rintro e w2 ⟨rfl, hb2⟩)
            have B2 := Lib.hid (BB.out.trans (hb2.mono BB.out.size))
            go_returns
            have := HT.out
            injection this with g1 g2
            injection g2 with g2 g3
            subst g1; subst g2; subst g3
            exact ⟨rfl, B2.out⟩
        · have e1 : decide ((k4 : Int) < (wl : Int)) = false := decide_eq_false (by omega)
          have e1' : decide (k4 < wl) = false := decide_eq_false hkm
          have PP4 : Hid (∀ i, 1 ≤ i → i < 5 → (jf i).2 = 0) := fun i h1 h2 => by
            by_cases e : i = 4
            · subst e; exact H4n.out fun q hq => hp.out q (by omega)
            · exact PP3.out i h1 (by omega)
          clear PP3 K33 H4h H4n hp
          go_upto_region 17 with (fail)
          clear c0 c1 c2 c3 c4 c5
          go_loopw [8] (fun v wr => ∃ k : Nat, k ≤ vl ∧ v = .int .i64 k ∧ Hid (∀ q, q < k → J5 q = 0) ∧ wr.heap[w.heap.size]? = some (.cells #[.int .i64 hosts, .slice pA pl pc, .int .i64 major, .slice wA wl wk, .slice vA vl vc, .slice qA ql qc] 27) ∧ Below w.heap.size w wr) (fun v _ => vl - (intOf v).toNat)
          case atStart => exact ⟨0, Nat.zero_le _, rfl, fun q hq => by omega, CB.out, BB.out⟩
          case round =>
            obtain ⟨k5, hk, rfl, hp, hC, hB⟩ := hrel
            have CB2 := Lib.hid hC; have BB2 := Lib.hid hB
            clear hC hB CB BB
            have CB := CB2
            have BB := BB2
            clear CB2 BB2
            obtain ⟨c0, c1, c2, c3, c4, c5⟩ := cells_6 CB.out
            by_cases hkm : k5 < vl
            · have e1 : decide ((k5 : Int) < (vl : Int)) = true := decide_eq_true (by omega)
              have e1' : decide (k5 < vl) = true := decide_eq_true hkm
              have HCL := Lib.hid (K34.out PP4.out k5 hkm hp.out _ BB.out)
              obtain ⟨E, hE⟩ : ∃ E, J5 k5 = E := ⟨_, rfl⟩
              rw [hE] at HCL
              by_cases g : E = 0
              · have g1 : (E == 0) = true := by rw [g]; rfl
                have hpn : Hid (∀ q, q < k5 + 1 → J5 q = 0) := fun q hq => by
                  by_cases e : q = k5
                  · rw [e, hE]; exact g
                  · exact hp.out q (by omega)
                clear g hE
                go_wp2_with (go_at_call 47; (with_reducible refine (HCL.out).mono ?_); rintro e w2 ⟨rfl, hb2⟩; (have C2 := Lib.hid (lies_below CB.out hb2 (lies_lt CB.out))); (have B2 := Lib.hid (BB.out.trans (hb2.mono BB.out.size))))
                go_roundw
                case rel => exact ⟨k5 + 1, by omega, by go_num, hpn, C2.out, B2.out⟩
                case measure => simp [intOf]; omega
              · have g1 : (E == 0) = false := by simpa using g
                have HT : Hid (((5 : Int), (k5 : Int), E) = (r1, r2, r3)) := by
                  show _ = _
                  have hh := H5h.out k5 hkm hp.out (by rw [hE]; exact g)
                  rw [← HR.out, firstJ_hit jf 5 (by omega) (by omega) PP4.out (by rw [hh, hE]; exact g), hh, hE]; rfl
                clear g hE
                go_wp2_with (go_at_call 47; (with_reducible refine (HCL.out).mono ?_); rintro e w2 ⟨rfl, hb2⟩)
                have B2 := Lib.hid (BB.out.trans (hb2.mono BB.out.size))
                go_returns
                have := HT.out
                injection this with g1 g2
                injection g2 with g2 g3
                subst g1; subst g2; subst g3
                exact ⟨rfl, B2.out⟩
            · have e1 : decide ((k5 : Int) < (vl : Int)) = false := decide_eq_false (by omega)
              have e1' : decide (k5 < vl) = false := decide_eq_false hkm
              have PP5 : Hid (∀ i, 1 ≤ i → i < 6 → (jf i).2 = 0) := fun i h1 h2 => by
                by_cases e : i = 5
                · subst e; exact H5n.out fun q hq => hp.out q (by omega)
                · exact PP4.out i h1 (by omega)
              clear PP4 K34 H5h H5n hp
              go_upto_region 23 with (fail)
              clear c0 c1 c2 c3 c4 c5
              go_loopw [10] (fun v wr => ∃ k : Nat, k ≤ ql ∧ v = .int .i64 k ∧ Hid (∀ q, q < k → J6 q = 0) ∧ wr.heap[w.heap.size]? = some (.cells #[.int .i64 hosts, .slice pA pl pc, .int .i64 major, .slice wA wl wk, .slice vA vl vc, .slice qA ql qc] 27) ∧ Below w.heap.size w wr) (fun v _ => ql - (intOf v).toNat)
              case atStart => exact ⟨0, Nat.zero_le _, rfl, fun q hq => by omega, CB.out, BB.out⟩
              case round =>
                obtain ⟨k6, hk, rfl, hp, hC, hB⟩ := hrel
                have CB2 := Lib.hid hC; have BB2 := Lib.hid hB
                clear hC hB CB BB
                have CB := CB2
                have BB := BB2
                clear CB2 BB2
                obtain ⟨c0, c1, c2, c3, c4, c5⟩ := cells_6 CB.out
                by_cases hkm : k6 < ql
                · have e1 : decide ((k6 : Int) < (ql : Int)) = true := decide_eq_true (by omega)
                  have e1' : decide (k6 < ql) = true := decide_eq_true hkm
                  have HCL := Lib.hid (K35.out PP5.out k6 hkm hp.out _ BB.out)
                  obtain ⟨E, hE⟩ : ∃ E, J6 k6 = E := ⟨_, rfl⟩
                  rw [hE] at HCL
                  by_cases g : E = 0
                  · have g1 : (E == 0) = true := by rw [g]; rfl
                    have hpn : Hid (∀ q, q < k6 + 1 → J6 q = 0) := fun q hq => by
                      by_cases e : q = k6
                      · rw [e, hE]; exact g
                      · exact hp.out q (by omega)
                    clear g hE
                    go_wp2_with (go_at_call 48; (with_reducible refine (HCL.out).mono ?_); rintro e w2 ⟨rfl, hb2⟩; (have C2 := Lib.hid (lies_below CB.out hb2 (lies_lt CB.out))); (have B2 := Lib.hid (BB.out.trans (hb2.mono BB.out.size))))
                    go_roundw
                    case rel => exact ⟨k6 + 1, by omega, by go_num, hpn, C2.out, B2.out⟩
                    case measure => simp [intOf]; omega
                  · have g1 : (E == 0) = false := by simpa using g
                    have HT : Hid (((6 : Int), (k6 : Int), E) = (r1, r2, r3)) := by
                      show _ = _
                      have hh := H6h.out k6 hkm hp.out (by rw [hE]; exact g)
                      rw [← HR.out, firstJ_hit jf 6 (by omega) (by omega) PP5.out (by rw [hh, hE]; exact g), hh, hE]; rfl
                    clear g hE
                    go_wp2_with (go_at_call 48; (with_reducible refine (HCL.out).mono ?_); rintro e w2 ⟨rfl, hb2⟩)
                    have B2 := Lib.hid (BB.out.trans (hb2.mono BB.out.size))
                    go_returns
                    have := HT.out
                    injection this with g1 g2
                    injection g2 with g2 g3
                    subst g1; subst g2; subst g3
                    exact ⟨rfl, B2.out⟩
                · have e1 : decide ((k6 : Int) < (ql : Int)) = false := decide_eq_false (by omega)
                  have e1' : decide (k6 < ql) = false := decide_eq_false hkm
                  have PP6 : Hid (∀ i, 1 ≤ i → i < 7 → (jf i).2 = 0) := fun i h1 h2 => by
                    by_cases e : i = 6
                    · subst e; exact H6n.out fun q hq => hp.out q (by omega)
                    · exact PP5.out i h1 (by omega)
                  clear PP5 K35 H6h H6n hp
                  go_upto_region 29 with (fail)
                  clear c0 c1 c2 c3 c4 c5
                  go_loopw [12] (fun v wr => ∃ k : Nat, k ≤ hosts.toNat ∧ v = .int .i64 k ∧ Hid (∀ q : Nat, q < k → JT q ≤ 6250) ∧ wr.heap[w.heap.size]? = some (.cells #[.int .i64 hosts, .slice pA pl pc, .int .i64 major, .slice wA wl wk, .slice vA vl vc, .slice qA ql qc] 27) ∧ Below w.heap.size w wr) (fun v _ => hosts.toNat - (intOf v).toNat)
                  case atStart => exact ⟨0, Nat.zero_le _, rfl, fun q hq => by omega, CB.out, BB.out⟩
                  case round =>
                    obtain ⟨k, hk, rfl, hp, hC, hB⟩ := hrel
                    have CB2 := Lib.hid hC; have BB2 := Lib.hid hB
                    clear hC hB CB BB
                    have CB := CB2
                    have BB := BB2
                    clear CB2 BB2
                    obtain ⟨c0, c1, c2, c3, c4, c5⟩ := cells_6 CB.out
                    by_cases hkm : (k : Int) < hosts
                    · have e1 : decide ((k : Int) < hosts) = true := decide_eq_true hkm
                      have HCL := Lib.hid (K19.out PP6.out k _ BB.out)
                      obtain ⟨E, hE⟩ : ∃ E, JT k = E := ⟨_, rfl⟩
                      rw [hE] at HCL
                      by_cases g : 6250 < E
                      · have g1 : decide (6250 < E) = true := decide_eq_true g
                        have HT : Hid (((7 : Int), (k : Int), (26 : Int)) = (r1, r2, r3)) := by
                          show _ = _
                          have hh := H7h.out k hkm hp.out (by rw [hE]; exact g)
                          rw [← HR.out, firstJ_hit jf 7 (by omega) (by omega) PP6.out (by rw [hh]; exact (by decide : (26 : Int) ≠ 0)), hh]; rfl
                        clear g hE
                        go_wp2_with (go_at_call 49; (with_reducible refine (HCL.out).mono ?_); rintro e w2 ⟨rfl, hb2⟩)
                        have B2 := Lib.hid (BB.out.trans (hb2.mono BB.out.size))
                        go_returns
                        have := HT.out
                        injection this with g1 g2
                        injection g2 with g2 g3
                        subst g1; subst g2; subst g3
                        exact ⟨rfl, B2.out⟩
                      · have g1 : decide (6250 < E) = false := decide_eq_false g
                        have hpn : Hid (∀ q : Nat, q < k + 1 → JT q ≤ 6250) := fun q hq => by
                          by_cases e : q = k
                          · rw [e, hE]; omega
                          · exact hp.out q (by omega)
                        clear g hE
                        go_wp2_with (go_at_call 49; (with_reducible refine (HCL.out).mono ?_); rintro e w2 ⟨rfl, hb2⟩; (have C2 := Lib.hid (lies_below CB.out hb2 (lies_lt CB.out))); (have B2 := Lib.hid (BB.out.trans (hb2.mono BB.out.size))))
                        go_roundw
                        case rel => exact ⟨k + 1, by omega, by go_num, hpn, C2.out, B2.out⟩
                        case measure => simp [intOf]; omega
                    · have e1 : decide ((k : Int) < hosts) = false := decide_eq_false hkm
                      have HT : Hid (((0 : Int), (0 : Int), (0 : Int)) = (r1, r2, r3)) := by
                        show _ = _
                        rw [← HR.out, firstJ_none jf fun i h1 h2 => ?_]
                        by_cases e : i = 7
                        · subst e; exact H7n.out fun q hq => hp.out q (by omega)
                        · exact PP6.out i h1 (by omega)
                      go_wp2
                      go_returns
                      have := HT.out
                      injection this with g1 g2
                      injection g2 with g2 g3
                      subst g1; subst g2; subst g3
                      exact ⟨rfl, BB.out⟩
end Go.Proofs.Ytdphapjeohkbjaa
/- The document's link: the first condition (trial). -/
set_option maxRecDepth 100000
namespace Go.Proofs.Ytdphapjeohkbjaa
open Go.RowKit

set_option maxHeartbeats 4000000 in
theorem link_bad (c : Cx) (i : Nat) (x : Vx) (w : World) (hc : c.Held w) (hi : i < c.vls.length) (hx : c.vls[i] = x)
    (h : 256 ≤ i ∨ x.id < 1 ∨ 65535 < x.id ∨ PitotConf.isHost c.hosts x.host = false ∨ x.bag < 0 ∨ 7 < x.bag ∨ x.smax < 64 ∨ 1518 < x.smax ∨ x.subs < 1 ∨ 4 < x.subs ∨ x.skew < 0 ∨ 1073741824 < x.skew ∨ x.to = []) : Calls Try.prog 47 #[c.val, .int .i64 i] w fun e w' => e = .returned (.int .i64 1) ∧ Below w.heap.size w w' := by
  obtain ⟨hosts, pA, pc, parts, major, wA, wk, wins, vA, vc, vls, qA, qc, ports⟩ := c
  obtain ⟨n, Hn⟩ : ∃ n, Hid (vls.length = n) := ⟨_, rfl⟩
  simp only at hc hi hx h ⊢
  have HV : Hid (VxsAt w vA vls) := hc.2.2.1
  clear hc
  show Calls Try.prog 47 #[.agg #[.int .i64 hosts, .slice pA parts.length pc, .int .i64 major, .slice wA wins.length wk, .slice vA vls.length vc, .slice qA ports.length qc], .int .i64 i] w _
  rw [Hn.out] at hi ⊢
  have hil : i < vls.length := by rw [Hn.out]; exact hi
  obtain ⟨b, off, rfl, hb, hat, hxh⟩ := HV.out.get hil
  rw [hx] at hat hxh
  have HXH := Lib.hid hxh; clear hxh
  have HXI := Lib.hid hx; clear hx
  have k1 : Below w.heap.size w (w.alloc (.cells #[.int .i64 hosts, .slice pA parts.length pc, .int .i64 major, .slice wA wins.length wk, .slice (some ⟨b, off, none⟩) n vc, .slice qA ports.length qc] 27)) := (Below.refl _ w).alloc (Nat.le_refl _) _
  have hat := hat.below k1 hb
  obtain ⟨tl, Htl⟩ : ∃ tl, Hid (x.to.length = tl) := ⟨_, rfl⟩
  unfold VxAt at hat
  rw [Htl.out] at hat
  obtain ⟨a0, a1, a2, a3, a4, a5, a6, a7⟩ := hat
  have hiI : (i : Int) < (n : Int) := by omega
  have hH := fun w => host_any ⟨hosts, pA, pc, parts, major, wA, wk, wins, some ⟨b, off, none⟩, vc, vls, qA, qc, ports⟩ x.host w
  obtain ⟨P, HPP⟩ : ∃ P, Hid (PitotConf.isHost hosts x.host = P) := ⟨_, rfl⟩
  have hP : ∀ w, Calls Try.prog 45 #[.agg #[.int .i64 hosts, .slice pA parts.length pc, .int .i64 major, .slice wA wins.length wk, .slice (some ⟨b, off, none⟩) n vc, .slice qA ports.length qc], .int .i64 x.host] w fun e w' => e = .returned (.bool P) ∧ Below w.heap.size w w' := fun w => by
    have := hH w
    rw [show PitotConf.isHost hosts x.host = P from HPP.out] at this
    rw [← Hn.out]
    exact this
  have HP := Lib.hid hP
  clear hP hH
  rw [show PitotConf.isHost hosts x.host = P from HPP.out] at h
  have h := Lib.hid h
  go_enter Try.func47, Try.ntmps47
  go_upto_region 2 with (fail)
  have CB : Hid (((w.alloc (.cells #[.int .i64 hosts, .slice pA parts.length pc, .int .i64 major, .slice wA wins.length wk, .slice (some ⟨b, off, none⟩) n vc, .slice qA ports.length qc] 27)).alloc (.cells #[.int .i64 x.id, .int .i64 x.host, .int .i64 x.bag, .int .i64 x.smax, .bool x.high, .int .i64 x.subs, .int .i64 x.skew, .slice x.toA tl x.toc] 34)).heap[w.heap.size]? = some (.cells #[.int .i64 hosts, .slice pA parts.length pc, .int .i64 major, .slice wA wins.length wk, .slice (some ⟨b, off, none⟩) n vc, .slice qA ports.length qc] 27)) := lies_alloc (heap_alloc_new w _) _
  have XB : Hid (((w.alloc (.cells #[.int .i64 hosts, .slice pA parts.length pc, .int .i64 major, .slice wA wins.length wk, .slice (some ⟨b, off, none⟩) n vc, .slice qA ports.length qc] 27)).alloc (.cells #[.int .i64 x.id, .int .i64 x.host, .int .i64 x.bag, .int .i64 x.smax, .bool x.high, .int .i64 x.subs, .int .i64 x.skew, .slice x.toA tl x.toc] 34)).heap[w.heap.size + 1]? = some (.cells #[.int .i64 x.id, .int .i64 x.host, .int .i64 x.bag, .int .i64 x.smax, .bool x.high, .int .i64 x.subs, .int .i64 x.skew, .slice x.toA tl x.toc] 34)) := by
    have := heap_alloc_new (w.alloc (.cells #[.int .i64 hosts, .slice pA parts.length pc, .int .i64 major, .slice wA wins.length wk, .slice (some ⟨b, off, none⟩) n vc, .slice qA ports.length qc] 27)) (.cells #[.int .i64 x.id, .int .i64 x.host, .int .i64 x.bag, .int .i64 x.smax, .bool x.high, .int .i64 x.subs, .int .i64 x.skew, .slice x.toA tl x.toc] 34)
    rw [World.size_alloc] at this
    exact this
  have BB : Hid (Below w.heap.size w ((w.alloc (.cells #[.int .i64 hosts, .slice pA parts.length pc, .int .i64 major, .slice wA wins.length wk, .slice (some ⟨b, off, none⟩) n vc, .slice qA ports.length qc] 27)).alloc (.cells #[.int .i64 x.id, .int .i64 x.host, .int .i64 x.bag, .int .i64 x.smax, .bool x.high, .int .i64 x.subs, .int .i64 x.skew, .slice x.toA tl x.toc] 34))) := k1.alloc k1.size _
  clear a0 a1 a2 a3 a4 a5 a6 a7 k1
  generalize (w.alloc (.cells #[.int .i64 hosts, .slice pA parts.length pc, .int .i64 major, .slice wA wins.length wk, .slice (some ⟨b, off, none⟩) n vc, .slice qA ports.length qc] 27)).alloc (.cells #[.int .i64 x.id, .int .i64 x.host, .int .i64 x.bag, .int .i64 x.smax, .bool x.high, .int .i64 x.subs, .int .i64 x.skew, .slice x.toA tl x.toc] 34) = W1 at CB XB BB ⊢
  obtain ⟨c0, c1, c2, c3, c4, c5⟩ := cells_6 CB.out
  obtain ⟨x0, x1, x2, x3, x4, x5, x6, x7⟩ := cells_8 XB.out
  by_cases g0 : 256 ≤ i
  · have f0 : decide (256 ≤ (i : Int)) = true := decide_eq_true (by omega)
    have f0' : decide (256 ≤ i) = true := decide_eq_true g0
    go_wp2
    go_returns
    exact ⟨rfl, BB.out⟩
  · have f0 : decide (256 ≤ (i : Int)) = false := decide_eq_false (by omega)
    have f0' : decide (256 ≤ i) = false := decide_eq_false g0
    by_cases g1 : x.id < 1
    · have f1 : decide (x.id < 1) = true := decide_eq_true g1
      go_wp2
      go_returns
      exact ⟨rfl, BB.out⟩
    · have f1 : decide (x.id < 1) = false := decide_eq_false g1
      by_cases g2 : 65535 < x.id
      · have f2 : decide (65535 < x.id) = true := decide_eq_true g2
        go_wp2
        go_returns
        exact ⟨rfl, BB.out⟩
      · have f2 : decide (65535 < x.id) = false := decide_eq_false g2
        cases P
        · go_wp2_with (first
            | (go_at_call 45; (with_reducible refine (HP.out _).mono ?_); rintro e w2 ⟨rfl, hb2⟩
               (have C2 := Lib.hid (lies_below CB.out hb2 (lies_lt CB.out)))
               (have X2 := Lib.hid (lies_below XB.out hb2 (lies_lt XB.out)))
               (have B2 := Lib.hid (BB.out.trans (hb2.mono BB.out.size)))
               (clear hb2 c0 c1 c2 c3 c4 c5 x0 x1 x2 x3 x4 x5 x6 x7)
               (obtain ⟨c0, c1, c2, c3, c4, c5⟩ := cells_6 C2.out)
               (obtain ⟨x0, x1, x2, x3, x4, x5, x6, x7⟩ := cells_8 X2.out)))
          go_returns
          exact ⟨rfl, B2.out⟩
        · skip
          by_cases g4 : x.bag < 0
          · have f4 : decide (x.bag < 0) = true := decide_eq_true g4
            go_wp2_with (first
              | (go_at_call 45; (with_reducible refine (HP.out _).mono ?_); rintro e w2 ⟨rfl, hb2⟩
                 (have C2 := Lib.hid (lies_below CB.out hb2 (lies_lt CB.out)))
                 (have X2 := Lib.hid (lies_below XB.out hb2 (lies_lt XB.out)))
                 (have B2 := Lib.hid (BB.out.trans (hb2.mono BB.out.size)))
                 (clear hb2 c0 c1 c2 c3 c4 c5 x0 x1 x2 x3 x4 x5 x6 x7)
                 (obtain ⟨c0, c1, c2, c3, c4, c5⟩ := cells_6 C2.out)
                 (obtain ⟨x0, x1, x2, x3, x4, x5, x6, x7⟩ := cells_8 X2.out)))
            go_returns
            exact ⟨rfl, B2.out⟩
          · have f4 : decide (x.bag < 0) = false := decide_eq_false g4
            by_cases g5 : 7 < x.bag
            · have f5 : decide (7 < x.bag) = true := decide_eq_true g5
              go_wp2_with (first
                | (go_at_call 45; (with_reducible refine (HP.out _).mono ?_); rintro e w2 ⟨rfl, hb2⟩
                   (have C2 := Lib.hid (lies_below CB.out hb2 (lies_lt CB.out)))
                   (have X2 := Lib.hid (lies_below XB.out hb2 (lies_lt XB.out)))
                   (have B2 := Lib.hid (BB.out.trans (hb2.mono BB.out.size)))
                   (clear hb2 c0 c1 c2 c3 c4 c5 x0 x1 x2 x3 x4 x5 x6 x7)
                   (obtain ⟨c0, c1, c2, c3, c4, c5⟩ := cells_6 C2.out)
                   (obtain ⟨x0, x1, x2, x3, x4, x5, x6, x7⟩ := cells_8 X2.out)))
              go_returns
              exact ⟨rfl, B2.out⟩
            · have f5 : decide (7 < x.bag) = false := decide_eq_false g5
              by_cases g6 : x.smax < 64
              · have f6 : decide (x.smax < 64) = true := decide_eq_true g6
                go_wp2_with (first
                  | (go_at_call 45; (with_reducible refine (HP.out _).mono ?_); rintro e w2 ⟨rfl, hb2⟩
                     (have C2 := Lib.hid (lies_below CB.out hb2 (lies_lt CB.out)))
                     (have X2 := Lib.hid (lies_below XB.out hb2 (lies_lt XB.out)))
                     (have B2 := Lib.hid (BB.out.trans (hb2.mono BB.out.size)))
                     (clear hb2 c0 c1 c2 c3 c4 c5 x0 x1 x2 x3 x4 x5 x6 x7)
                     (obtain ⟨c0, c1, c2, c3, c4, c5⟩ := cells_6 C2.out)
                     (obtain ⟨x0, x1, x2, x3, x4, x5, x6, x7⟩ := cells_8 X2.out)))
                go_returns
                exact ⟨rfl, B2.out⟩
              · have f6 : decide (x.smax < 64) = false := decide_eq_false g6
                by_cases g7 : 1518 < x.smax
                · have f7 : decide (1518 < x.smax) = true := decide_eq_true g7
                  go_wp2_with (first
                    | (go_at_call 45; (with_reducible refine (HP.out _).mono ?_); rintro e w2 ⟨rfl, hb2⟩
                       (have C2 := Lib.hid (lies_below CB.out hb2 (lies_lt CB.out)))
                       (have X2 := Lib.hid (lies_below XB.out hb2 (lies_lt XB.out)))
                       (have B2 := Lib.hid (BB.out.trans (hb2.mono BB.out.size)))
                       (clear hb2 c0 c1 c2 c3 c4 c5 x0 x1 x2 x3 x4 x5 x6 x7)
                       (obtain ⟨c0, c1, c2, c3, c4, c5⟩ := cells_6 C2.out)
                       (obtain ⟨x0, x1, x2, x3, x4, x5, x6, x7⟩ := cells_8 X2.out)))
                  go_returns
                  exact ⟨rfl, B2.out⟩
                · have f7 : decide (1518 < x.smax) = false := decide_eq_false g7
                  by_cases g8 : x.subs < 1
                  · have f8 : decide (x.subs < 1) = true := decide_eq_true g8
                    go_wp2_with (first
                      | (go_at_call 45; (with_reducible refine (HP.out _).mono ?_); rintro e w2 ⟨rfl, hb2⟩
                         (have C2 := Lib.hid (lies_below CB.out hb2 (lies_lt CB.out)))
                         (have X2 := Lib.hid (lies_below XB.out hb2 (lies_lt XB.out)))
                         (have B2 := Lib.hid (BB.out.trans (hb2.mono BB.out.size)))
                         (clear hb2 c0 c1 c2 c3 c4 c5 x0 x1 x2 x3 x4 x5 x6 x7)
                         (obtain ⟨c0, c1, c2, c3, c4, c5⟩ := cells_6 C2.out)
                         (obtain ⟨x0, x1, x2, x3, x4, x5, x6, x7⟩ := cells_8 X2.out)))
                    go_returns
                    exact ⟨rfl, B2.out⟩
                  · have f8 : decide (x.subs < 1) = false := decide_eq_false g8
                    by_cases g9 : 4 < x.subs
                    · have f9 : decide (4 < x.subs) = true := decide_eq_true g9
                      go_wp2_with (first
                        | (go_at_call 45; (with_reducible refine (HP.out _).mono ?_); rintro e w2 ⟨rfl, hb2⟩
                           (have C2 := Lib.hid (lies_below CB.out hb2 (lies_lt CB.out)))
                           (have X2 := Lib.hid (lies_below XB.out hb2 (lies_lt XB.out)))
                           (have B2 := Lib.hid (BB.out.trans (hb2.mono BB.out.size)))
                           (clear hb2 c0 c1 c2 c3 c4 c5 x0 x1 x2 x3 x4 x5 x6 x7)
                           (obtain ⟨c0, c1, c2, c3, c4, c5⟩ := cells_6 C2.out)
                           (obtain ⟨x0, x1, x2, x3, x4, x5, x6, x7⟩ := cells_8 X2.out)))
                      go_returns
                      exact ⟨rfl, B2.out⟩
                    · have f9 : decide (4 < x.subs) = false := decide_eq_false g9
                      by_cases g10 : x.skew < 0
                      · have f10 : decide (x.skew < 0) = true := decide_eq_true g10
                        go_wp2_with (first
                          | (go_at_call 45; (with_reducible refine (HP.out _).mono ?_); rintro e w2 ⟨rfl, hb2⟩
                             (have C2 := Lib.hid (lies_below CB.out hb2 (lies_lt CB.out)))
                             (have X2 := Lib.hid (lies_below XB.out hb2 (lies_lt XB.out)))
                             (have B2 := Lib.hid (BB.out.trans (hb2.mono BB.out.size)))
                             (clear hb2 c0 c1 c2 c3 c4 c5 x0 x1 x2 x3 x4 x5 x6 x7)
                             (obtain ⟨c0, c1, c2, c3, c4, c5⟩ := cells_6 C2.out)
                             (obtain ⟨x0, x1, x2, x3, x4, x5, x6, x7⟩ := cells_8 X2.out)))
                        go_returns
                        exact ⟨rfl, B2.out⟩
                      · have f10 : decide (x.skew < 0) = false := decide_eq_false g10
                        by_cases g11 : 1073741824 < x.skew
                        · have f11 : decide (1073741824 < x.skew) = true := decide_eq_true g11
                          go_wp2_with (first
                            | (go_at_call 45; (with_reducible refine (HP.out _).mono ?_); rintro e w2 ⟨rfl, hb2⟩
                               (have C2 := Lib.hid (lies_below CB.out hb2 (lies_lt CB.out)))
                               (have X2 := Lib.hid (lies_below XB.out hb2 (lies_lt XB.out)))
                               (have B2 := Lib.hid (BB.out.trans (hb2.mono BB.out.size)))
                               (clear hb2 c0 c1 c2 c3 c4 c5 x0 x1 x2 x3 x4 x5 x6 x7)
                               (obtain ⟨c0, c1, c2, c3, c4, c5⟩ := cells_6 C2.out)
                               (obtain ⟨x0, x1, x2, x3, x4, x5, x6, x7⟩ := cells_8 X2.out)))
                          go_returns
                          exact ⟨rfl, B2.out⟩
                        · have f11 : decide (1073741824 < x.skew) = false := decide_eq_false g11
                          have ht0 : tl = 0 := by
                            rcases h.out with h | h | h | h | h | h | h | h | h | h | h | h | h <;> first | omega | (cases h) | (rw [← Htl.out, h]; rfl)
                          subst ht0
                          go_wp2_with (first
                            | (go_at_call 45; (with_reducible refine (HP.out _).mono ?_); rintro e w2 ⟨rfl, hb2⟩
                               (have C2 := Lib.hid (lies_below CB.out hb2 (lies_lt CB.out)))
                               (have X2 := Lib.hid (lies_below XB.out hb2 (lies_lt XB.out)))
                               (have B2 := Lib.hid (BB.out.trans (hb2.mono BB.out.size)))
                               (clear hb2 c0 c1 c2 c3 c4 c5 x0 x1 x2 x3 x4 x5 x6 x7)
                               (obtain ⟨c0, c1, c2, c3, c4, c5⟩ := cells_6 C2.out)
                               (obtain ⟨x0, x1, x2, x3, x4, x5, x6, x7⟩ := cells_8 X2.out)))
                          go_returns
                          exact ⟨rfl, B2.out⟩
end Go.Proofs.Ytdphapjeohkbjaa
/- The document's Check. -/
set_option maxRecDepth 100000
namespace Go.Proofs.Ytdphapjeohkbjaa
open Go.RowKit

/-- What a list's judge tells at a place. -/
def at_ {α : Type} (J : List α → α → Int) (l : List α) (k : Nat) : Int := if h : k < l.length then J (l.take k) l[k] else 0
theorem at_eq {α : Type} (J : List α → α → Int) (l : List α) (k : Nat) (h : k < l.length) : at_ J l k = J (l.take k) l[k] := dif_pos h
theorem at_hit {α : Type} {J : List α → α → Int} {l : List α} {k : Nat} (hk : k < l.length) (hp : ∀ q, q < k → at_ J l q = 0) (h : at_ J l k ≠ 0) : told (PitotConf.scan J [] l) = ((k : Int), at_ J l k) := by
  have : PitotConf.scan J [] l = some (k, at_ J l k) := by
    rw [PitotConf.scan_some]
    refine ⟨k, hk, by simp, by rw [at_eq J l k hk]; rfl, h, fun q hq => ?_⟩
    have := hp q hq
    rw [at_eq J l q (by omega)] at this
    exact this
  rw [this]; rfl
theorem at_none {α : Type} {J : List α → α → Int} {l : List α} (hp : ∀ q, q < l.length → at_ J l q = 0) : (told (PitotConf.scan J [] l)).2 = 0 := by
  have : PitotConf.scan J [] l = none := by
    rw [PitotConf.scan_none]
    intro i hi
    have := hp i hi
    rw [at_eq J l i hi] at this
    exact this
  rw [this]; rfl
theorem isPart_nohost {parts : List Int} {a : Int} : isPart parts a = false ↔ PitotConf.hostOf parts a = none := by
  unfold isPart PitotConf.hostOf
  by_cases h : 0 ≤ a
  · rw [if_pos h, List.getElem?_eq_none_iff, decide_eq_true h, Bool.true_and, decide_eq_false_iff_not]; omega
  · rw [if_neg h, decide_eq_false h, Bool.false_and]; simp
set_option maxHeartbeats 2000000 in
theorem refWin_all (c : Cx) (k : Nat) (w : World) (hc : c.Held w) (hk : k < c.wins.length) (hmaj : c.major ≤ 1073741824) (hpl : c.parts.length ≤ maxLen) (hwl : c.wins.length ≤ maxLen) (hp : ∀ q, q < k → at_ (PitotConf.winJ c.parts c.major) (c.wins.map Wn.pl) q = 0) : Calls Try.prog 46 #[c.val, .int .i64 k] w fun e w' => e = .returned (.int .i64 (at_ (PitotConf.winJ c.parts c.major) (c.wins.map Wn.pl) k)) ∧ Below w.heap.size w w' := by
  have hk2 : k < (c.wins.map Wn.pl).length := by simpa using hk
  have hlen : ((c.wins.map Wn.pl).take k).length = k := by simp; omega
  have hprev : ∀ q (hq : q < k), isPart c.parts (c.wins[q]'(by omega)).part = true ∧ 0 ≤ (c.wins[q]'(by omega)).beg ∧ 1 ≤ (c.wins[q]'(by omega)).long ∧ (c.wins[q]'(by omega)).beg + (c.wins[q]'(by omega)).long ≤ 1073741824 := fun q hq => by
    have h := hp q hq
    rw [at_eq _ _ q (by simp; omega), PitotConf.winJ] at h
    have hb := (PitotConf.ite0 (by decide) h).1
    simp only [not_or, List.getElem_map] at hb
    obtain ⟨_, h1, h2, h3, h4⟩ := hb
    refine ⟨?_, by omega, by omega, by omega⟩
    cases hh : isPart c.parts (c.wins[q]'(by omega)).part with
    | true => rfl
    | false => exact absurd (isPart_nohost.1 hh) h1
  rw [at_eq _ _ k hk2, PitotConf.winJ, hlen, List.getElem_map]
  by_cases hb : 256 ≤ k ∨ PitotConf.hostOf c.parts c.wins[k].pl.part = none ∨ c.wins[k].pl.beg < 0 ∨ c.wins[k].pl.long < 1 ∨ c.major < c.wins[k].pl.beg + c.wins[k].pl.long
  · rw [if_pos hb]
    refine win_bad c k c.wins[k] w hc hk rfl hmaj hpl ?_
    rcases hb with h | h | h | h | h
    · exact Or.inl h
    · exact Or.inr (Or.inl (isPart_nohost.2 h))
    · exact Or.inr (Or.inr (Or.inl h))
    · exact Or.inr (Or.inr (Or.inr (Or.inl h)))
    · have h : c.major < c.wins[k].beg + c.wins[k].long := h
      exact Or.inr (Or.inr (Or.inr (Or.inr (Or.inr (by omega)))))
  · rw [if_neg hb]
    simp only [not_or] at hb
    obtain ⟨h1, h2, h3, h4, h5⟩ := hb
    have hpt : isPart c.parts c.wins[k].part = true := by
      cases hh : isPart c.parts c.wins[k].part with
      | true => rfl
      | false => exact absurd (isPart_nohost.1 hh) h2
    have := win_good c k c.wins[k] w hc hk rfl hmaj hpl hwl (by omega) hpt (by omega) (by omega) (by omega) hprev
    rw [List.map_take] at this
    exact this
theorem mayV_bad {hosts : Int} {x : Vx} (h : mayV hosts x.id x.host x.bag x.smax x.subs x.skew x.to.length = false) : x.id < 1 ∨ 65535 < x.id ∨ PitotConf.isHost hosts x.host = false ∨ x.bag < 0 ∨ 7 < x.bag ∨ x.smax < 64 ∨ 1518 < x.smax ∨ x.subs < 1 ∨ 4 < x.subs ∨ x.skew < 0 ∨ 1073741824 < x.skew ∨ x.to = [] := by
  apply Classical.byContradiction
  intro hh
  have : mayV hosts x.id x.host x.bag x.smax x.subs x.skew x.to.length = true := by
    rw [mayV_id]
    simp only [not_or] at hh
    obtain ⟨a, b, c, d, e, f, g, h, i, j, n, o⟩ := hh
    exact ⟨by omega, by omega, by simpa using c, by omega, by omega, by omega, by omega, by omega, by omega, by omega, by omega, List.length_pos_iff.2 o⟩
  rw [this] at h; cases h
theorem refLink_all (c : Cx) (k : Nat) (w : World) (hc : c.Held w) (hk : k < c.vls.length) (htl : ∀ v ∈ c.vls, v.to.length ≤ 5000) : Calls Try.prog 47 #[c.val, .int .i64 k] w fun e w' => e = .returned (.int .i64 (at_ (PitotConf.linkJ c.hosts) (c.vls.map Vx.pl) k)) ∧ Below w.heap.size w w' := by
  have hk2 : k < (c.vls.map Vx.pl).length := by simpa using hk
  rw [at_eq _ _ k hk2, linkJ_eq c.hosts c.vls k hk]
  by_cases h256 : 256 ≤ k
  · rw [if_pos h256]
    exact link_bad c k c.vls[k] w hc hk rfl (Or.inl h256)
  rw [if_neg h256, linkP]
  by_cases hM : mayV c.hosts c.vls[k].id c.vls[k].host c.vls[k].bag c.vls[k].smax c.vls[k].subs c.vls[k].skew c.vls[k].to.length = false
  · rw [if_pos hM]
    exact link_bad c k c.vls[k] w hc hk rfl (Or.inr (mayV_bad hM))
  rw [if_neg hM]
  have hM : mayV c.hosts c.vls[k].id c.vls[k].host c.vls[k].bag c.vls[k].smax c.vls[k].subs c.vls[k].skew c.vls[k].to.length = true := by simpa using hM
  rw [mayV_id] at hM
  have hid := hM.1
  have hg := link_good c k c.vls[k] (aheadV (c.vls.take k)) w hc hk rfl (by omega) hM (by have := htl _ (List.getElem_mem hk); unfold maxLen; omega) (fun j hj => by subst hj; rw [aheadV_take c.vls j (by omega)])
  have e : linkR c.hosts (aheadV (c.vls.take k)) k c.vls[k] = (if decide (c.vls[k].id ≤ aheadV (c.vls.take k)) = true then 25 else if PitotConf.rises c.vls[k].to = false then 25 else if c.vls[k].to.any (fun n => !PitotConf.isHost c.hosts n || decide (n = c.vls[k].host)) = true then 20 else 0) := by
    rw [linkR]
    by_cases hk0 : 0 < k
    · rw [decide_eq_true hk0, Bool.true_and]
    · have hz : k = 0 := by omega
      have ha : aheadV (c.vls.take k) = 0 := by subst hz; rfl
      rw [decide_eq_false hk0, Bool.false_and, ha, if_neg (show ¬ (false = true) by decide), decide_eq_false (show ¬ (c.vls[k].id ≤ 0) by omega), if_neg (show ¬ (false = true) by decide)]
  rw [e] at hg
  exact hg
theorem refPort_all (c : Cx) (k : Nat) (w : World) (hc : c.Held w) (hk : k < c.ports.length) (hql : c.ports.length ≤ 1000) (hpl : c.parts.length ≤ maxLen) (hvl : c.vls.length ≤ maxLen) (hz : Sized c.vls) : Calls Try.prog 48 #[c.val, .int .i64 k] w fun e w' => e = .returned (.int .i64 (at_ (PitotConf.portJ c.parts (c.vls.map Vx.pl)) (c.ports.map Px.pl) k)) ∧ Below w.heap.size w w' := by
  rw [at_eq _ _ k (by simpa using hk)]
  exact refPort_any c k w hc hk hql hpl hvl hz
set_option maxHeartbeats 2000000 in
theorem refCheck_any (c : Cx) (hs : Sm c) (w : World) (hc : c.Held w) : Calls Try.prog 14 #[c.val] w fun e w' => e = .returned (.tuple #[.int .i64 (PitotConf.check c.pl).1, .int .i64 (PitotConf.check c.pl).2.1, .int .i64 (PitotConf.check c.pl).2.2]) ∧ Below w.heap.size w w' := by
  rw [check_eq]
  have hpl : c.parts.length ≤ maxLen := by have := hs.parts; unfold maxLen; omega
  have hvl : c.vls.length ≤ maxLen := by have := hs.vls; unfold maxLen; omega
  have hwl : c.wins.length ≤ maxLen := by have := hs.wins; unfold maxLen; omega
  have b1 := hs.parts
  have b2 := hs.wins
  have b3 := hs.vls
  have b4 := hs.ports
  have HV5 : (jd c 5).2 = 0 → ∀ v ∈ c.vls, 64 ≤ v.smax ∧ v.smax ≤ 1518 ∧ 1 ≤ v.subs ∧ v.subs ≤ 4 := fun h => by
    have hn := told_zero h
    rw [PitotConf.scan_none] at hn
    intro x hx
    obtain ⟨i, hi, rfl⟩ := List.mem_iff_getElem.1 hx
    have := hn i (by simpa using hi)
    rw [List.getElem_map] at this
    unfold PitotConf.linkJ at this
    have hb := (PitotConf.ite0 (by decide) this).1
    simp only [not_or] at hb
    obtain ⟨_, _, _, _, _, _, a, b, d, e, _⟩ := hb
    exact ⟨by omega, by omega, by omega, by omega⟩
  have HM3 : (jd c 3).2 = 0 → c.major ≤ 1073741824 := fun h => by
    by_cases h2 : c.major < 1 ∨ 1073741824 < c.major
    · have h3 : (jd c 3).2 = 1 := if_pos h2
      rw [h3] at h; omega
    · omega
  refine refCheck_core c.hosts c.major c.partsA c.winsA c.vlsA c.portsA c.parts.length c.partsc c.wins.length c.winsc c.vls.length c.vlsc c.ports.length c.portsc w c.parts (jd c)
    (at_ (PitotConf.partJ c.hosts) c.parts) (at_ (PitotConf.winJ c.parts c.major) (c.wins.map Wn.pl)) (at_ (PitotConf.linkJ c.hosts) (c.vls.map Vx.pl)) (at_ (PitotConf.portJ c.parts (c.vls.map Vx.pl)) (c.ports.map Px.pl)) (PitotConf.jitter (c.vls.map Vx.pl))
    hc.1 rfl (by omega) (by omega) (by omega) (by omega) rfl rfl
    (fun k hk hp h => at_hit hk hp h) (fun h => at_none h) (fun k hk => by rw [at_eq _ _ k hk, PitotConf.partJ, List.length_take, Nat.min_eq_left (by omega)])
    (fun k hk hp h => at_hit (by simpa using hk) hp h) (fun h => at_none (by simpa using h))
    (fun k hk hp h => at_hit (by simpa using hk) hp h) (fun h => at_none (by simpa using h))
    (fun k hk hp h => at_hit (by simpa using hk) hp h) (fun h => at_none (by simpa using h))
    (fun k hk hp h => ?_) (fun h => ?_) (fun n w => host_any c n w)
    (fun hprev k hk hp w' hb => refWin_all c k w' (hc.below hb) hk (HM3 (hprev 3 (by omega) (by omega))) hpl hwl hp)
    (fun hprev k hk hp w' hb => refLink_all c k w' (hc.below hb) hk hs.tol)
    (fun hprev k hk hp w' hb => refPort_all c k w' (hc.below hb) hk hs.ports hpl hvl (fun v hv => by have := HV5 (hprev 5 (by omega) (by omega)) v hv; exact ⟨hs.tol v hv, by omega, by omega, by omega, by omega⟩))
    (fun hprev k w' hb => jitter_any c k w' (hc.below hb) hs.vls (fun v hv => by have := HV5 (hprev 5 (by omega) (by omega)) v hv; omega))
  · show toldJ (PitotConf.jitF (c.vls.map Vx.pl) c.hosts) = _
    rw [jitF_some hk h hp]; rfl
  · show (toldJ (PitotConf.jitF (c.vls.map Vx.pl) c.hosts)).2 = 0
    rw [PitotConf.jitF_none.2 h]; rfl
end Go.Proofs.Ytdphapjeohkbjaa
/- The document's Encode. -/
set_option maxRecDepth 100000
set_option linter.unusedVariables false
namespace Go.Proofs.Ytdphapjeohkbjaa.Im
open Go.RowKit

theorem flat_le {α : Type} (E : α → List UInt8) (c : Nat) (xs : List α) (h : ∀ x ∈ xs, (E x).length ≤ c) (k : Nat) : ((xs.take k).flatMap E).length ≤ c * xs.length := by
  have h2 : ∀ ys : List α, (∀ x ∈ ys, (E x).length ≤ c) → (ys.flatMap E).length ≤ c * ys.length := by
    intro ys
    induction ys with
    | nil => intro _; simp
    | cons y ys ih =>
      intro hy
      rw [List.flatMap_cons, List.length_append, List.length_cons, Nat.mul_add]
      have := hy y (List.mem_cons_self ..)
      have := ih (fun x hx => hy x (List.mem_cons_of_mem _ hx))
      omega
  refine Nat.le_trans (h2 _ (fun x hx => h x (List.mem_of_mem_take hx))) (Nat.mul_le_mul_left _ ?_)
  rw [List.length_take]; omega
theorem take_flat {α : Type} (E : α → List UInt8) {xs : List α} {k : Nat} (h : k < xs.length) (A : List UInt8) : A ++ (xs.take (k + 1)).flatMap E = A ++ (xs.take k).flatMap E ++ E xs[k] := by
  rw [List.take_succ_eq_append_getElem h, List.flatMap_append, List.append_assoc]; simp
theorem ws (m : Nat) (v : Int) (h : m ≤ 8) : (str (PitotImg.w m v)).size ≤ 8 := by rw [str_size, PitotImg.w_length]; exact h
theorem magic_two : [65, 70, 68, 88] ++ PitotImg.w 2 1 = PitotImg.magic := by decide
theorem be_split (a b n : Nat) : PitotMath.be a (n / 256 ^ b) ++ PitotMath.be b (n % 256 ^ b) = PitotMath.be (a + b) n := by
  induction b generalizing n with
  | zero => simp [PitotMath.be]
  | succ b ih =>
    have h := ih (n / 256)
    have e1 : n / 256 ^ (b + 1) = n / 256 / 256 ^ b := by rw [Nat.pow_succ, Nat.mul_comm, Nat.div_div_eq_div_mul]
    have e2 : n % 256 ^ (b + 1) / 256 = n / 256 % 256 ^ b := by rw [Nat.pow_succ, Nat.mul_comm]; exact Nat.mod_mul_right_div_self ..
    have e3 : n % 256 ^ (b + 1) % 256 = n % 256 := by rw [Nat.pow_succ]; exact Nat.mod_mul_left_mod ..
    rw [e1, show a + (b + 1) = (a + b) + 1 from rfl]
    simp only [PitotMath.be]
    rw [e2, e3, ← List.append_assoc, h]
theorem w8_eq (v : Int) (h : 0 ≤ v) : PitotImg.w 4 (v / 4294967296) ++ PitotImg.w 4 (v % 4294967296) = PitotImg.w 8 v := by
  unfold PitotImg.w
  obtain ⟨n, rfl⟩ := Int.eq_ofNat_of_zero_le h
  have e1 : ((n : Int) / 4294967296).toNat = n / 4294967296 := by omega
  have e2 : ((n : Int) % 4294967296).toNat = n % 4294967296 := by omega
  have e3 : ((n : Int)).toNat = n := by omega
  rw [e1, e2, e3]
  rw [be_split 4 4 n]
theorem zero34 (w : World) : (zeroValue 34).run Try.prog w = .ok (.agg #[.int .i64 0, .int .i64 0, .int .i64 0, .int .i64 0, .bool false, .int .i64 0, .int .i64 0, .slice none 0 0]) w := by kernel_rfl
theorem zero41 (w : World) : (zeroValue 41).run Try.prog w = .ok (.agg #[.int .i64 0, .int .i64 0, .int .i64 0, .int .i64 0, .bool false, .int .i64 0, .int .i64 0, .int .i64 0, .int .i64 0, .int .i64 0, .int .i64 0]) w := by kernel_rfl
set_option maxHeartbeats 16000000 in
theorem refEncode_any (c : Cx) (hi : Im c) (w : World) (hc : c.Held w) : Calls Try.prog 7 #[c.val] w fun e w' => e = .returned (encRes c) ∧ Below w.heap.size w w' := by
  have HCK := Lib.hid (fun (w' : World) (hb : Below w.heap.size w w') => refCheck_any c hi.sm w' (hc.below hb))
  have H1 := Lib.hid (encRes_check (c := c))
  have H2 := Lib.hid (encRes_long (c := c))
  have H3 := Lib.hid (encRes_ok (c := c))
  have H4 := Lib.hid (im_ok hi)
  have HSE : Hid ((PitotConf.check c.pl).2.2 = 0 → ∀ w, Calls Try.prog 19 #[.string (str (PitotImg.magic ++ PitotImg.cfW c.pl))] w fun e w' => e = .returned (.string ⟨(PitotCrc.sealed (PitotImg.magic ++ PitotImg.cfW c.pl)).toArray⟩) ∧ Below w.heap.size w w') := fun h0 w => by
    have h := Cr.refSeal_any ⟨(PitotImg.magic ++ PitotImg.cfW c.pl).toArray⟩ w (by have := hi.size h0; show (PitotImg.magic ++ PitotImg.cfW c.pl).toArray.size ≤ _; rw [List.size_toArray]; omega)
    rw [seal_text] at h
    exact h
  have hc1 : IntsAt w c.partsA c.parts := hc.1
  have hc2 : WnsAt w c.winsA c.wins := hc.2.1
  have hc3 : VxsAt w c.vlsA c.vls := hc.2.2.1
  have hc4 : PxsAt w c.portsA c.ports := hc.2.2.2
  have b1 := hi.sm.parts
  have b2 := hi.sm.wins
  have b3 := hi.sm.vls
  have b4 := hi.sm.ports
  have b5 := hi.sm.tol
  clear hi hc
  generalize encRes c = R at H1 H2 H3 ⊢
  obtain ⟨TT, HTT⟩ : ∃ T, Hid (PitotImg.magic ++ PitotImg.cfW c.pl = T) := ⟨_, rfl⟩
  rw [HTT.out] at HSE H3
  generalize PitotCrc.sealed TT = SL at HSE H3
  generalize PitotConf.check c.pl = CK at HCK HSE H1 H2 H3 H4
  obtain ⟨r1, r2, r3⟩ := CK
  obtain ⟨hosts, pA, pc, parts, major, wA, wk, wins, vA, vc, vls, qA, qc, ports⟩ := c
  simp only at hc1 hc2 hc3 hc4 b1 b2 b3 b4 b5
  have HP1 := Lib.hid hc1; have HP2 := Lib.hid hc2; have HP3 := Lib.hid hc3; have HP4 := Lib.hid hc4; have HB5 := Lib.hid b5
  clear hc1 hc2 hc3 hc4 b5
  simp only [Cx.val] at HCK HSE H1 H2 H3 H4 ⊢
  obtain ⟨an, Han⟩ : ∃ an, Hid (ports.any (fun x => decide (4294967295 < x.id)) = an) := ⟨_, rfl⟩
  rw [Han.out] at H2 H3 H4
  obtain ⟨pl, Hpl⟩ : ∃ n, Hid (parts.length = n) := ⟨_, rfl⟩
  obtain ⟨wl, Hwl⟩ : ∃ n, Hid (wins.length = n) := ⟨_, rfl⟩
  obtain ⟨vl, Hvl⟩ : ∃ n, Hid (vls.length = n) := ⟨_, rfl⟩
  obtain ⟨ql, Hql⟩ : ∃ n, Hid (ports.length = n) := ⟨_, rfl⟩
  rw [Hpl.out] at b1; rw [Hwl.out] at b2; rw [Hvl.out] at b3; rw [Hql.out] at b4
  rw [Hpl.out, Hwl.out, Hvl.out, Hql.out] at HCK ⊢
  have CB0 : Hid ((w.alloc (.cells #[.int .i64 hosts, .slice pA pl pc, .int .i64 major, .slice wA wl wk, .slice vA vl vc, .slice qA ql qc] 27)).heap[w.heap.size]? = some (.cells #[.int .i64 hosts, .slice pA pl pc, .int .i64 major, .slice wA wl wk, .slice vA vl vc, .slice qA ql qc] 27)) := heap_alloc_new w _
  have BB0 : Hid (Below w.heap.size w (w.alloc (.cells #[.int .i64 hosts, .slice pA pl pc, .int .i64 major, .slice wA wl wk, .slice vA vl vc, .slice qA ql qc] 27))) := (Below.refl _ w).alloc (Nat.le_refl _) _
  go_enter Try.func7, Try.ntmps7
  go_upto_region 1 with (fail)
  have CB := CB0
  have BB := BB0
  clear CB0 BB0
  generalize w.alloc (.cells #[.int .i64 hosts, .slice pA pl pc, .int .i64 major, .slice wA wl wk, .slice vA vl vc, .slice qA ql qc] 27) = Wi at CB BB ⊢
  obtain ⟨cb, hcb⟩ : ∃ cb, w.heap.size = cb := ⟨_, rfl⟩
  have HCB : Hid (w.heap.size = cb) := hcb
  rw [hcb] at CB ⊢
  clear hcb
  obtain ⟨c0, c1, c2, c3, c4, c5⟩ := cells_6 CB.out
  go_upto_region 2 with (first
    | (go_at_call 14; (with_reducible refine (HCK.out _ BB.out).mono ?_); rintro e w2 ⟨rfl, hb2⟩
       (have CX := Lib.hid (lies_below CB.out hb2 (lies_lt CB.out)))
       (have BX := Lib.hid (BB.out.trans (hb2.mono BB.out.size)))
       (clear hb2 CB BB c0 c1 c2 c3 c4 c5)
       (have CB := CX)
       (have BB := BX)
       (clear CX BX)
       (obtain ⟨c0, c1, c2, c3, c4, c5⟩ := cells_6 CB.out)))
  by_cases h0 : r3 = 0
  case neg =>
    have HR := Lib.hid (H1.out h0)
    have e1 : (r3 == 0) = false := by simpa using h0
    have e2 : (r3 != 0) = true := by simpa using h0
    go_wp2
    go_returns
    rw [HR.out]
    exact ⟨rfl, BB.out⟩
  subst h0
  have HSS := Lib.hid (HSE.out (by trivial))
  go_wp2
  go_loopw [7] (fun v7 wr => ∃ k : Nat, k ≤ ql ∧ v7 = .int .i64 k ∧ Hid ((ports.drop k).any (fun x => decide (4294967295 < x.id)) = an) ∧ Hid (wr.heap[cb]? = some (.cells #[.int .i64 hosts, .slice pA pl pc, .int .i64 major, .slice wA wl wk, .slice vA vl vc, .slice qA ql qc] 27)) ∧ Hid (Below w.heap.size w wr)) (fun v7 _ => ql - (intOf v7).toNat)
  case atStart => exact ⟨0, Nat.zero_le _, rfl, Han, CB, BB⟩
  case round =>
    obtain ⟨k, hk, rfl, ht, CB1, BB1⟩ := hrel
    clear CB BB c0 c1 c2 c3 c4 c5
    have CB := CB1
    have BB := BB1
    clear CB1 BB1
    obtain ⟨c0, c1, c2, c3, c4, c5⟩ := cells_6 CB.out
    by_cases hkm : k < ql
    · have hkl : k < ports.length := by rw [Hql.out]; exact hkm
      have e1 : decide ((k : Int) < (ql : Int)) = true := decide_eq_true (by omega)
      have e1' : decide (k < ql) = true := decide_eq_true hkm
      obtain ⟨b', off, rfl, hb', hat⟩ := HP4.out.get hkl
      have hat := hat.below BB.out hb'
      have hs : (ports.drop k).any (fun x => decide (4294967295 < x.id)) = ((fun x : Px => decide (4294967295 < x.id)) ports[k] || (ports.drop (k + 1)).any (fun x => decide (4294967295 < x.id))) := by rw [List.drop_eq_getElem_cons hkl, List.any_cons]
      generalize ports[k] = x at hat hs
      obtain ⟨a0, a1, a2, a3, a4, a5, a6, a7, a8, a9, a10⟩ := hat
      simp only at hs
      cases hx : decide (4294967295 < x.id)
      · rw [hx] at hs
        have HT2 : Hid ((ports.drop (k + 1)).any (fun x => decide (4294967295 < x.id)) = an) := by show _ = _; rw [← ht.out, hs]; rfl
        clear hs ht
        go_wp2
        go_roundw
        case rel => exact ⟨k + 1, by omega, by go_num, HT2, CB, BB⟩
        case measure => simp [intOf]; omega
      · rw [hx] at hs
        have HT2 : Hid (an = true) := by show _ = _; rw [← ht.out, hs]; rfl
        have HR := Lib.hid (H2.out (by trivial) HT2.out)
        clear hs ht
        go_wp2
        go_returns
        rw [HR.out]
        exact ⟨rfl, BB.out⟩
    · have e1 : decide ((k : Int) < (ql : Int)) = false := decide_eq_false (by omega)
      have e1' : decide (k < ql) = false := decide_eq_false hkm
      have HT2 : an = false := by rw [← ht.out, List.drop_of_length_le (by rw [Hql.out]; omega)]; rfl
      subst HT2
      have HR := Lib.hid (H3.out (by trivial) (by trivial))
      obtain ⟨hf1, ⟨hf2, hf2l⟩, hf3, ⟨hf4, hf4l⟩, ⟨hf5, hf5l⟩, ⟨hf6, hf6l⟩⟩ := H4.out (by trivial) (by trivial)
      clear ht H1 H2 H3 H4 HSE Han HCK
      have hf1 : PitotImg.fits 2 hosts := hf1
      have hf2 : ∀ t ∈ parts, PitotImg.fits 2 t := hf2
      have hf2l : PitotImg.fits 2 (pl : Int) := ⟨by omega, by show (pl : Int) < 65536; omega⟩
      have hf3 : PitotImg.fits 4 major := hf3
      have hf4 : ∀ x ∈ wins, PitotImg.fits 2 x.part ∧ PitotImg.fits 4 x.beg ∧ PitotImg.fits 4 x.long := fun x hx => hf4 _ (List.mem_map_of_mem hx)
      have hf4l : PitotImg.fits 2 (wl : Int) := ⟨by omega, by show (wl : Int) < 65536; omega⟩
      have hf5 : ∀ x ∈ vls, PitotImg.vlOk x.pl := fun x hx => hf5 _ (List.mem_map_of_mem hx)
      have hf5l : PitotImg.fits 2 (vl : Int) := ⟨by omega, by show (vl : Int) < 65536; omega⟩
      have hf6 : ∀ x ∈ ports, PitotImg.prtOk x.pl := fun x hx => hf6 _ (List.mem_map_of_mem hx)
      have hf6l : PitotImg.fits 2 (ql : Int) := ⟨by omega, by show (ql : Int) < 65536; omega⟩
      have F1 := Lib.hid (fun w => two_any 1 w ⟨by decide, by decide⟩)
      have F2 := Lib.hid (fun w => two_any hosts w hf1)
      have F3 := Lib.hid (fun w => two_any (pl : Int) w hf2l)
      have F4 := Lib.hid (fun w => four_any major w hf3)
      have F5 := Lib.hid (fun w => two_any (wl : Int) w hf4l)
      have F6 := Lib.hid (fun w => two_any (vl : Int) w hf5l)
      have F7 := Lib.hid (fun w => two_any (ql : Int) w hf6l)
      have G2 := Lib.hid (fun x (hx : x ∈ parts) w => two_any x w (hf2 x hx))
      have G4 := Lib.hid hf4
      have G5 := Lib.hid hf5
      have G6 := Lib.hid hf6
      have N2 := Lib.hid (flat_le (PitotImg.w 2) 2 parts (fun x _ => by rw [PitotImg.w_length]; omega))
      have N4 := Lib.hid (flat_le (fun x : Wn => PitotImg.winW x.pl) 10 wins (fun x _ => by rw [winW_len]; omega))
      have N5 := Lib.hid (flat_le (fun x : Vx => PitotImg.vlW x.pl) 10013 vls (fun x hx => by rw [vlW_len]; show 13 + 2 * x.to.length ≤ _; have := HB5.out x hx; omega))
      have N6 := Lib.hid (flat_le (fun x : Px => PitotImg.prtW x.pl) 25 ports (fun x _ => by rw [prtW_len]; omega))
      clear hf1 hf2 hf2l hf3 hf4 hf4l hf5 hf5l hf6 hf6l
      go_upto_region 9 with (fail)
      refine renc9 (ws 2 1 (by decide)) (ws 2 hosts (by decide)) (ws 2 _ (by decide)) CB F1 F2 F3 (fun _ _ _ _ _ h => h) ?_
      intro wc hb2 z0 z1 z2 z3 z4 z5 z6 z7 z8 z9 z10
      have CX := Lib.hid (lies_below CB.out hb2 (lies_lt CB.out))
      have BX := Lib.hid (BB.out.trans (hb2.mono BB.out.size))
      clear hb2 CB BB c0 c1 c2 c3 c4 c5
      have CB := CX
      have BB := BX
      clear CX BX
      obtain ⟨c0, c1, c2, c3, c4, c5⟩ := cells_6 CB.out
      obtain ⟨A1, HA1⟩ : ∃ A, Hid (A = [65, 70, 68, 88] ++ PitotImg.w 2 1 ++ PitotImg.w 2 hosts ++ PitotImg.w 2 (pl : Int)) := ⟨_, Lib.hid rfl⟩
      have hA1 : A1.length = 10 := by rw [HA1.out]; simp only [List.length_append, PitotImg.w_length]; rfl
      rw [show (({ data := #[65, 70, 68, 88] } : ByteArray) ++ str (PitotImg.w 2 1) ++ str (PitotImg.w 2 hosts) ++ str (PitotImg.w 2 (pl : Int))) = str A1 by rw [HA1.out, show ({ data := #[65, 70, 68, 88] } : ByteArray) = str [65, 70, 68, 88] from rfl, str_cat, str_cat, str_cat]]
      go_wp2
      go_loopw [8, 9] (fun v8 v9 wr => ∃ i : Nat, i ≤ pl ∧ v9 = .int .i64 i ∧ v8 = .string (str (A1 ++ (parts.take i).flatMap (PitotImg.w 2))) ∧ Hid (wr.heap[cb]? = some (.cells #[.int .i64 hosts, .slice pA pl pc, .int .i64 major, .slice wA wl wk, .slice vA vl vc, .slice qA ql qc] 27)) ∧ Hid (Below w.heap.size w wr)) (fun _ v9 _ => pl - (intOf v9).toNat)
      case atStart => exact ⟨0, Nat.zero_le _, rfl, by simp, CB, BB⟩
      case round =>
        obtain ⟨i, hki, rfl, rfl, CB1, BB1⟩ := hrel
        clear CB BB c0 c1 c2 c3 c4 c5
        have CB := CB1
        have BB := BB1
        clear CB1 BB1
        obtain ⟨c0, c1, c2, c3, c4, c5⟩ := cells_6 CB.out
        by_cases hkmi : i < pl
        · have hkl : i < parts.length := by rw [Hpl.out]; exact hkmi
          have e1 : decide ((i : Int) < (pl : Int)) = true := decide_eq_true (by omega)
          have e1' : decide (i < pl) = true := decide_eq_true hkmi
          obtain ⟨b', off, rfl, hb', hat⟩ := HP1.out.get hkl
          have hat := (BB.out.cell hb').trans hat
          have HX := Lib.hid (G2.out _ (List.getElem_mem hkl))
          have HS := Lib.hid (take_flat (PitotImg.w 2) hkl A1)
          have hln := N2.out i
          rw [Hpl.out] at hln
          generalize parts[i] = x at hat HX HS
          have g1 : ¬ 9223372036854775807 < (str (A1 ++ (parts.take i).flatMap (PitotImg.w 2))).size + (str (PitotImg.w 2 x)).size := by rw [str_size, str_size, List.length_append, PitotImg.w_length]; omega
          clear hln
          go_wp2_with (first
            | (go_at_call 15; (with_reducible refine (HX.out _).mono ?_); rintro e w2 ⟨rfl, hb2⟩
               (have CX := Lib.hid (lies_below CB.out hb2 (lies_lt CB.out)))
               (have BX := Lib.hid (BB.out.trans (hb2.mono BB.out.size)))
               (clear hb2 CB BB c0 c1 c2 c3 c4 c5)
               (have CB := CX)
               (have BB := BX)
               (clear CX BX)
               (obtain ⟨c0, c1, c2, c3, c4, c5⟩ := cells_6 CB.out)))
          go_roundw
          case rel => exact ⟨i + 1, by omega, by go_num, by rw [HS.out, str_cat], CB, BB⟩
          case measure => simp [intOf]; omega
        · have e1 : decide ((i : Int) < (pl : Int)) = false := decide_eq_false (by omega)
          have e1' : decide (i < pl) = false := decide_eq_false hkmi
          obtain ⟨A2, HA2⟩ : ∃ A, Hid (A = A1 ++ parts.flatMap (PitotImg.w 2)) := ⟨_, Lib.hid rfl⟩
          rw [List.take_of_length_le (show parts.length ≤ i by rw [Hpl.out]; omega), ← HA2.out]
          have hA2 : A2.length ≤ 10010 := by
            rw [HA2.out, List.length_append]
            have := N2.out parts.length
            rw [List.take_length, Hpl.out] at this
            omega
          go_upto_region 14 with (fail)
          refine renc14 (by rw [str_size]; omega) (ws 4 major (by decide)) (ws 2 _ (by decide)) CB F4 F5 (fun _ _ _ _ _ h => h) ?_
          intro wc hb2 z0 z1 z2 z3 z4 z5 z6 z7 z8 z9
          have CX := Lib.hid (lies_below CB.out hb2 (lies_lt CB.out))
          have BX := Lib.hid (BB.out.trans (hb2.mono BB.out.size))
          clear hb2 CB BB c0 c1 c2 c3 c4 c5
          have CB := CX
          have BB := BX
          clear CX BX
          obtain ⟨c0, c1, c2, c3, c4, c5⟩ := cells_6 CB.out
          obtain ⟨A3, HA3⟩ : ∃ A, Hid (A = A2 ++ PitotImg.w 4 major ++ PitotImg.w 2 (wl : Int)) := ⟨_, Lib.hid rfl⟩
          have hA3 : A3.length ≤ 10016 := by rw [HA3.out]; simp only [List.length_append, PitotImg.w_length]; omega
          rw [str_cat, str_cat, ← HA3.out]
          go_wp2
          go_loopw [8, 10] (fun v8 v10 wr => ∃ j : Nat, j ≤ wl ∧ v10 = .int .i64 j ∧ v8 = .string (str (A3 ++ (wins.take j).flatMap (fun x : Wn => PitotImg.winW x.pl))) ∧ Hid (wr.heap[cb]? = some (.cells #[.int .i64 hosts, .slice pA pl pc, .int .i64 major, .slice wA wl wk, .slice vA vl vc, .slice qA ql qc] 27)) ∧ Hid (Below w.heap.size w wr)) (fun _ v10 _ => wl - (intOf v10).toNat)
          case atStart => exact ⟨0, Nat.zero_le _, rfl, by simp, CB, BB⟩
          case round =>
            obtain ⟨j, hkj, rfl, rfl, CB1, BB1⟩ := hrel
            clear CB BB c0 c1 c2 c3 c4 c5
            have CB := CB1
            have BB := BB1
            clear CB1 BB1
            obtain ⟨c0, c1, c2, c3, c4, c5⟩ := cells_6 CB.out
            by_cases hkmj : j < wl
            · have hkl : j < wins.length := by rw [Hwl.out]; exact hkmj
              have e1 : decide ((j : Int) < (wl : Int)) = true := decide_eq_true (by omega)
              have e1' : decide (j < wl) = true := decide_eq_true hkmj
              obtain ⟨b', off, rfl, hb', hat⟩ := HP2.out.get hkl
              have HAT := Lib.hid (hat.below BB.out hb')
              have HLT : Hid (b' < wr.heap.size) := Nat.lt_of_lt_of_le hb' BB.out.size
              obtain ⟨q1, q2, q3⟩ := G4.out _ (List.getElem_mem hkl)
              have HS := Lib.hid (take_flat (fun x : Wn => PitotImg.winW x.pl) hkl A3)
              have hln := N4.out j
              rw [Hwl.out] at hln
              clear hat
              generalize wins[j] = x at HAT HS q1 q2 q3
              have X1 := Lib.hid (fun w => two_any x.part w q1)
              have X2 := Lib.hid (fun w => four_any x.beg w q2)
              have X3 := Lib.hid (fun w => four_any x.long w q3)
              go_upto_region 18 with (fail)
              refine renc18 (x := x) (by rw [str_size, List.length_append]; omega) (ws 2 _ (by decide)) (ws 4 _ (by decide)) (ws 4 _ (by decide)) hkmj CB HAT HLT X1 X2 X3 (fun _ _ _ _ _ h => h) ?_
              intro wc hb2 z0 z1 z2 z3 z4 z5 z6 z7 z8 z9 z10 z11 z12 z13 z14 z15 z16 z17 z18 z19 z20 z21 z22 z23 z24
              have CX := Lib.hid (lies_below CB.out hb2 (lies_lt CB.out))
              have BX := Lib.hid (BB.out.trans (hb2.mono BB.out.size))
              clear hb2 CB BB c0 c1 c2 c3 c4 c5
              have CB := CX
              have BB := BX
              clear CX BX
              obtain ⟨c0, c1, c2, c3, c4, c5⟩ := cells_6 CB.out
              have HS2 : Hid (str (A3 ++ (wins.take j).flatMap (fun x : Wn => PitotImg.winW x.pl)) ++ str (PitotImg.w 2 x.part) ++ str (PitotImg.w 4 x.beg) ++ str (PitotImg.w 4 x.long) = str (A3 ++ (wins.take (j + 1)).flatMap (fun x : Wn => PitotImg.winW x.pl))) := by
                show _ = _
                rw [HS.out, str_cat, str_cat, str_cat]; simp only [PitotImg.winW, List.append_assoc]
              rw [HS2.out]
              clear hln q1 q2 q3
              go_wp2
              go_roundw
              case rel => exact ⟨j + 1, by omega, by go_num, rfl, CB, BB⟩
              case measure => simp [intOf]; omega
            · have e1 : decide ((j : Int) < (wl : Int)) = false := decide_eq_false (by omega)
              have e1' : decide (j < wl) = false := decide_eq_false hkmj
              obtain ⟨A4, HA4⟩ : ∃ A, Hid (A = A3 ++ wins.flatMap (fun x : Wn => PitotImg.winW x.pl)) := ⟨_, Lib.hid rfl⟩
              rw [List.take_of_length_le (show wins.length ≤ j by rw [Hwl.out]; omega), ← HA4.out]
              have hA4 : A4.length ≤ 20016 := by
                rw [HA4.out, List.length_append]
                have := N4.out wins.length
                rw [List.take_length, Hwl.out] at this
                omega
              have g1 : ¬ 9223372036854775807 < (str A4).size + (str (PitotImg.w 2 (vl : Int))).size := by rw [str_size, str_size, PitotImg.w_length]; omega
              go_upto_region 20 with (first
                | (go_at_call 15; (with_reducible refine (F6.out _).mono ?_); rintro e w2 ⟨rfl, hb2⟩
                   (have CX := Lib.hid (lies_below CB.out hb2 (lies_lt CB.out)))
                   (have BX := Lib.hid (BB.out.trans (hb2.mono BB.out.size)))
                   (clear hb2 CB BB c0 c1 c2 c3 c4 c5)
                   (have CB := CX)
                   (have BB := BX)
                   (clear CX BX)
                   (obtain ⟨c0, c1, c2, c3, c4, c5⟩ := cells_6 CB.out)))
              obtain ⟨A5, HA5⟩ : ∃ A, Hid (A = A4 ++ PitotImg.w 2 (vl : Int)) := ⟨_, Lib.hid rfl⟩
              have hA5 : A5.length ≤ 20018 := by rw [HA5.out]; simp only [List.length_append, PitotImg.w_length]; omega
              clear g1
              rw [str_cat, ← HA5.out]
              go_wp2
              go_loopw [8, 11] (fun v8 v11 wr => ∃ i2 : Nat, i2 ≤ vl ∧ v11 = .int .i64 i2 ∧ v8 = .string (str (A5 ++ (vls.take i2).flatMap (fun x : Vx => PitotImg.vlW x.pl))) ∧ Hid (wr.heap[cb]? = some (.cells #[.int .i64 hosts, .slice pA pl pc, .int .i64 major, .slice wA wl wk, .slice vA vl vc, .slice qA ql qc] 27)) ∧ Hid (Below w.heap.size w wr)) (fun _ v11 _ => vl - (intOf v11).toNat)
              case atStart => exact ⟨0, Nat.zero_le _, rfl, by simp, CB, BB⟩
              case round =>
                obtain ⟨i2, hki2, rfl, rfl, CB1, BB1⟩ := hrel
                clear CB BB c0 c1 c2 c3 c4 c5
                have CB := CB1
                have BB := BB1
                clear CB1 BB1
                obtain ⟨c0, c1, c2, c3, c4, c5⟩ := cells_6 CB.out
                by_cases hkmi2 : i2 < vl
                · have hkl : i2 < vls.length := by rw [Hvl.out]; exact hkmi2
                  have e1 : decide ((i2 : Int) < (vl : Int)) = true := decide_eq_true (by omega)
                  have e1' : decide (i2 < vl) = true := decide_eq_true hkmi2
                  obtain ⟨b', off, rfl, hb', hat, hto⟩ := HP3.out.get hkl
                  have hat := hat.below BB.out hb'
                  have HTO : Hid (IntsAt w _ _) := hto
                  have q := G5.out _ (List.getElem_mem hkl)
                  have b6 := HB5.out _ (List.getElem_mem hkl)
                  have HS := Lib.hid (take_flat (fun x : Vx => PitotImg.vlW x.pl) hkl A5)
                  have hln := N5.out i2
                  rw [Hvl.out] at hln
                  clear hto
                  generalize vls[i2] = x at hat HS q b6 HTO
                  obtain ⟨vid, vhost, vbag, vsmax, vhigh, vsubs, vskew, tA, tc, tol⟩ := x
                  obtain ⟨a0, a1, a2, a3, a4, a5, a6, a7⟩ := hat
                  simp only at a0 a1 a2 a3 a4 a5 a6 a7 b6 HTO
                  obtain ⟨tl, Htl⟩ : ∃ tl, Hid (tol.length = tl) := ⟨_, rfl⟩
                  rw [Htl.out] at a7 b6
                  obtain ⟨q1, q2, q3, q4, q5, q6, q7, q8⟩ := q
                  have q1 : PitotImg.fits 2 vid := q1
                  have q2 : PitotImg.fits 2 vhost := q2
                  have q3 : 0 ≤ vbag ∧ vbag ≤ 15 := q3
                  have q4 : PitotImg.fits 2 vsmax := q4
                  have q5 : 0 ≤ vsubs ∧ vsubs ≤ 7 := q5
                  have q6 : PitotImg.fits 4 vskew := q6
                  have q7 : ∀ t ∈ tol, PitotImg.fits 2 t := q7
                  have q8 : PitotImg.fits 2 (tl : Int) := ⟨by omega, by show (tl : Int) < 65536; omega⟩
                  have g8 : 0 ≤ (if vhigh = true then (8 : Int) else 0) ∧ (if vhigh = true then (8 : Int) else 0) ≤ 8 := by split <;> omega
                  have X1 := Lib.hid (fun w => two_any vid w q1)
                  have X2 := Lib.hid (fun w => two_any vhost w q2)
                  have X3 := Lib.hid (fun w => flag_any vhigh 8 w)
                  have X4 : Hid (∀ w, Calls Try.prog 17 #[.int .i64 (16 * vbag + (if vhigh = true then (8 : Int) else 0) + vsubs), .int .i64 1] w fun e w' => e = .returned (.string (str (PitotImg.w 1 (16 * vbag + (if vhigh = true then (8 : Int) else 0) + vsubs)))) ∧ Below w.heap.size w w') := fun w => rnum_any 1 _ w (by decide) (by omega)
                  have X5 := Lib.hid (fun w => two_any vsmax w q4)
                  have X6 := Lib.hid (fun w => four_any vskew w q6)
                  have X7 := Lib.hid (fun w => two_any (tl : Int) w q8)
                  have Q7 := Lib.hid (fun t (ht : t ∈ tol) w => two_any t w (q7 t ht))
                  have NT := Lib.hid (flat_le (PitotImg.w 2) 2 tol (fun x _ => by rw [PitotImg.w_length]; omega))
                  have VB0 : Hid ((wr.alloc (.cells #[.int .i64 vid, .int .i64 vhost, .int .i64 vbag, .int .i64 vsmax, .bool vhigh, .int .i64 vsubs, .int .i64 vskew, .slice tA tl tc] 34)).heap[wr.heap.size]? = some (.cells #[.int .i64 vid, .int .i64 vhost, .int .i64 vbag, .int .i64 vsmax, .bool vhigh, .int .i64 vsubs, .int .i64 vskew, .slice tA tl tc] 34)) := heap_alloc_new wr _
                  have CBX := Lib.hid (lies_alloc (o := .cells #[.int .i64 vid, .int .i64 vhost, .int .i64 vbag, .int .i64 vsmax, .bool vhigh, .int .i64 vsubs, .int .i64 vskew, .slice tA tl tc] 34) CB.out)
                  have BX : Hid (Below w.heap.size w (wr.alloc (.cells #[.int .i64 vid, .int .i64 vhost, .int .i64 vbag, .int .i64 vsmax, .bool vhigh, .int .i64 vsubs, .int .i64 vskew, .slice tA tl tc] 34))) := BB.out.alloc BB.out.size _
                  go_upto_region 24 with (fail)
                  clear CB BB c0 c1 c2 c3 c4 c5 a0 a1 a2 a3 a4 a5 a6 a7
                  have CB := CBX
                  have BB := BX
                  have VB := VB0
                  clear CBX BX VB0
                  generalize wr.alloc (.cells #[.int .i64 vid, .int .i64 vhost, .int .i64 vbag, .int .i64 vsmax, .bool vhigh, .int .i64 vsubs, .int .i64 vskew, .slice tA tl tc] 34) = W5 at CB BB VB ⊢
                  generalize wr.heap.size = vb at VB ⊢
                  obtain ⟨c0, c1, c2, c3, c4, c5⟩ := cells_6 CB.out
                  refine renc24 (by rw [str_size, List.length_append]; omega) (ws 2 _ (by decide)) (ws 2 _ (by decide)) (ws 1 _ (by decide)) (ws 2 _ (by decide)) (ws 4 _ (by decide)) (ws 2 _ (by decide)) q3 g8 q5 rfl VB X1 X2 X3 X4 X5 X6 X7 (fun _ _ _ _ _ h => h) ?_
                  intro wc hb2 z0 z1 z2 z3 z4 z5 z6 z7 z8 z9 z10 z11 z12 z13 z14 z15 z16 z17 z18 z19 z20 z21 z22 z23 z24 z25 z26 z27 z28 z29 z30 z31 z32 z33
                  have VX := Lib.hid (lies_below VB.out hb2 (lies_lt VB.out))
                  clear VB
                  have VB := VX
                  clear VX
                  have CX := Lib.hid (lies_below CB.out hb2 (lies_lt CB.out))
                  have BX := Lib.hid (BB.out.trans (hb2.mono BB.out.size))
                  clear hb2 CB BB c0 c1 c2 c3 c4 c5
                  have CB := CX
                  have BB := BX
                  clear CX BX
                  obtain ⟨c0, c1, c2, c3, c4, c5⟩ := cells_6 CB.out
                  obtain ⟨x0, x1, x2, x3, x4, x5, x6, x7⟩ := cells_8 VB.out
                  obtain ⟨A6, HA6⟩ : ∃ A, Hid (A = A5 ++ (vls.take i2).flatMap (fun x : Vx => PitotImg.vlW x.pl) ++ PitotImg.w 2 vid ++ PitotImg.w 2 vhost ++ PitotImg.w 1 (16 * vbag + (if vhigh = true then (8 : Int) else 0) + vsubs) ++ PitotImg.w 2 vsmax ++ PitotImg.w 4 vskew ++ PitotImg.w 2 (tl : Int)) := ⟨_, Lib.hid rfl⟩
                  have hA6 : A6.length ≤ 5000000 := by rw [HA6.out]; simp only [List.length_append, PitotImg.w_length]; omega
                  rw [str_cat, str_cat, str_cat, str_cat, str_cat, str_cat, ← HA6.out]
                  have HE : Hid (A6 ++ tol.flatMap (PitotImg.w 2) = A5 ++ (vls.take (i2 + 1)).flatMap (fun x : Vx => PitotImg.vlW x.pl)) := by
                    show _ = _
                    rw [HS.out, HA6.out]
                    simp only [PitotImg.vlW, PitotImg.vlByte, PitotImg.manyW, List.append_assoc, Htl.out]
                  clear hln HS q1 q2 q3 q4 q5 q6 q7 q8 g8
                  go_wp2
                  go_loopw [8, 13] (fun v8 v13 wr => ∃ i3 : Nat, i3 ≤ tl ∧ v13 = .int .i64 i3 ∧ v8 = .string (str (A6 ++ (tol.take i3).flatMap (PitotImg.w 2))) ∧ Hid (wr.heap[cb]? = some (.cells #[.int .i64 hosts, .slice pA pl pc, .int .i64 major, .slice wA wl wk, .slice (some ⟨b', off, none⟩) vl vc, .slice qA ql qc] 27)) ∧ Hid (Below w.heap.size w wr) ∧ Hid (wr.heap[vb]? = some (.cells #[.int .i64 vid, .int .i64 vhost, .int .i64 vbag, .int .i64 vsmax, .bool vhigh, .int .i64 vsubs, .int .i64 vskew, .slice tA tl tc] 34))) (fun _ v13 _ => tl - (intOf v13).toNat)
                  case atStart => exact ⟨0, Nat.zero_le _, rfl, by simp, CB, BB, VB⟩
                  case round =>
                    obtain ⟨i3, hki3, rfl, rfl, CB1, BB1, VB1⟩ := hrel
                    clear CB BB c0 c1 c2 c3 c4 c5
                    have CB := CB1
                    have BB := BB1
                    clear CB1 BB1 VB x0 x1 x2 x3 x4 x5 x6 x7
                    have VB := VB1
                    clear VB1
                    obtain ⟨x0, x1, x2, x3, x4, x5, x6, x7⟩ := cells_8 VB.out
                    obtain ⟨c0, c1, c2, c3, c4, c5⟩ := cells_6 CB.out
                    by_cases hkmi3 : i3 < tl
                    · have hkl3 : i3 < tol.length := by rw [Htl.out]; exact hkmi3
                      have e2 : decide ((i3 : Int) < (tl : Int)) = true := decide_eq_true (by omega)
                      have e2' : decide (i3 < tl) = true := decide_eq_true hkmi3
                      obtain ⟨b2, off2, rfl, hb3, hat⟩ := HTO.out.get hkl3
                      have hat := (BB.out.cell hb3).trans hat
                      have HX := Lib.hid (Q7.out _ (List.getElem_mem hkl3))
                      have HS := Lib.hid (take_flat (PitotImg.w 2) hkl3 A6)
                      have hln := NT.out i3
                      rw [Htl.out] at hln
                      generalize tol[i3] = x at hat HX HS
                      have g1 : ¬ 9223372036854775807 < (str (A6 ++ (tol.take i3).flatMap (PitotImg.w 2))).size + (str (PitotImg.w 2 x)).size := by rw [str_size, str_size, List.length_append, PitotImg.w_length]; omega
                      clear hln
                      go_wp2_with (first
                        | (go_at_call 15; (with_reducible refine (HX.out _).mono ?_); rintro e w2 ⟨rfl, hb2⟩
                           (have VX := Lib.hid (lies_below VB.out hb2 (lies_lt VB.out)))
                           (clear VB x0 x1 x2 x3 x4 x5 x6 x7)
                           (have VB := VX)
                           (clear VX)
                           (obtain ⟨x0, x1, x2, x3, x4, x5, x6, x7⟩ := cells_8 VB.out)
                           (have CX := Lib.hid (lies_below CB.out hb2 (lies_lt CB.out)))
                           (have BX := Lib.hid (BB.out.trans (hb2.mono BB.out.size)))
                           (clear hb2 CB BB c0 c1 c2 c3 c4 c5)
                           (have CB := CX)
                           (have BB := BX)
                           (clear CX BX)
                           (obtain ⟨c0, c1, c2, c3, c4, c5⟩ := cells_6 CB.out)))
                      go_roundw
                      case rel => exact ⟨i3 + 1, by omega, by go_num, by rw [HS.out, str_cat], CB, BB, VB⟩
                      case measure => simp [intOf]; omega
                    · have e2 : decide ((i3 : Int) < (tl : Int)) = false := decide_eq_false (by omega)
                      have e2' : decide (i3 < tl) = false := decide_eq_false hkmi3
                      rw [List.take_of_length_le (show tol.length ≤ i3 by rw [Htl.out]; omega), HE.out]
                      go_wp2
                      go_roundw
                      case rel => exact ⟨i2 + 1, by omega, by go_num, rfl, CB, BB⟩
                      case measure => simp [intOf]; omega
                · have e1 : decide ((i2 : Int) < (vl : Int)) = false := decide_eq_false (by omega)
                  have e1' : decide (i2 < vl) = false := decide_eq_false hkmi2
                  obtain ⟨A7, HA7⟩ : ∃ A, Hid (A = A5 ++ vls.flatMap (fun x : Vx => PitotImg.vlW x.pl)) := ⟨_, Lib.hid rfl⟩
                  rw [List.take_of_length_le (show vls.length ≤ i2 by rw [Hvl.out]; omega), ← HA7.out]
                  have hA7 : A7.length ≤ 5000000 := by
                    rw [HA7.out, List.length_append]
                    have := N5.out vls.length
                    rw [List.take_length, Hvl.out] at this
                    omega
                  have g1 : ¬ 9223372036854775807 < (str A7).size + (str (PitotImg.w 2 (ql : Int))).size := by rw [str_size, str_size, PitotImg.w_length]; omega
                  go_upto_region 30 with (first
                    | (go_at_call 15; (with_reducible refine (F7.out _).mono ?_); rintro e w2 ⟨rfl, hb2⟩
                       (have CX := Lib.hid (lies_below CB.out hb2 (lies_lt CB.out)))
                       (have BX := Lib.hid (BB.out.trans (hb2.mono BB.out.size)))
                       (clear hb2 CB BB c0 c1 c2 c3 c4 c5)
                       (have CB := CX)
                       (have BB := BX)
                       (clear CX BX)
                       (obtain ⟨c0, c1, c2, c3, c4, c5⟩ := cells_6 CB.out)))
                  obtain ⟨A8, HA8⟩ : ∃ A, Hid (A = A7 ++ PitotImg.w 2 (ql : Int)) := ⟨_, Lib.hid rfl⟩
                  have hA8 : A8.length ≤ 5000002 := by rw [HA8.out]; simp only [List.length_append, PitotImg.w_length]; omega
                  clear g1
                  rw [str_cat, ← HA8.out]
                  go_wp2
                  go_loopw [8, 14] (fun v8 v14 wr => ∃ i4 : Nat, i4 ≤ ql ∧ v14 = .int .i64 i4 ∧ v8 = .string (str (A8 ++ (ports.take i4).flatMap (fun x : Px => PitotImg.prtW x.pl))) ∧ Hid (wr.heap[cb]? = some (.cells #[.int .i64 hosts, .slice pA pl pc, .int .i64 major, .slice wA wl wk, .slice vA vl vc, .slice qA ql qc] 27)) ∧ Hid (Below w.heap.size w wr)) (fun _ v14 _ => ql - (intOf v14).toNat)
                  case atStart => exact ⟨0, Nat.zero_le _, rfl, by simp, CB, BB⟩
                  case round =>
                    obtain ⟨i4, hki4, rfl, rfl, CB1, BB1⟩ := hrel
                    clear CB BB c0 c1 c2 c3 c4 c5
                    have CB := CB1
                    have BB := BB1
                    clear CB1 BB1
                    obtain ⟨c0, c1, c2, c3, c4, c5⟩ := cells_6 CB.out
                    by_cases hkmi4 : i4 < ql
                    · have hkl : i4 < ports.length := by rw [Hql.out]; exact hkmi4
                      have e1 : decide ((i4 : Int) < (ql : Int)) = true := decide_eq_true (by omega)
                      have e1' : decide (i4 < ql) = true := decide_eq_true hkmi4
                      obtain ⟨b', off, rfl, hb', hat⟩ := HP4.out.get hkl
                      have hat := hat.below BB.out hb'
                      have q := G6.out _ (List.getElem_mem hkl)
                      have HS := Lib.hid (take_flat (fun x : Px => PitotImg.prtW x.pl) hkl A8)
                      have hln := N6.out i4
                      rw [Hql.out] at hln
                      generalize ports[i4] = x at hat HS q
                      obtain ⟨qid, qhost, qpart, qkind, qout, qvl, qsub, qudp, qsize, qdepth, qfresh⟩ := x
                      obtain ⟨a0, a1, a2, a3, a4, a5, a6, a7, a8, a9, a10⟩ := hat
                      simp only at a0 a1 a2 a3 a4 a5 a6 a7 a8 a9 a10
                      obtain ⟨q1, q2, q3, q4, q5, q6, q7, q8, q9, q10⟩ := q
                      have q1 : PitotImg.fits 4 qid := q1
                      have q2 : PitotImg.fits 2 qhost := q2
                      have q3 : PitotImg.fits 2 qpart := q3
                      have q4 : 0 ≤ qkind ∧ qkind ≤ 3 := q4
                      have q5 : PitotImg.fits 2 qvl := q5
                      have q6 : 0 ≤ qsub ∧ qsub ≤ 31 := q6
                      have q7 : PitotImg.fits 2 qudp := q7
                      have q8 : PitotImg.fits 2 qsize := q8
                      have q9 : PitotImg.fits 2 qdepth := q9
                      have q10 : 0 ≤ qfresh ∧ qfresh ≤ 1099511627776 := q10
                      have g8 : 0 ≤ (if qout = true then (32 : Int) else 0) ∧ (if qout = true then (32 : Int) else 0) ≤ 32 := by split <;> omega
                      have X1 := Lib.hid (fun w => four_any qid w q1)
                      have X2 := Lib.hid (fun w => two_any qhost w q2)
                      have X3 := Lib.hid (fun w => two_any qpart w q3)
                      have X4 := Lib.hid (fun w => flag_any qout 32 w)
                      have X5 : Hid (∀ w, Calls Try.prog 17 #[.int .i64 (64 * qkind + (if qout = true then (32 : Int) else 0) + qsub), .int .i64 1] w fun e w' => e = .returned (.string (str (PitotImg.w 1 (64 * qkind + (if qout = true then (32 : Int) else 0) + qsub)))) ∧ Below w.heap.size w w') := fun w => rnum_any 1 _ w (by decide) (by omega)
                      have X6 := Lib.hid (fun w => two_any qvl w q5)
                      have X7 := Lib.hid (fun w => two_any qudp w q7)
                      have X8 := Lib.hid (fun w => two_any qsize w q8)
                      have X9 := Lib.hid (fun w => two_any qdepth w q9)
                      have XA : Hid (∀ w, Calls Try.prog 17 #[.int .i64 qfresh, .int .i64 8] w fun e w' => e = .returned (.string (str (PitotImg.w 8 qfresh))) ∧ Below w.heap.size w w') := fun w => rnum_any 8 _ w (by decide) (by omega)
                      have VB0 : Hid ((wr.alloc (.cells #[.int .i64 qid, .int .i64 qhost, .int .i64 qpart, .int .i64 qkind, .bool qout, .int .i64 qvl, .int .i64 qsub, .int .i64 qudp, .int .i64 qsize, .int .i64 qdepth, .int .i64 qfresh] 41)).heap[wr.heap.size]? = some (.cells #[.int .i64 qid, .int .i64 qhost, .int .i64 qpart, .int .i64 qkind, .bool qout, .int .i64 qvl, .int .i64 qsub, .int .i64 qudp, .int .i64 qsize, .int .i64 qdepth, .int .i64 qfresh] 41)) := heap_alloc_new wr _
                      have CBX := Lib.hid (lies_alloc (o := .cells #[.int .i64 qid, .int .i64 qhost, .int .i64 qpart, .int .i64 qkind, .bool qout, .int .i64 qvl, .int .i64 qsub, .int .i64 qudp, .int .i64 qsize, .int .i64 qdepth, .int .i64 qfresh] 41) CB.out)
                      have BX : Hid (Below w.heap.size w (wr.alloc (.cells #[.int .i64 qid, .int .i64 qhost, .int .i64 qpart, .int .i64 qkind, .bool qout, .int .i64 qvl, .int .i64 qsub, .int .i64 qudp, .int .i64 qsize, .int .i64 qdepth, .int .i64 qfresh] 41))) := BB.out.alloc BB.out.size _
                      go_upto_region 34 with (fail)
                      clear CB BB c0 c1 c2 c3 c4 c5 a0 a1 a2 a3 a4 a5 a6 a7 a8 a9 a10
                      have CB := CBX
                      have BB := BX
                      have VB := VB0
                      clear CBX BX VB0
                      generalize wr.alloc (.cells #[.int .i64 qid, .int .i64 qhost, .int .i64 qpart, .int .i64 qkind, .bool qout, .int .i64 qvl, .int .i64 qsub, .int .i64 qudp, .int .i64 qsize, .int .i64 qdepth, .int .i64 qfresh] 41) = W5 at CB BB VB ⊢
                      generalize wr.heap.size = qb at VB ⊢
                      obtain ⟨c0, c1, c2, c3, c4, c5⟩ := cells_6 CB.out
                      refine renc34 (by rw [str_size, List.length_append]; omega) (ws 4 _ (by decide)) (ws 2 _ (by decide)) (ws 2 _ (by decide)) (ws 1 _ (by decide)) (ws 2 _ (by decide)) (ws 2 _ (by decide)) (ws 2 _ (by decide)) (ws 2 _ (by decide)) (ws 8 _ (by decide)) q4 g8 q6 rfl VB X1 X2 X3 X4 X5 X6 X7 X8 X9 XA (fun _ _ _ _ _ h => h) ?_
                      intro wc hb2 z0 z1 z2 z3 z4 z5 z6 z7 z8 z9 z10 z11 z12 z13 z14 z15 z16 z17 z18 z19 z20 z21 z22 z23 z24 z25 z26 z27 z28 z29 z30 z31 z32 z33 z34 z35 z36 z37 z38 z39 z40 z41 z42 z43 z44
                      have CX := Lib.hid (lies_below CB.out hb2 (lies_lt CB.out))
                      have BX := Lib.hid (BB.out.trans (hb2.mono BB.out.size))
                      clear hb2 CB BB c0 c1 c2 c3 c4 c5
                      have CB := CX
                      have BB := BX
                      clear CX BX
                      obtain ⟨c0, c1, c2, c3, c4, c5⟩ := cells_6 CB.out
                      have w8 := w8_eq qfresh q10.1
                      have HS2 : Hid (A8 ++ (ports.take i4).flatMap (fun x : Px => PitotImg.prtW x.pl) ++ PitotImg.w 4 qid ++ PitotImg.w 2 qhost ++ PitotImg.w 2 qpart ++ PitotImg.w 1 (64 * qkind + (if qout = true then (32 : Int) else 0) + qsub) ++ PitotImg.w 2 qvl ++ PitotImg.w 2 qudp ++ PitotImg.w 2 qsize ++ PitotImg.w 2 qdepth ++ PitotImg.w 8 qfresh = A8 ++ (ports.take (i4 + 1)).flatMap (fun x : Px => PitotImg.prtW x.pl)) := by
                        show _ = _
                        rw [HS.out, ← w8]
                        simp only [PitotImg.prtW, PitotImg.prtByte, List.append_assoc]
                      rw [str_cat, str_cat, str_cat, str_cat, str_cat, str_cat, str_cat, str_cat, str_cat, HS2.out]
                      clear hln HS q1 q2 q3 q4 q5 q6 q7 q8 q9 q10 g8 w8
                      go_wp2
                      go_roundw
                      case rel => exact ⟨i4 + 1, by omega, by go_num, rfl, CB, BB⟩
                      case measure => simp [intOf]; omega
                    · have e1 : decide ((i4 : Int) < (ql : Int)) = false := decide_eq_false (by omega)
                      have e1' : decide (i4 < ql) = false := decide_eq_false hkmi4
                      have HE : Hid (A8 ++ ports.flatMap (fun x : Px => PitotImg.prtW x.pl) = TT) := by
                        show _ = _
                        rw [← HTT.out, HA8.out, HA7.out, HA5.out, HA4.out, HA3.out, HA2.out, HA1.out, magic_two]
                        simp only [PitotImg.cfW, Cx.pl, PitotImg.manyW, List.flatMap_map, List.length_map, List.append_assoc, Hpl.out, Hwl.out, Hvl.out, Hql.out]
                      rw [List.take_of_length_le (show ports.length ≤ i4 by rw [Hql.out]; omega), HE.out]
                      go_wp2_with (first
                        | (go_at_call 19; (with_reducible refine (HSS.out _).mono ?_); rintro e w2 ⟨rfl, hb2⟩
                           (have CX := Lib.hid (lies_below CB.out hb2 (lies_lt CB.out)))
                           (have BX := Lib.hid (BB.out.trans (hb2.mono BB.out.size)))
                           (clear hb2 CB BB c0 c1 c2 c3 c4 c5)
                           (have CB := CX)
                           (have BB := BX)
                           (clear CX BX)
                           (obtain ⟨c0, c1, c2, c3, c4, c5⟩ := cells_6 CB.out)))
                      go_returns
                      rw [HR.out]
                      exact ⟨rfl, BB.out⟩
end Go.Proofs.Ytdphapjeohkbjaa.Im
