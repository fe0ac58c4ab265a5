/- The document's win: the condition (trial). -/
import Derived.Test.YtdgkanamceeheaaGreatK13
import Derived.Test.YtdgkanamceeheaaGreatK0
import Derived.Deep.RegionHeld3
import Derived.Deep.Cut
import Derived.Deep.CutBlock
import Derived.IntWalk
set_option linter.unusedVariables false
set_option maxRecDepth 100000
namespace Go.Proofs.YtdgkanamceeheaaGreat
open Go.RowKit
set_option maxHeartbeats 2000000 in
theorem win_bad (c : Cx) (i : Nat) (x : Wn) (w : World) (hc : c.Held w) (hi : i < c.wins.length) (hx : c.wins[i] = x) (hmaj : c.major ≤ 1073741824) (hpl : c.parts.length ≤ maxLen)
    (h : 256 ≤ i ∨ isPart c.parts x.part = false ∨ x.beg < 0 ∨ x.long < 1 ∨ c.major < x.beg ∨ c.major - x.beg < x.long) : Calls Tryz.prog 55 #[c.val,.int .i64 i] w fun e w' => e = .returned (.int .i64 1) ∧ Below w.heap.size w w' := by
  obtain ⟨hosts,pA,pc,parts,major,wA,wc,wins,vA,vc,vls,qA,qc,ports⟩ := c
  obtain ⟨n,Hn⟩ : ∃ n,Hid (wins.length = n) := ⟨_,rfl⟩
  simp only at hc hi hx hmaj hpl ⊢
  have HW : Hid (WnsAt w wA wins) := hc.2.1
  have HPT : Hid (IntsAt w pA parts) := hc.1
  clear hc
  show Calls Tryz.prog 55 #[.agg #[.int .i64 hosts,.slice pA parts.length pc,.int .i64 major,.slice wA wins.length wc,.slice vA vls.length vc,.slice qA ports.length qc],.int .i64 i] w _
  rw [Hn.out] at hi ⊢
  have hil : i < wins.length := by rw [Hn.out];exact hi
  obtain ⟨b,off,rfl,hb,hat⟩ := HW.out.get hil
  rw [hx] at hat
  have HXI := Lib.hid hx;clear hx
  have k1 : Below w.heap.size w (w.alloc (.cells #[.int .i64 hosts,.slice pA parts.length pc,.int .i64 major,.slice (some ⟨b,off,none⟩) n wc,.slice vA vls.length vc,.slice qA ports.length qc] 28)) := (Below.refl _ w).alloc (Nat.le_refl _) _
  have hat := hat.below k1 hb
  obtain ⟨a0,a1,a2⟩ := hat
  have hiI : (i : Int) < (n : Int) := by omega
  have HPA := Lib.hid (fun w => part_any ⟨hosts,pA,pc,parts,major,some ⟨b,off,none⟩,wc,wins,vA,vc,vls,qA,qc,ports⟩ x.part w)
  obtain ⟨P,HPP⟩ : ∃ P,Hid (isPart parts x.part = P) := ⟨_,rfl⟩
  have hP : ∀ w,Calls Tryz.prog 92 #[.agg #[.int .i64 hosts,.slice pA parts.length pc,.int .i64 major,.slice (some ⟨b,off,none⟩) n wc,.slice vA vls.length vc,.slice qA ports.length qc],.int .i64 x.part] w fun e w' => e = .returned (.bool P) ∧ Below w.heap.size w w' := fun w => by
    have := HPA.out w
    rw [show isPart parts x.part = P from HPP.out] at this
    rw [← Hn.out]
    exact this
  have HP := Lib.hid hP
  clear hP HPA
  rw [show isPart parts x.part = P from HPP.out] at h
  have h := Lib.hid h
  go_enter Tryz.func55,Tryz.ntmps55
  go_upto_region 2 with (fail)
  have CB : Hid (((w.alloc (.cells #[.int .i64 hosts,.slice pA parts.length pc,.int .i64 major,.slice (some ⟨b,off,none⟩) n wc,.slice vA vls.length vc,.slice qA ports.length qc] 28)).alloc (.cells #[.int .i64 x.part,.int .i64 x.beg,.int .i64 x.long] 58)).heap[w.heap.size]? = some (.cells #[.int .i64 hosts,.slice pA parts.length pc,.int .i64 major,.slice (some ⟨b,off,none⟩) n wc,.slice vA vls.length vc,.slice qA ports.length qc] 28)) := lies_alloc (heap_alloc_new w _) _
  have XB : Hid (((w.alloc (.cells #[.int .i64 hosts,.slice pA parts.length pc,.int .i64 major,.slice (some ⟨b,off,none⟩) n wc,.slice vA vls.length vc,.slice qA ports.length qc] 28)).alloc (.cells #[.int .i64 x.part,.int .i64 x.beg,.int .i64 x.long] 58)).heap[w.heap.size + 1]? = some (.cells #[.int .i64 x.part,.int .i64 x.beg,.int .i64 x.long] 58)) := by
    have := heap_alloc_new (w.alloc (.cells #[.int .i64 hosts,.slice pA parts.length pc,.int .i64 major,.slice (some ⟨b,off,none⟩) n wc,.slice vA vls.length vc,.slice qA ports.length qc] 28)) (.cells #[.int .i64 x.part,.int .i64 x.beg,.int .i64 x.long] 58)
    rw [World.size_alloc] at this
    exact this
  have BB : Hid (Below w.heap.size w ((w.alloc (.cells #[.int .i64 hosts,.slice pA parts.length pc,.int .i64 major,.slice (some ⟨b,off,none⟩) n wc,.slice vA vls.length vc,.slice qA ports.length qc] 28)).alloc (.cells #[.int .i64 x.part,.int .i64 x.beg,.int .i64 x.long] 58))) := k1.alloc k1.size _
  clear a0 a1 a2 k1
  generalize (w.alloc (.cells #[.int .i64 hosts,.slice pA parts.length pc,.int .i64 major,.slice (some ⟨b,off,none⟩) n wc,.slice vA vls.length vc,.slice qA ports.length qc] 28)).alloc (.cells #[.int .i64 x.part,.int .i64 x.beg,.int .i64 x.long] 58) = W1 at CB XB BB ⊢
  obtain ⟨c0,c1,c2,c3,c4,c5⟩ := cells_6 CB.out
  obtain ⟨x0,x1,x2⟩ := cells_3 XB.out
  by_cases g1 : 256 ≤ i
  · have f1 : decide (256 ≤ (i : Int)) = true := decide_eq_true (by omega)
    have f1' : decide (256 ≤ i) = true := decide_eq_true g1
    go_wp2
    go_returns
    exact ⟨rfl,BB.out⟩
  · have f1 : decide (256 ≤ (i : Int)) = false := decide_eq_false (by omega)
    have f1' : decide (256 ≤ i) = false := decide_eq_false g1
    cases P
    · go_wp2_with (first
        | (go_at_call 92;(with_reducible refine (HP.out _).mono ?_);rintro e w2 ⟨rfl,hb2⟩
           (have C2 := Lib.hid (lies_below CB.out hb2 (lies_lt CB.out)))
           (have X2 := Lib.hid (lies_below XB.out hb2 (lies_lt XB.out)))
           (have B2 := Lib.hid (BB.out.trans (hb2.mono BB.out.size)))
           (clear hb2 c0 c1 c2 c3 c4 c5 x0 x1 x2)
           (obtain ⟨c0,c1,c2,c3,c4,c5⟩ := cells_6 C2.out)
           (obtain ⟨x0,x1,x2⟩ := cells_3 X2.out)))
      go_returns
      exact ⟨rfl,B2.out⟩
    · by_cases g2 : x.beg < 0
      · have f2 : decide (x.beg < 0) = true := decide_eq_true g2
        go_wp2_with (first
          | (go_at_call 92;(with_reducible refine (HP.out _).mono ?_);rintro e w2 ⟨rfl,hb2⟩
             (have C2 := Lib.hid (lies_below CB.out hb2 (lies_lt CB.out)))
             (have X2 := Lib.hid (lies_below XB.out hb2 (lies_lt XB.out)))
             (have B2 := Lib.hid (BB.out.trans (hb2.mono BB.out.size)))
             (clear hb2 c0 c1 c2 c3 c4 c5 x0 x1 x2)
             (obtain ⟨c0,c1,c2,c3,c4,c5⟩ := cells_6 C2.out)
             (obtain ⟨x0,x1,x2⟩ := cells_3 X2.out)))
        go_returns
        exact ⟨rfl,B2.out⟩
      · have f2 : decide (x.beg < 0) = false := decide_eq_false g2
        by_cases g3 : x.long < 1
        · have f3 : decide (x.long < 1) = true := decide_eq_true g3
          go_wp2_with (first
            | (go_at_call 92;(with_reducible refine (HP.out _).mono ?_);rintro e w2 ⟨rfl,hb2⟩
               (have C2 := Lib.hid (lies_below CB.out hb2 (lies_lt CB.out)))
               (have X2 := Lib.hid (lies_below XB.out hb2 (lies_lt XB.out)))
               (have B2 := Lib.hid (BB.out.trans (hb2.mono BB.out.size)))
               (clear hb2 c0 c1 c2 c3 c4 c5 x0 x1 x2)
               (obtain ⟨c0,c1,c2,c3,c4,c5⟩ := cells_6 C2.out)
               (obtain ⟨x0,x1,x2⟩ := cells_3 X2.out)))
          go_returns
          exact ⟨rfl,B2.out⟩
        · have f3 : decide (x.long < 1) = false := decide_eq_false g3
          by_cases g4 : major < x.beg
          · have f4 : decide (major < x.beg) = true := decide_eq_true g4
            go_wp2_with (first
              | (go_at_call 92;(with_reducible refine (HP.out _).mono ?_);rintro e w2 ⟨rfl,hb2⟩
                 (have C2 := Lib.hid (lies_below CB.out hb2 (lies_lt CB.out)))
                 (have X2 := Lib.hid (lies_below XB.out hb2 (lies_lt XB.out)))
                 (have B2 := Lib.hid (BB.out.trans (hb2.mono BB.out.size)))
                 (clear hb2 c0 c1 c2 c3 c4 c5 x0 x1 x2)
                 (obtain ⟨c0,c1,c2,c3,c4,c5⟩ := cells_6 C2.out)
                 (obtain ⟨x0,x1,x2⟩ := cells_3 X2.out)))
            go_returns
            exact ⟨rfl,B2.out⟩
          · have f4 : decide (major < x.beg) = false := decide_eq_false g4
            have f5 : decide (major - x.beg < x.long) = true := decide_eq_true (by have := h.out;simp only [Bool.true_eq_false,false_or] at this;omega)
            go_wp2_with (first
              | (go_at_call 92;(with_reducible refine (HP.out _).mono ?_);rintro e w2 ⟨rfl,hb2⟩
                 (have C2 := Lib.hid (lies_below CB.out hb2 (lies_lt CB.out)))
                 (have X2 := Lib.hid (lies_below XB.out hb2 (lies_lt XB.out)))
                 (have B2 := Lib.hid (BB.out.trans (hb2.mono BB.out.size)))
                 (clear hb2 c0 c1 c2 c3 c4 c5 x0 x1 x2)
                 (obtain ⟨c0,c1,c2,c3,c4,c5⟩ := cells_6 C2.out)
                 (obtain ⟨x0,x1,x2⟩ := cells_3 X2.out)))
            go_returns
            exact ⟨rfl,B2.out⟩
set_option maxHeartbeats 4000000 in
theorem win_good (c : Cx) (i : Nat) (x : Wn) (w : World) (hc : c.Held w) (hi : i < c.wins.length) (hx : c.wins[i] = x) (hmaj : c.major ≤ 1073741824) (hpl : c.parts.length ≤ maxLen) (hwl : c.wins.length ≤ maxLen)
    (h1 : i < 256) (h2 : isPart c.parts x.part = true) (h3 : 0 ≤ x.beg) (h4 : 1 ≤ x.long) (h5 : x.beg + x.long ≤ c.major)
    (hprev : ∀ k (hk : k < i),isPart c.parts (c.wins[k]'(by omega)).part = true ∧ 0 ≤ (c.wins[k]'(by omega)).beg ∧ 1 ≤ (c.wins[k]'(by omega)).long ∧ (c.wins[k]'(by omega)).beg + (c.wins[k]'(by omega)).long ≤ 1073741824) :
    Calls Tryz.prog 55 #[c.val,.int .i64 i] w fun e w' => e = .returned (.int .i64 (if x.beg < PitotConf.endOf c.parts (PitotConf.hostOf c.parts x.part) ((c.wins.take i).map Wn.pl) 0 then 25 else 0)) ∧ Below w.heap.size w w' := by
  obtain ⟨E,HE⟩ : ∃ E,Hid (PitotConf.endOf c.parts (PitotConf.hostOf c.parts x.part) ((c.wins.take i).map Wn.pl) 0 = E) := ⟨_,rfl⟩
  rw [HE.out]
  obtain ⟨px,hpx⟩ : ∃ px : Nat,x.part = (px : Int) := ⟨x.part.toNat,by simp [isPart] at h2;omega⟩
  have hpx2 : px < c.parts.length := by rw [hpx] at h2;simp [isPart] at h2;exact h2
  have HPR := Lib.hid hprev;clear hprev
  have HPX := Lib.hid hpx;clear hpx
  obtain ⟨hosts,pA,pc,parts,major,wA,wc,wins,vA,vc,vls,qA,qc,ports⟩ := c
  obtain ⟨n,Hn⟩ : ∃ n,Hid (wins.length = n) := ⟨_,rfl⟩
  simp only at hc hi hx hmaj hpl hwl h2 h5 hpx2 HE HPR ⊢
  have HW : Hid (WnsAt w wA wins) := hc.2.1
  have HPT : Hid (IntsAt w pA parts) := hc.1
  clear hc
  show Calls Tryz.prog 55 #[.agg #[.int .i64 hosts,.slice pA parts.length pc,.int .i64 major,.slice wA wins.length wc,.slice vA vls.length vc,.slice qA ports.length qc],.int .i64 i] w _
  rw [Hn.out] at hi hwl ⊢
  have hil : i < wins.length := by rw [Hn.out];exact hi
  obtain ⟨b,off,rfl,hb,hat⟩ := HW.out.get hil
  rw [hx] at hat
  have HXI := Lib.hid hx;clear hx
  have k1 : Below w.heap.size w (w.alloc (.cells #[.int .i64 hosts,.slice pA parts.length pc,.int .i64 major,.slice (some ⟨b,off,none⟩) n wc,.slice vA vls.length vc,.slice qA ports.length qc] 28)) := (Below.refl _ w).alloc (Nat.le_refl _) _
  have hat := hat.below k1 hb
  obtain ⟨a0,a1,a2⟩ := hat
  have hiI : (i : Int) < (n : Int) := by omega
  obtain ⟨bp,op,rfl,hbp,hp2⟩ := HPT.out.get hpx2
  obtain ⟨m,Hm⟩ : ∃ m,Hid (parts.length = m) := ⟨_,rfl⟩
  have HPA := Lib.hid (fun w => part_any ⟨hosts,some ⟨bp,op,none⟩,pc,parts,major,some ⟨b,off,none⟩,wc,wins,vA,vc,vls,qA,qc,ports⟩ x.part w)
  have hP : ∀ w,Calls Tryz.prog 92 #[.agg #[.int .i64 hosts,.slice (some ⟨bp,op,none⟩) m pc,.int .i64 major,.slice (some ⟨b,off,none⟩) n wc,.slice vA vls.length vc,.slice qA ports.length qc],.int .i64 x.part] w fun e w' => e = .returned (.bool true) ∧ Below w.heap.size w w' := fun w => by
    have := HPA.out w
    rw [show isPart parts x.part = true from h2] at this
    rw [← Hn.out,← Hm.out]
    exact this
  have HP := Lib.hid hP
  clear hP HPA
  unfold maxLen at hpl hwl
  rw [Hm.out] at hpl
  have k1 : Below w.heap.size w (w.alloc (.cells #[.int .i64 hosts,.slice (some ⟨bp,op,none⟩) m pc,.int .i64 major,.slice (some ⟨b,off,none⟩) n wc,.slice vA vls.length vc,.slice qA ports.length qc] 28)) := (Below.refl _ w).alloc (Nat.le_refl _) _
  show Calls Tryz.prog 55 #[.agg #[.int .i64 hosts,.slice (some ⟨bp,op,none⟩) parts.length pc,.int .i64 major,.slice (some ⟨b,off,none⟩) n wc,.slice vA vls.length vc,.slice qA ports.length qc],.int .i64 i] w _
  rw [Hm.out]
  rw [Hm.out] at a0 a1 a2
  have H2 := Lib.hid h2;clear h2
  go_enter Tryz.func55,Tryz.ntmps55
  go_upto_region 2 with (fail)
  have CB : Hid (((w.alloc (.cells #[.int .i64 hosts,.slice (some ⟨bp,op,none⟩) m pc,.int .i64 major,.slice (some ⟨b,off,none⟩) n wc,.slice vA vls.length vc,.slice qA ports.length qc] 28)).alloc (.cells #[.int .i64 x.part,.int .i64 x.beg,.int .i64 x.long] 58)).heap[w.heap.size]? = some (.cells #[.int .i64 hosts,.slice (some ⟨bp,op,none⟩) m pc,.int .i64 major,.slice (some ⟨b,off,none⟩) n wc,.slice vA vls.length vc,.slice qA ports.length qc] 28)) := lies_alloc (heap_alloc_new w _) _
  have XB : Hid (((w.alloc (.cells #[.int .i64 hosts,.slice (some ⟨bp,op,none⟩) m pc,.int .i64 major,.slice (some ⟨b,off,none⟩) n wc,.slice vA vls.length vc,.slice qA ports.length qc] 28)).alloc (.cells #[.int .i64 x.part,.int .i64 x.beg,.int .i64 x.long] 58)).heap[w.heap.size + 1]? = some (.cells #[.int .i64 x.part,.int .i64 x.beg,.int .i64 x.long] 58)) := by
    have := heap_alloc_new (w.alloc (.cells #[.int .i64 hosts,.slice (some ⟨bp,op,none⟩) m pc,.int .i64 major,.slice (some ⟨b,off,none⟩) n wc,.slice vA vls.length vc,.slice qA ports.length qc] 28)) (.cells #[.int .i64 x.part,.int .i64 x.beg,.int .i64 x.long] 58)
    rw [World.size_alloc] at this
    exact this
  have BB : Hid (Below w.heap.size w ((w.alloc (.cells #[.int .i64 hosts,.slice (some ⟨bp,op,none⟩) m pc,.int .i64 major,.slice (some ⟨b,off,none⟩) n wc,.slice vA vls.length vc,.slice qA ports.length qc] 28)).alloc (.cells #[.int .i64 x.part,.int .i64 x.beg,.int .i64 x.long] 58))) := k1.alloc k1.size _
  clear a0 a1 a2 k1
  generalize (w.alloc (.cells #[.int .i64 hosts,.slice (some ⟨bp,op,none⟩) m pc,.int .i64 major,.slice (some ⟨b,off,none⟩) n wc,.slice vA vls.length vc,.slice qA ports.length qc] 28)).alloc (.cells #[.int .i64 x.part,.int .i64 x.beg,.int .i64 x.long] 58) = W1 at CB XB BB ⊢
  obtain ⟨c0,c1,c2,c3,c4,c5⟩ := cells_6 CB.out
  obtain ⟨x0,x1,x2⟩ := cells_3 XB.out
  have f1 : decide (256 ≤ (i : Int)) = false := decide_eq_false (by omega)
  have f1' : decide (256 ≤ i) = false := decide_eq_false (by omega)
  have f2 : decide (x.beg < 0) = false := decide_eq_false (by omega)
  have f3 : decide (x.long < 1) = false := decide_eq_false (by omega)
  have f4 : decide (major < x.beg) = false := decide_eq_false (by omega)
  have f5 : decide (major - x.beg < x.long) = false := decide_eq_false (by omega)
  have g4 : x.beg ≤ major := by omega
  go_upto_region 6 with (first
    | (go_at_call 92;(with_reducible refine (HP.out _).mono ?_);rintro e w2 ⟨rfl,hb2⟩
       (have C2 := Lib.hid (lies_below CB.out hb2 (lies_lt CB.out)))
       (have X2 := Lib.hid (lies_below XB.out hb2 (lies_lt XB.out)))
       (have B2 := Lib.hid (BB.out.trans (hb2.mono BB.out.size)))
       (clear hb2 c0 c1 c2 c3 c4 c5 x0 x1 x2)
       (obtain ⟨c0,c1,c2,c3,c4,c5⟩ := cells_6 C2.out)
       (obtain ⟨x0,x1,x2⟩ := cells_3 X2.out)))
  clear c0 c1 c2 c3 c4 c5 x0 x1 x2 f1 f1' f2 f3 f4 f5
  go_wp2
  go_loopw [6,7] (fun v6 v7 wr => ∃ (k : Nat) (e : Int),k ≤ i ∧ v7 = .int .i64 k ∧ v6 = .int .i64 e ∧ 0 ≤ e ∧ e ≤ 1073741824 ∧ Hid (PitotConf.endOf parts (PitotConf.hostOf parts x.part) ((wins.take k).map Wn.pl) 0 = e) ∧ wr.heap[w.heap.size]? = some (.cells #[.int .i64 hosts,.slice (some ⟨bp,op,none⟩) m pc,.int .i64 major,.slice (some ⟨b,off,none⟩) n wc,.slice vA vls.length vc,.slice qA ports.length qc] 28) ∧ wr.heap[w.heap.size + 1]? = some (.cells #[.int .i64 x.part,.int .i64 x.beg,.int .i64 x.long] 58) ∧ Below w.heap.size w wr) (fun _ v7 _ => i - (intOf v7).toNat)
  case atStart => exact ⟨0,0,Nat.zero_le _,rfl,rfl,by omega,by omega,rfl,C2.out,X2.out,B2.out⟩
  case round =>
    obtain ⟨k,e,hk,rfl,rfl,he0,he1,ht,hC,hX,hB⟩ := hrel
    have HC := Lib.hid hC;have HX := Lib.hid hX;have HBB := Lib.hid hB
    clear hC hX hB
    by_cases hki : k < i
    · have e1 : decide ((k : Int) < (i : Int)) = true := decide_eq_true (by omega)
      have e1' : decide (k < i) = true := decide_eq_true hki
      have hkl : k < wins.length := by omega
      have hkn : k < n := by rw [← Hn.out];exact hkl
      have hknI : (k : Int) < (n : Int) := by omega
      have hk0 : 0 ≤ (k : Int) := by omega
      obtain ⟨b2,off2,e2,hb2,hat2⟩ := HW.out.get hkl
      injection e2 with e2;injection e2 with e2 e3 _;subst e2;subst e3
      have hpr := HPR.out k hki
      have hst : (wins.take (k + 1)).map Wn.pl = (wins.take k).map Wn.pl ++ [wins[k].pl] := by rw [List.take_succ_eq_append_getElem hkl,List.map_append];rfl
      have hen := PitotConf.endOf_snoc parts (PitotConf.hostOf parts x.part) ((wins.take k).map Wn.pl) wins[k].pl 0
      rw [← hst,ht.out] at hen
      clear hst
      generalize wins[k] = y at hat2 hpr hen
      obtain ⟨q1,q2,q3,q4⟩ := hpr
      obtain ⟨pk,hpk⟩ : ∃ pk : Nat,y.part = (pk : Int) := ⟨y.part.toNat,by simp [isPart] at q1;omega⟩
      have hpk2 : pk < parts.length := by rw [hpk] at q1;simp [isPart] at q1;exact q1
      obtain ⟨bq,oq,e4,_,hp3⟩ := HPT.out.get hpk2
      injection e4 with e4;injection e4 with e4 e5 _;subst e4;subst e5
      have hhk : PitotConf.hostOf parts y.part = some parts[pk] := by rw [hpk];unfold PitotConf.hostOf;rw [if_pos (by omega)];simp [hpk2]
      have hhx : PitotConf.hostOf parts x.part = some parts[px] := by rw [HPX.out];unfold PitotConf.hostOf;rw [if_pos (by omega)];simp [hpx2]
      rw [hhk,hhx] at hen
      rw [← hhx] at hen
      have hpkm : pk < m := by rw [← Hm.out];exact hpk2
      have hpxm : px < m := by rw [← Hm.out];exact hpx2
      have hpkI : (pk : Int) < (m : Int) := by omega
      have hpxI : (px : Int) < (m : Int) := by omega
      have hpk0 : 0 ≤ (pk : Int) := by omega
      have hpx0 : 0 ≤ (px : Int) := by omega
      obtain ⟨U,HU⟩ : ∃ U,Hid (parts[pk] = U) := ⟨parts[pk],Lib.hid rfl⟩
      obtain ⟨V2,HV2⟩ : ∃ U,Hid (parts[px] = U) := ⟨parts[px],Lib.hid rfl⟩
      rw [HU.out] at hen
      rw [HU.out] at hp3
      rw [HV2.out] at hp2
      have HEN := Lib.hid hen;have HHX := Lib.hid hhx
      clear hen hhk hhx q1
      have HY : Hid (WnAt wr b (off + k * 3) y) := hat2.below HBB.out hb2
      have HLB : Hid (b < wr.heap.size) := Nat.lt_of_lt_of_le hb2 HBB.out.size
      have HLP : Hid (bp < wr.heap.size) := Nat.lt_of_lt_of_le hbp HBB.out.size
      have HP1 : Hid (wr.cell? ⟨bp,op + pk,none⟩ = some (.int .i64 U)) := (HBB.out.cell (p := ⟨bp,op + pk,none⟩) hbp).trans hp3
      have HP2 : Hid (wr.cell? ⟨bp,op + px,none⟩ = some (.int .i64 V2)) := (HBB.out.cell (p := ⟨bp,op + px,none⟩) hbp).trans hp2
      have HPK := Lib.hid hpk;clear hpk
      clear hat2 hp3
      have hwr : IntKind.i64.wrap (y.beg + y.long) = y.beg + y.long := IntWalk.i64_in _ (by omega)
      by_cases hUV : U = V2
      · have e6 : (U == V2) = true := by simpa using hUV
        have HT : Hid (PitotConf.endOf parts (PitotConf.hostOf parts x.part) ((wins.take (k + 1)).map Wn.pl) 0 = y.beg + y.long) := by
          show _ = _;rw [HEN.out,if_pos (by rw [hUV,← HV2.out];exact HHX.out.symm)]
        clear hUV
        go_upto_region 8 with (fail)
        refine wp_region_held_drew (S := fun w' => Below wr.heap.size wr w') (by kernel_rfl) ?_ (fun hHeld => ?_)
        · exact (Below.refl _ wr).drew
        refine tK 0 ?_ rfl (by kernel_rfl) rfl (by intro w;go_simp<;>with_reducible rfl) (fun _ _ _ h=>h) hHeld
        try simp only [Act.put,yA,yB,yC]
        refine tX 1 ?_ rfl (by kernel_rfl) rfl (by intro w hSw;(try dsimp only at hSw);obtain ⟨c0,c1,c2,c3,c4,c5⟩ := cells_6 (lies_below HC.out hSw (lies_lt HC.out));obtain ⟨x0,x1,x2⟩ := cells_3 (lies_below HX.out hSw (lies_lt HX.out));obtain ⟨y0,y1,y2⟩ := HY.out.below hSw HLB.out;have p1 := (hSw.cell (p := ⟨bp,op + pk,none⟩) HLP.out).trans HP1.out;have p2 := (hSw.cell (p := ⟨bp,op + px,none⟩) HLP.out).trans HP2.out;have hq := HPK.out;have hq2 := HPX.out;rw [hq] at y0;rw [hq2] at x0;clear hq hq2;clear hSw;go_simp<;>with_reducible rfl) (fun _ _ _ h=>h) hHeld
        try simp only [Act.put,yA,yB,yC]
        refine tK 2 ?_ rfl (by kernel_rfl) rfl (by intro w;go_simp<;>with_reducible rfl) (fun _ _ _ h=>h) hHeld
        try simp only [Act.put,yA,yB,yC]
        refine tX 3 ?_ rfl (by kernel_rfl) rfl (by intro w hSw;(try dsimp only at hSw);obtain ⟨c0,c1,c2,c3,c4,c5⟩ := cells_6 (lies_below HC.out hSw (lies_lt HC.out));obtain ⟨x0,x1,x2⟩ := cells_3 (lies_below HX.out hSw (lies_lt HX.out));obtain ⟨y0,y1,y2⟩ := HY.out.below hSw HLB.out;have p1 := (hSw.cell (p := ⟨bp,op + pk,none⟩) HLP.out).trans HP1.out;have p2 := (hSw.cell (p := ⟨bp,op + px,none⟩) HLP.out).trans HP2.out;have hq := HPK.out;have hq2 := HPX.out;rw [hq] at y0;rw [hq2] at x0;clear hq hq2;clear hSw;go_simp<;>with_reducible rfl) (fun _ _ _ h=>h) hHeld
        try simp only [Act.put,yA,yB,yC]
        refine tK 4 ?_ rfl (by kernel_rfl) rfl (by intro w;go_simp<;>with_reducible rfl) (fun _ _ _ h=>h) hHeld
        try simp only [Act.put,yA,yB,yC]
        refine tK 5 ?_ rfl (by kernel_rfl) rfl (by intro w;go_simp<;>with_reducible rfl) (fun _ _ _ h=>h) hHeld
        try simp only [Act.put,yA,yB,yC]
        refine tK 6 ?_ rfl (by kernel_rfl) rfl (by intro w;go_simp<;>with_reducible rfl) (fun _ _ _ h=>h) hHeld
        try simp only [Act.put,yA,yB,yC]
        refine tX 7 ?_ rfl (by kernel_rfl) rfl (by intro w hSw;(try dsimp only at hSw);obtain ⟨c0,c1,c2,c3,c4,c5⟩ := cells_6 (lies_below HC.out hSw (lies_lt HC.out));obtain ⟨x0,x1,x2⟩ := cells_3 (lies_below HX.out hSw (lies_lt HX.out));obtain ⟨y0,y1,y2⟩ := HY.out.below hSw HLB.out;have p1 := (hSw.cell (p := ⟨bp,op + pk,none⟩) HLP.out).trans HP1.out;have p2 := (hSw.cell (p := ⟨bp,op + px,none⟩) HLP.out).trans HP2.out;have hq := HPK.out;have hq2 := HPX.out;rw [hq] at y0;rw [hq2] at x0;clear hq hq2;clear hSw;go_simp<;>with_reducible rfl) (fun _ _ _ h=>h) hHeld
        try simp only [Act.put,yA,yB,yC]
        refine tK 8 ?_ rfl (by kernel_rfl) rfl (by intro w;go_simp<;>with_reducible rfl) (fun _ _ _ h=>h) hHeld
        try simp only [Act.put,yA,yB,yC]
        refine tX 9 ?_ rfl (by kernel_rfl) rfl (by intro w hSw;(try dsimp only at hSw);obtain ⟨c0,c1,c2,c3,c4,c5⟩ := cells_6 (lies_below HC.out hSw (lies_lt HC.out));obtain ⟨x0,x1,x2⟩ := cells_3 (lies_below HX.out hSw (lies_lt HX.out));obtain ⟨y0,y1,y2⟩ := HY.out.below hSw HLB.out;have p1 := (hSw.cell (p := ⟨bp,op + pk,none⟩) HLP.out).trans HP1.out;have p2 := (hSw.cell (p := ⟨bp,op + px,none⟩) HLP.out).trans HP2.out;have hq := HPK.out;have hq2 := HPX.out;rw [hq] at y0;rw [hq2] at x0;clear hq hq2;clear hSw;go_simp<;>with_reducible rfl) (fun _ _ _ h=>h) hHeld
        try simp only [Act.put,yA,yB,yC]
        refine tK 10 ?_ rfl (by kernel_rfl) rfl (by intro w;go_simp<;>with_reducible rfl) (fun _ _ _ h=>h) hHeld
        try simp only [Act.put,yA,yB,yC]
        refine tX 11 ?_ rfl (by kernel_rfl) rfl (by intro w hSw;(try dsimp only at hSw);obtain ⟨c0,c1,c2,c3,c4,c5⟩ := cells_6 (lies_below HC.out hSw (lies_lt HC.out));obtain ⟨x0,x1,x2⟩ := cells_3 (lies_below HX.out hSw (lies_lt HX.out));obtain ⟨y0,y1,y2⟩ := HY.out.below hSw HLB.out;have p1 := (hSw.cell (p := ⟨bp,op + pk,none⟩) HLP.out).trans HP1.out;have p2 := (hSw.cell (p := ⟨bp,op + px,none⟩) HLP.out).trans HP2.out;have hq := HPK.out;have hq2 := HPX.out;rw [hq] at y0;rw [hq2] at x0;clear hq hq2;clear hSw;go_simp<;>with_reducible rfl) (fun _ _ _ h=>h) hHeld
        try simp only [Act.put,yA,yB,yC]
        refine tK 12 ?_ rfl (by kernel_rfl) rfl (by intro w;go_simp<;>with_reducible rfl) (fun _ _ _ h=>h) hHeld
        try simp only [Act.put,yA,yB,yC]
        refine tX 13 ?_ rfl (by kernel_rfl) rfl (by intro w hSw;(try dsimp only at hSw);obtain ⟨c0,c1,c2,c3,c4,c5⟩ := cells_6 (lies_below HC.out hSw (lies_lt HC.out));obtain ⟨x0,x1,x2⟩ := cells_3 (lies_below HX.out hSw (lies_lt HX.out));obtain ⟨y0,y1,y2⟩ := HY.out.below hSw HLB.out;have p1 := (hSw.cell (p := ⟨bp,op + pk,none⟩) HLP.out).trans HP1.out;have p2 := (hSw.cell (p := ⟨bp,op + px,none⟩) HLP.out).trans HP2.out;have hq := HPK.out;have hq2 := HPX.out;rw [hq] at y0;rw [hq2] at x0;clear hq hq2;clear hSw;go_simp<;>with_reducible rfl) (fun _ _ _ h=>h) hHeld
        try simp only [Act.put,yA,yB,yC]
        refine tK 14 ?_ rfl (by kernel_rfl) rfl (by intro w;go_simp<;>with_reducible rfl) (fun _ _ _ h=>h) hHeld
        try simp only [Act.put,yA,yB,yC]
        refine tX 15 ?_ rfl (by kernel_rfl) rfl (by intro w hSw;(try dsimp only at hSw);obtain ⟨c0,c1,c2,c3,c4,c5⟩ := cells_6 (lies_below HC.out hSw (lies_lt HC.out));obtain ⟨x0,x1,x2⟩ := cells_3 (lies_below HX.out hSw (lies_lt HX.out));obtain ⟨y0,y1,y2⟩ := HY.out.below hSw HLB.out;have p1 := (hSw.cell (p := ⟨bp,op + pk,none⟩) HLP.out).trans HP1.out;have p2 := (hSw.cell (p := ⟨bp,op + px,none⟩) HLP.out).trans HP2.out;have hq := HPK.out;have hq2 := HPX.out;rw [hq] at y0;rw [hq2] at x0;clear hq hq2;clear hSw;go_simp<;>with_reducible rfl) (fun _ _ _ h=>h) hHeld
        try simp only [Act.put,yA,yB,yC]
        refine tK 16 ?_ rfl (by kernel_rfl) rfl (by intro w;go_simp<;>with_reducible rfl) (fun _ _ _ h=>h) hHeld
        try simp only [Act.put,yA,yB,yC]
        refine wpAnyH_done (by kernel_rfl) ?_ _
        clear hHeld
        go_upto_region 9 with (fail)
        have HDR : Hid (Below wr.heap.size wr wr.drew) := (Below.refl _ wr).drew
        go_upto_region 9 with (fail)
        refine wp_region_held_drew (S := fun w' => Below wr.heap.size wr w') (by kernel_rfl) ?_ (fun hHeld => ?_)
        · exact HDR.out.drew
        refine tK 0 ?_ rfl (by kernel_rfl) rfl (by intro w;go_simp<;>with_reducible rfl) (fun _ _ _ h=>h) hHeld
        try simp only [Act.put,yA,yB,yC]
        refine tX 1 ?_ rfl (by kernel_rfl) rfl (by intro w hSw;(try dsimp only at hSw);obtain ⟨c0,c1,c2,c3,c4,c5⟩ := cells_6 (lies_below HC.out hSw (lies_lt HC.out));obtain ⟨x0,x1,x2⟩ := cells_3 (lies_below HX.out hSw (lies_lt HX.out));obtain ⟨y0,y1,y2⟩ := HY.out.below hSw HLB.out;have p1 := (hSw.cell (p := ⟨bp,op + pk,none⟩) HLP.out).trans HP1.out;have p2 := (hSw.cell (p := ⟨bp,op + px,none⟩) HLP.out).trans HP2.out;have hq := HPK.out;have hq2 := HPX.out;rw [hq] at y0;rw [hq2] at x0;clear hq hq2;clear hSw;go_simp<;>with_reducible rfl) (fun _ _ _ h=>h) hHeld
        try simp only [Act.put,yA,yB,yC]
        refine tK 2 ?_ rfl (by kernel_rfl) rfl (by intro w;go_simp<;>with_reducible rfl) (fun _ _ _ h=>h) hHeld
        try simp only [Act.put,yA,yB,yC]
        refine tK 3 ?_ rfl (by kernel_rfl) rfl (by intro w;go_simp<;>with_reducible rfl) (fun _ _ _ h=>h) hHeld
        try simp only [Act.put,yA,yB,yC]
        refine tK 4 ?_ rfl (by kernel_rfl) rfl (by intro w;go_simp<;>with_reducible rfl) (fun _ _ _ h=>h) hHeld
        try simp only [Act.put,yA,yB,yC]
        refine tX 5 ?_ rfl (by kernel_rfl) rfl (by intro w hSw;(try dsimp only at hSw);obtain ⟨c0,c1,c2,c3,c4,c5⟩ := cells_6 (lies_below HC.out hSw (lies_lt HC.out));obtain ⟨x0,x1,x2⟩ := cells_3 (lies_below HX.out hSw (lies_lt HX.out));obtain ⟨y0,y1,y2⟩ := HY.out.below hSw HLB.out;have p1 := (hSw.cell (p := ⟨bp,op + pk,none⟩) HLP.out).trans HP1.out;have p2 := (hSw.cell (p := ⟨bp,op + px,none⟩) HLP.out).trans HP2.out;have hq := HPK.out;have hq2 := HPX.out;rw [hq] at y0;rw [hq2] at x0;clear hq hq2;clear hSw;go_simp<;>with_reducible rfl) (fun _ _ _ h=>h) hHeld
        try simp only [Act.put,yA,yB,yC]
        refine tK 6 ?_ rfl (by kernel_rfl) rfl (by intro w;go_simp<;>with_reducible rfl) (fun _ _ _ h=>h) hHeld
        try simp only [Act.put,yA,yB,yC]
        refine tX 7 ?_ rfl (by kernel_rfl) rfl (by intro w hSw;(try dsimp only at hSw);obtain ⟨c0,c1,c2,c3,c4,c5⟩ := cells_6 (lies_below HC.out hSw (lies_lt HC.out));obtain ⟨x0,x1,x2⟩ := cells_3 (lies_below HX.out hSw (lies_lt HX.out));obtain ⟨y0,y1,y2⟩ := HY.out.below hSw HLB.out;have p1 := (hSw.cell (p := ⟨bp,op + pk,none⟩) HLP.out).trans HP1.out;have p2 := (hSw.cell (p := ⟨bp,op + px,none⟩) HLP.out).trans HP2.out;have hq := HPK.out;have hq2 := HPX.out;rw [hq] at y0;rw [hq2] at x0;clear hq hq2;clear hSw;go_simp<;>with_reducible rfl) (fun _ _ _ h=>h) hHeld
        try simp only [Act.put,yA,yB,yC]
        refine tK 8 ?_ rfl (by kernel_rfl) rfl (by intro w;go_simp<;>with_reducible rfl) (fun _ _ _ h=>h) hHeld
        try simp only [Act.put,yA,yB,yC]
        refine tK 9 ?_ rfl (by kernel_rfl) rfl (by intro w;go_simp<;>with_reducible rfl) (fun _ _ _ h=>h) hHeld
        try simp only [Act.put,yA,yB,yC]
        refine tK 10 ?_ rfl (by kernel_rfl) rfl (by intro w;go_simp<;>with_reducible rfl) (fun _ _ _ h=>h) hHeld
        try simp only [Act.put,yA,yB,yC]
        refine tX 11 ?_ rfl (by kernel_rfl) rfl (by intro w hSw;(try dsimp only at hSw);obtain ⟨c0,c1,c2,c3,c4,c5⟩ := cells_6 (lies_below HC.out hSw (lies_lt HC.out));obtain ⟨x0,x1,x2⟩ := cells_3 (lies_below HX.out hSw (lies_lt HX.out));obtain ⟨y0,y1,y2⟩ := HY.out.below hSw HLB.out;have p1 := (hSw.cell (p := ⟨bp,op + pk,none⟩) HLP.out).trans HP1.out;have p2 := (hSw.cell (p := ⟨bp,op + px,none⟩) HLP.out).trans HP2.out;have hq := HPK.out;have hq2 := HPX.out;rw [hq] at y0;rw [hq2] at x0;clear hq hq2;clear hSw;go_simp<;>with_reducible rfl) (fun _ _ _ h=>h) hHeld
        try simp only [Act.put,yA,yB,yC]
        refine tK 12 ?_ rfl (by kernel_rfl) rfl (by intro w;go_simp<;>with_reducible rfl) (fun _ _ _ h=>h) hHeld
        try simp only [Act.put,yA,yB,yC]
        refine tK 13 ?_ rfl (by kernel_rfl) rfl (by intro w;go_simp<;>with_reducible rfl) (fun _ _ _ h=>h) hHeld
        try simp only [Act.put,yA,yB,yC]
        refine wpAnyH_done (by kernel_rfl) ?_ _
        clear hHeld
        go_wp2
        go_roundw
        case rel => exact ⟨k + 1,y.beg + y.long,by omega,by go_num,rfl,by omega,by omega,HT,HC.out,HX.out,HBB.out.drew.drew⟩
        case measure => simp [intOf];omega
      · have e6 : (U == V2) = false := by simpa using hUV
        have HT : Hid (PitotConf.endOf parts (PitotConf.hostOf parts x.part) ((wins.take (k + 1)).map Wn.pl) 0 = e) := by
          show _ = _;rw [HEN.out,if_neg (by rw [HHX.out,HV2.out];simpa using hUV)]
        clear hUV
        go_upto_region 8 with (fail)
        refine wp_region_held_drew (S := fun w' => Below wr.heap.size wr w') (by kernel_rfl) ?_ (fun hHeld => ?_)
        · exact (Below.refl _ wr).drew
        refine tK 0 ?_ rfl (by kernel_rfl) rfl (by intro w;go_simp<;>with_reducible rfl) (fun _ _ _ h=>h) hHeld
        try simp only [Act.put,yA,yB,yC]
        refine tX 1 ?_ rfl (by kernel_rfl) rfl (by intro w hSw;(try dsimp only at hSw);obtain ⟨c0,c1,c2,c3,c4,c5⟩ := cells_6 (lies_below HC.out hSw (lies_lt HC.out));obtain ⟨x0,x1,x2⟩ := cells_3 (lies_below HX.out hSw (lies_lt HX.out));obtain ⟨y0,y1,y2⟩ := HY.out.below hSw HLB.out;have p1 := (hSw.cell (p := ⟨bp,op + pk,none⟩) HLP.out).trans HP1.out;have p2 := (hSw.cell (p := ⟨bp,op + px,none⟩) HLP.out).trans HP2.out;have hq := HPK.out;have hq2 := HPX.out;rw [hq] at y0;rw [hq2] at x0;clear hq hq2;clear hSw;go_simp<;>with_reducible rfl) (fun _ _ _ h=>h) hHeld
        try simp only [Act.put,yA,yB,yC]
        refine tK 2 ?_ rfl (by kernel_rfl) rfl (by intro w;go_simp<;>with_reducible rfl) (fun _ _ _ h=>h) hHeld
        try simp only [Act.put,yA,yB,yC]
        refine tX 3 ?_ rfl (by kernel_rfl) rfl (by intro w hSw;(try dsimp only at hSw);obtain ⟨c0,c1,c2,c3,c4,c5⟩ := cells_6 (lies_below HC.out hSw (lies_lt HC.out));obtain ⟨x0,x1,x2⟩ := cells_3 (lies_below HX.out hSw (lies_lt HX.out));obtain ⟨y0,y1,y2⟩ := HY.out.below hSw HLB.out;have p1 := (hSw.cell (p := ⟨bp,op + pk,none⟩) HLP.out).trans HP1.out;have p2 := (hSw.cell (p := ⟨bp,op + px,none⟩) HLP.out).trans HP2.out;have hq := HPK.out;have hq2 := HPX.out;rw [hq] at y0;rw [hq2] at x0;clear hq hq2;clear hSw;go_simp<;>with_reducible rfl) (fun _ _ _ h=>h) hHeld
        try simp only [Act.put,yA,yB,yC]
        refine tK 4 ?_ rfl (by kernel_rfl) rfl (by intro w;go_simp<;>with_reducible rfl) (fun _ _ _ h=>h) hHeld
        try simp only [Act.put,yA,yB,yC]
        refine tK 5 ?_ rfl (by kernel_rfl) rfl (by intro w;go_simp<;>with_reducible rfl) (fun _ _ _ h=>h) hHeld
        try simp only [Act.put,yA,yB,yC]
        refine tK 6 ?_ rfl (by kernel_rfl) rfl (by intro w;go_simp<;>with_reducible rfl) (fun _ _ _ h=>h) hHeld
        try simp only [Act.put,yA,yB,yC]
        refine tX 7 ?_ rfl (by kernel_rfl) rfl (by intro w hSw;(try dsimp only at hSw);obtain ⟨c0,c1,c2,c3,c4,c5⟩ := cells_6 (lies_below HC.out hSw (lies_lt HC.out));obtain ⟨x0,x1,x2⟩ := cells_3 (lies_below HX.out hSw (lies_lt HX.out));obtain ⟨y0,y1,y2⟩ := HY.out.below hSw HLB.out;have p1 := (hSw.cell (p := ⟨bp,op + pk,none⟩) HLP.out).trans HP1.out;have p2 := (hSw.cell (p := ⟨bp,op + px,none⟩) HLP.out).trans HP2.out;have hq := HPK.out;have hq2 := HPX.out;rw [hq] at y0;rw [hq2] at x0;clear hq hq2;clear hSw;go_simp<;>with_reducible rfl) (fun _ _ _ h=>h) hHeld
        try simp only [Act.put,yA,yB,yC]
        refine tK 8 ?_ rfl (by kernel_rfl) rfl (by intro w;go_simp<;>with_reducible rfl) (fun _ _ _ h=>h) hHeld
        try simp only [Act.put,yA,yB,yC]
        refine tX 9 ?_ rfl (by kernel_rfl) rfl (by intro w hSw;(try dsimp only at hSw);obtain ⟨c0,c1,c2,c3,c4,c5⟩ := cells_6 (lies_below HC.out hSw (lies_lt HC.out));obtain ⟨x0,x1,x2⟩ := cells_3 (lies_below HX.out hSw (lies_lt HX.out));obtain ⟨y0,y1,y2⟩ := HY.out.below hSw HLB.out;have p1 := (hSw.cell (p := ⟨bp,op + pk,none⟩) HLP.out).trans HP1.out;have p2 := (hSw.cell (p := ⟨bp,op + px,none⟩) HLP.out).trans HP2.out;have hq := HPK.out;have hq2 := HPX.out;rw [hq] at y0;rw [hq2] at x0;clear hq hq2;clear hSw;go_simp<;>with_reducible rfl) (fun _ _ _ h=>h) hHeld
        try simp only [Act.put,yA,yB,yC]
        refine tK 10 ?_ rfl (by kernel_rfl) rfl (by intro w;go_simp<;>with_reducible rfl) (fun _ _ _ h=>h) hHeld
        try simp only [Act.put,yA,yB,yC]
        refine tX 11 ?_ rfl (by kernel_rfl) rfl (by intro w hSw;(try dsimp only at hSw);obtain ⟨c0,c1,c2,c3,c4,c5⟩ := cells_6 (lies_below HC.out hSw (lies_lt HC.out));obtain ⟨x0,x1,x2⟩ := cells_3 (lies_below HX.out hSw (lies_lt HX.out));obtain ⟨y0,y1,y2⟩ := HY.out.below hSw HLB.out;have p1 := (hSw.cell (p := ⟨bp,op + pk,none⟩) HLP.out).trans HP1.out;have p2 := (hSw.cell (p := ⟨bp,op + px,none⟩) HLP.out).trans HP2.out;have hq := HPK.out;have hq2 := HPX.out;rw [hq] at y0;rw [hq2] at x0;clear hq hq2;clear hSw;go_simp<;>with_reducible rfl) (fun _ _ _ h=>h) hHeld
        try simp only [Act.put,yA,yB,yC]
        refine tK 12 ?_ rfl (by kernel_rfl) rfl (by intro w;go_simp<;>with_reducible rfl) (fun _ _ _ h=>h) hHeld
        try simp only [Act.put,yA,yB,yC]
        refine tX 13 ?_ rfl (by kernel_rfl) rfl (by intro w hSw;(try dsimp only at hSw);obtain ⟨c0,c1,c2,c3,c4,c5⟩ := cells_6 (lies_below HC.out hSw (lies_lt HC.out));obtain ⟨x0,x1,x2⟩ := cells_3 (lies_below HX.out hSw (lies_lt HX.out));obtain ⟨y0,y1,y2⟩ := HY.out.below hSw HLB.out;have p1 := (hSw.cell (p := ⟨bp,op + pk,none⟩) HLP.out).trans HP1.out;have p2 := (hSw.cell (p := ⟨bp,op + px,none⟩) HLP.out).trans HP2.out;have hq := HPK.out;have hq2 := HPX.out;rw [hq] at y0;rw [hq2] at x0;clear hq hq2;clear hSw;go_simp<;>with_reducible rfl) (fun _ _ _ h=>h) hHeld
        try simp only [Act.put,yA,yB,yC]
        refine tK 14 ?_ rfl (by kernel_rfl) rfl (by intro w;go_simp<;>with_reducible rfl) (fun _ _ _ h=>h) hHeld
        try simp only [Act.put,yA,yB,yC]
        refine tX 15 ?_ rfl (by kernel_rfl) rfl (by intro w hSw;(try dsimp only at hSw);obtain ⟨c0,c1,c2,c3,c4,c5⟩ := cells_6 (lies_below HC.out hSw (lies_lt HC.out));obtain ⟨x0,x1,x2⟩ := cells_3 (lies_below HX.out hSw (lies_lt HX.out));obtain ⟨y0,y1,y2⟩ := HY.out.below hSw HLB.out;have p1 := (hSw.cell (p := ⟨bp,op + pk,none⟩) HLP.out).trans HP1.out;have p2 := (hSw.cell (p := ⟨bp,op + px,none⟩) HLP.out).trans HP2.out;have hq := HPK.out;have hq2 := HPX.out;rw [hq] at y0;rw [hq2] at x0;clear hq hq2;clear hSw;go_simp<;>with_reducible rfl) (fun _ _ _ h=>h) hHeld
        try simp only [Act.put,yA,yB,yC]
        refine tK 16 ?_ rfl (by kernel_rfl) rfl (by intro w;go_simp<;>with_reducible rfl) (fun _ _ _ h=>h) hHeld
        try simp only [Act.put,yA,yB,yC]
        refine wpAnyH_done (by kernel_rfl) ?_ _
        clear hHeld
        go_wp2
        go_roundw
        case rel => exact ⟨k + 1,e,by omega,by go_num,rfl,by omega,by omega,HT,HC.out,HX.out,HBB.out.drew⟩
        case measure => simp [intOf];omega
    · have e1 : decide ((k : Int) < (i : Int)) = false := decide_eq_false (by omega)
      have e1' : decide (k < i) = false := decide_eq_false hki
      obtain rfl : k = i := by omega
      have hee : e = E := ht.out.symm.trans HE.out
      subst hee
      obtain ⟨x0,x1,x2⟩ := cells_3 HX.out
      by_cases g : x.beg < e
      · have g1 : decide (x.beg < e) = true := decide_eq_true g
        have HG : Hid ((if x.beg < e then (25 : Int) else 0) = 25) := if_pos g
        go_wp2
        go_returns
        exact ⟨rfl,HBB.out⟩
      · have g1 : decide (x.beg < e) = false := decide_eq_false g
        have HG : Hid ((if x.beg < e then (25 : Int) else 0) = 0) := if_neg g
        go_wp2
        go_returns
        exact ⟨rfl,HBB.out⟩
end Go.Proofs.YtdgkanamceeheaaGreat
