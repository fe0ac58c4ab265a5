/- The document's link: the rest (trial). -/
import Derived.Test.YtdgkanamceeheaaGreatK14
import Derived.Test.YtdgkanamceeheaaGreatK16
import Derived.Deep.CutRange
set_option linter.unusedVariables false
set_option maxRecDepth 100000
namespace Go.Proofs.YtdgkanamceeheaaGreat
open Go.RowKit
theorem rises_iff : ∀ (l : List Int),PitotConf.rises l = true ↔ ∀ k (h : k + 1 < l.length),l[k] < l[k + 1]
  | [] => by simp [PitotConf.rises]
  | [a] => by simp [PitotConf.rises]
  | a :: b :: r => by
    rw [PitotConf.rises,Bool.and_eq_true,rises_iff (b :: r),decide_eq_true_eq]
    constructor
    · rintro ⟨h1,h2⟩ k hk
      cases k with
      | zero => exact h1
      | succ k => exact h2 k (by simpa using hk)
    · intro H
      exact ⟨H 0 (by simp),fun k hk => H (k + 1) (by simpa using hk)⟩
def linkR (hosts pid : Int) (i : Nat) (x : Vx) : Int :=
  if (decide (0 < i) && decide (x.id ≤ pid)) = true then 25 else if PitotConf.rises x.to = false then 25 else if x.to.any (fun t => !PitotConf.isHost hosts t || decide (t = x.host)) = true then 20 else 0
set_option maxHeartbeats 8000000 in
theorem link_good (c : Cx) (i : Nat) (x : Vx) (pid : Int) (w : World) (hc : c.Held w) (hi : i < c.vls.length) (hx : c.vls[i] = x) (h256 : i < 256)
    (hg : 1 ≤ x.id ∧ x.id ≤ 65535 ∧ PitotConf.isHost c.hosts x.host = true ∧ 0 ≤ x.bag ∧ x.bag ≤ 7 ∧ 64 ≤ x.smax ∧ x.smax ≤ 1518 ∧ 1 ≤ x.subs ∧ x.subs ≤ 4 ∧ 0 ≤ x.skew ∧ x.skew ≤ 1073741824 ∧ 0 < x.to.length) (htl : x.to.length ≤ maxLen)
    (hp : ∀ j (hj : j + 1 = i),(c.vls[j]'(by omega)).id = pid) : Calls Tryz.prog 56 #[c.val,.int .i64 i] w fun e w' => e = .returned (.int .i64 (linkR c.hosts pid i x)) ∧ Below w.heap.size w w' := by
  unfold maxLen at htl
  obtain ⟨R,HR⟩ : ∃ R,Hid (linkR c.hosts pid i x = R) := ⟨_,rfl⟩
  rw [HR.out]
  obtain ⟨hosts,pA,pc,parts,major,wA,wk,wins,vA,vc,vls,qA,qc,ports⟩ := c
  obtain ⟨n,Hn⟩ : ∃ n,Hid (vls.length = n) := ⟨_,rfl⟩
  simp only at hc hi hx hg hp HR ⊢
  have HV : Hid (VxsAt w vA vls) := hc.2.2.1
  clear hc
  show Calls Tryz.prog 56 #[.agg #[.int .i64 hosts,.slice pA parts.length pc,.int .i64 major,.slice wA wins.length wk,.slice vA vls.length vc,.slice qA ports.length qc],.int .i64 i] w _
  rw [Hn.out] at hi ⊢
  have hil : i < vls.length := by rw [Hn.out];exact hi
  obtain ⟨b,off,rfl,hb,hat,hxh⟩ := HV.out.get hil
  rw [hx] at hat hxh
  have HXH := Lib.hid hxh;clear hxh
  have HXI := Lib.hid hx;clear hx
  have k1 : Below w.heap.size w (w.alloc (.cells #[.int .i64 hosts,.slice pA parts.length pc,.int .i64 major,.slice wA wins.length wk,.slice (some ⟨b,off,none⟩) n vc,.slice qA ports.length qc] 28)) := (Below.refl _ w).alloc (Nat.le_refl _) _
  have hat := hat.below k1 hb
  obtain ⟨tl,Htl⟩ : ∃ tl,Hid (x.to.length = tl) := ⟨_,rfl⟩
  unfold VxAt at hat
  rw [Htl.out] at hat
  obtain ⟨a0,a1,a2,a3,a4,a5,a6,a7⟩ := hat
  have hiI : (i : Int) < (n : Int) := by omega
  have hH := fun w => host_any ⟨hosts,pA,pc,parts,major,wA,wk,wins,some ⟨b,off,none⟩,vc,vls,qA,qc,ports⟩ x.host w
  obtain ⟨P,HPP⟩ : ∃ P,Hid (PitotConf.isHost hosts x.host = P) := ⟨_,rfl⟩
  have hP : ∀ w,Calls Tryz.prog 54 #[.agg #[.int .i64 hosts,.slice pA parts.length pc,.int .i64 major,.slice wA wins.length wk,.slice (some ⟨b,off,none⟩) n vc,.slice qA ports.length qc],.int .i64 x.host] w fun e w' => e = .returned (.bool P) ∧ Below w.heap.size w w' := fun w => by
    have := hH w
    rw [show PitotConf.isHost hosts x.host = P from HPP.out] at this
    rw [← Hn.out]
    exact this
  rw [show P = true from HPP.out.symm.trans hg.2.2.1] at hP
  have HP := Lib.hid hP
  clear hP hH
  have HPI := Lib.hid hp;clear hp
  have ht0 : 0 < tl := by have := hg.2.2.2.2.2.2.2.2.2.2.2;rw [Htl.out] at this;exact this
  rw [Htl.out] at htl
  go_enter Tryz.func56,Tryz.ntmps56
  go_upto_region 2 with (fail)
  have CB : Hid (((w.alloc (.cells #[.int .i64 hosts,.slice pA parts.length pc,.int .i64 major,.slice wA wins.length wk,.slice (some ⟨b,off,none⟩) n vc,.slice qA ports.length qc] 28)).alloc (.cells #[.int .i64 x.id,.int .i64 x.host,.int .i64 x.bag,.int .i64 x.smax,.bool x.high,.int .i64 x.subs,.int .i64 x.skew,.slice x.toA tl x.toc] 60)).heap[w.heap.size]? = some (.cells #[.int .i64 hosts,.slice pA parts.length pc,.int .i64 major,.slice wA wins.length wk,.slice (some ⟨b,off,none⟩) n vc,.slice qA ports.length qc] 28)) := lies_alloc (heap_alloc_new w _) _
  have XB : Hid (((w.alloc (.cells #[.int .i64 hosts,.slice pA parts.length pc,.int .i64 major,.slice wA wins.length wk,.slice (some ⟨b,off,none⟩) n vc,.slice qA ports.length qc] 28)).alloc (.cells #[.int .i64 x.id,.int .i64 x.host,.int .i64 x.bag,.int .i64 x.smax,.bool x.high,.int .i64 x.subs,.int .i64 x.skew,.slice x.toA tl x.toc] 60)).heap[w.heap.size + 1]? = some (.cells #[.int .i64 x.id,.int .i64 x.host,.int .i64 x.bag,.int .i64 x.smax,.bool x.high,.int .i64 x.subs,.int .i64 x.skew,.slice x.toA tl x.toc] 60)) := by
    have := heap_alloc_new (w.alloc (.cells #[.int .i64 hosts,.slice pA parts.length pc,.int .i64 major,.slice wA wins.length wk,.slice (some ⟨b,off,none⟩) n vc,.slice qA ports.length qc] 28)) (.cells #[.int .i64 x.id,.int .i64 x.host,.int .i64 x.bag,.int .i64 x.smax,.bool x.high,.int .i64 x.subs,.int .i64 x.skew,.slice x.toA tl x.toc] 60)
    rw [World.size_alloc] at this
    exact this
  have BB : Hid (Below w.heap.size w ((w.alloc (.cells #[.int .i64 hosts,.slice pA parts.length pc,.int .i64 major,.slice wA wins.length wk,.slice (some ⟨b,off,none⟩) n vc,.slice qA ports.length qc] 28)).alloc (.cells #[.int .i64 x.id,.int .i64 x.host,.int .i64 x.bag,.int .i64 x.smax,.bool x.high,.int .i64 x.subs,.int .i64 x.skew,.slice x.toA tl x.toc] 60))) := k1.alloc k1.size _
  clear a0 a1 a2 a3 a4 a5 a6 a7 k1
  generalize (w.alloc (.cells #[.int .i64 hosts,.slice pA parts.length pc,.int .i64 major,.slice wA wins.length wk,.slice (some ⟨b,off,none⟩) n vc,.slice qA ports.length qc] 28)).alloc (.cells #[.int .i64 x.id,.int .i64 x.host,.int .i64 x.bag,.int .i64 x.smax,.bool x.high,.int .i64 x.subs,.int .i64 x.skew,.slice x.toA tl x.toc] 60) = W1 at CB XB BB ⊢
  obtain ⟨c0,c1,c2,c3,c4,c5⟩ := cells_6 CB.out
  obtain ⟨x0,x1,x2,x3,x4,x5,x6,x7⟩ := cells_8 XB.out
  obtain ⟨g1,g2,g3,g4,g5,g6,g7,g8,g9,g10,g11,g12⟩ := hg
  have ft : ((tl : Int) == 0) = false := by simp;omega
  have ft' : (tl == 0) = false := by simp;omega
  have f0 : decide (256 ≤ (i : Int)) = false := decide_eq_false (by omega)
  have f0' : decide (256 ≤ i) = false := decide_eq_false (by omega)
  have f1 : decide (x.id < 1) = false := decide_eq_false (by omega)
  have f2 : decide (65535 < x.id) = false := decide_eq_false (by omega)
  have f4 : decide (x.bag < 0) = false := decide_eq_false (by omega)
  have f5 : decide (7 < x.bag) = false := decide_eq_false (by omega)
  have f6 : decide (x.smax < 64) = false := decide_eq_false (by omega)
  have f7 : decide (1518 < x.smax) = false := decide_eq_false (by omega)
  have f8 : decide (x.subs < 1) = false := decide_eq_false (by omega)
  have f9 : decide (4 < x.subs) = false := decide_eq_false (by omega)
  have f10 : decide (x.skew < 0) = false := decide_eq_false (by omega)
  have f11 : decide (1073741824 < x.skew) = false := decide_eq_false (by omega)
  have G3 := Lib.hid g3
  clear g3
  go_upto_region 4 with (first
    | (go_at_call 54;(with_reducible refine (HP.out _).mono ?_);rintro e w2 ⟨rfl,hb2⟩
       (have C2 := Lib.hid (lies_below CB.out hb2 (lies_lt CB.out)))
       (have X2 := Lib.hid (lies_below XB.out hb2 (lies_lt XB.out)))
       (have B2 := Lib.hid (BB.out.trans (hb2.mono BB.out.size)))
       (clear hb2 c0 c1 c2 c3 c4 c5 x0 x1 x2 x3 x4 x5 x6 x7)
       (obtain ⟨c0,c1,c2,c3,c4,c5⟩ := cells_6 C2.out)
       (obtain ⟨x0,x1,x2,x3,x4,x5,x6,x7⟩ := cells_8 X2.out)))
  clear f0 f0' f1 f2 f4 f5 f6 f7 f8 f9 f10 f11 ft ft' c0 c1 c2 c3 c4 c5 x0 x1 x2 x3 x4 x5 x6 x7
  obtain ⟨pv,Hpv⟩ : ∃ pv,Hid ((decide (0 < i) && decide (x.id ≤ pid)) = pv) := ⟨_,rfl⟩
  go_cut [91] from 78 to 90 (fun v91 wz => v91 = .bool pv ∧ wz.heap[w.heap.size]? = some (.cells #[.int .i64 hosts,.slice pA parts.length pc,.int .i64 major,.slice wA wins.length wk,.slice (some ⟨b,off,none⟩) n vc,.slice qA ports.length qc] 28) ∧ wz.heap[w.heap.size + 1]? = some (.cells #[.int .i64 x.id,.int .i64 x.host,.int .i64 x.bag,.int .i64 x.smax,.bool x.high,.int .i64 x.subs,.int .i64 x.skew,.slice x.toA tl x.toc] 60) ∧ Below w.heap.size w wz)
  case first =>
    by_cases hi0 : 0 < i
    · obtain ⟨j,rfl⟩ : ∃ j,i = j + 1 := ⟨i - 1,by omega⟩
      have hjl : j < vls.length := by omega
      obtain ⟨b2,off2,e2,hb2,hat2,_⟩ := HV.out.get hjl
      injection e2 with e2;injection e2 with e2 e3 _;subst e2;subst e3
      have hpi := HPI.out j rfl
      have hy := hat2.1
      rw [hpi] at hy
      have HY : Hid (w2.cell? ⟨b,off + j * 8,none⟩ = some (.int .i64 pid)) := (B2.out.cell (p := ⟨b,off + j * 8,none⟩) hb).trans hy
      have HLB : Hid (b < w2.heap.size) := Nat.lt_of_lt_of_le hb B2.out.size
      have hpv : decide (x.id ≤ pid) = pv := by rw [← Hpv.out,decide_eq_true hi0,Bool.true_and]
      clear hat2 hy hpi
      refine link4_pos C2 X2 HY HLB hpv (decide_eq_true (by omega)) (decide_eq_true hi0) (by omega) (IntWalk.i64_in _ (by omega)) (by rw [← Hn.out];exact hjl) (fun _ _ _ _ _ h => h) ?_
      intro wd hwd z78 z79 z80 z81 z82 z83 z84 z85 z86 z87 z88 z89 z90
      go_wp2
      go_meet
      case rel => exact ⟨rfl,lies_below C2.out hwd (lies_lt C2.out),lies_below X2.out hwd (lies_lt X2.out),B2.out.trans (hwd.mono B2.out.size)⟩
    · have hpv : pv = false := by rw [← Hpv.out,decide_eq_false hi0];rfl
      refine link4_zero C2 X2 hpv (decide_eq_false (by omega)) (decide_eq_false hi0) (fun _ _ _ _ _ h => h) ?_
      intro wd hwd z78 z79 z80 z81 z82 z83 z84 z85 z86 z87 z88 z89 z90
      go_wp2
      go_meet
      case rel => exact ⟨rfl,lies_below C2.out hwd (lies_lt C2.out),lies_below X2.out hwd (lies_lt X2.out),B2.out.trans (hwd.mono B2.out.size)⟩
  case rest =>
    obtain ⟨rfl,hC,hX,hB⟩ := hcut
    have C3 := Lib.hid hC;have X3 := Lib.hid hX;have B3 := Lib.hid hB
    clear hC hX hB
    cases pv with
    | true =>
      have HT : Hid (R = 25) := by show _ = _;rw [← HR.out,linkR,if_pos Hpv.out]
      go_wp2
      go_returns
      rw [HT.out]
      exact ⟨rfl,B3.out⟩
    | false =>
      obtain ⟨tb,tf,e7,htb,_⟩ := IntsAt.get HXH.out (k := 0) (by rw [Htl.out];exact ht0)
      rw [e7] at X3
      have HCELL : Hid (∀ q (h : q < x.to.length),w.cell? ⟨tb,tf + q,none⟩ = some (.int .i64 x.to[q])) := fun q h => by
        obtain ⟨tb',tf',e8,_,hcl⟩ := IntsAt.get HXH.out h
        rw [e7] at e8
        injection e8 with e8;injection e8 with e8 e9 _;subst e8;subst e9
        exact hcl
      have HTB : Hid (tb < w.heap.size) := htb
      clear htb e7 HXH HV HPI
      obtain ⟨c0,c1,c2,c3,c4,c5⟩ := cells_6 C3.out
      obtain ⟨x0,x1,x2,x3,x4,x5,x6,x7⟩ := cells_8 X3.out
      go_wp2
      clear c0 c1 c2 c3 c4 c5 x0 x1 x2 x3 x4 x5 x6 x7
      go_loopw [6] (fun v6 wr => ∃ k : Nat,1 ≤ k ∧ k ≤ tl ∧ v6 = .int .i64 k ∧ Hid (∀ q (h : q + 1 < x.to.length),q + 1 < k → x.to[q] < x.to[q + 1]) ∧ wr.heap[w.heap.size]? = some (.cells #[.int .i64 hosts,.slice pA parts.length pc,.int .i64 major,.slice wA wins.length wk,.slice (some ⟨b,off,none⟩) n vc,.slice qA ports.length qc] 28) ∧ wr.heap[w.heap.size + 1]? = some (.cells #[.int .i64 x.id,.int .i64 x.host,.int .i64 x.bag,.int .i64 x.smax,.bool x.high,.int .i64 x.subs,.int .i64 x.skew,.slice (some ⟨tb,tf,none⟩) tl x.toc] 60) ∧ Below w.heap.size w wr) (fun v6 _ => tl - (intOf v6).toNat)
      case atStart => exact ⟨1,Nat.le_refl _,by omega,rfl,fun q h hq => by omega,C3.out,X3.out,B3.out⟩
      case round =>
        obtain ⟨k,hk1,hk,rfl,hri,hC,hX,hB⟩ := hrel
        have C4 := Lib.hid hC;have X4 := Lib.hid hX;have B4 := Lib.hid hB
        clear hC hX hB
        obtain ⟨c0,c1,c2,c3,c4,c5⟩ := cells_6 C4.out
        obtain ⟨x0,x1,x2,x3,x4,x5,x6,x7⟩ := cells_8 X4.out
        by_cases hkt : k < tl
        · have e1 : decide ((k : Int) < (tl : Int)) = true := decide_eq_true (by omega)
          have e1' : decide (k < tl) = true := decide_eq_true hkt
          obtain ⟨j,hj⟩ : ∃ j,k = j + 1 := ⟨k - 1,by omega⟩
          have hkl : k < x.to.length := by rw [Htl.out];exact hkt
          have hjl : j < x.to.length := by omega
          have H1 : Hid (wr.cell? ⟨tb,tf + j,none⟩ = some (.int .i64 x.to[j])) := (B4.out.cell (p := ⟨tb,tf + j,none⟩) HTB.out).trans (HCELL.out j hjl)
          have H2 : Hid (wr.cell? ⟨tb,tf + k,none⟩ = some (.int .i64 x.to[k])) := (B4.out.cell (p := ⟨tb,tf + k,none⟩) HTB.out).trans (HCELL.out k hkl)
          have HLT : Hid (tb < wr.heap.size) := Nat.lt_of_lt_of_le HTB.out B4.out.size
          have HJ := Lib.hid hj
          obtain ⟨pp,HPP2⟩ : ∃ pp,Hid (x.to[j] = pp) := ⟨x.to[j],Lib.hid rfl⟩
          obtain ⟨qq,HQQ⟩ : ∃ pp,Hid (x.to[k] = pp) := ⟨x.to[k],Lib.hid rfl⟩
          rw [HPP2.out] at H1
          rw [HQQ.out] at H2
          go_upto_region 9 with (fail)
          by_cases hle : qq ≤ pp
          · refine link9 C4 X4 H1 H2 HLT (decide_eq_true hle) (by omega) (IntWalk.i64_in _ (by omega)) (by omega) hkt (fun _ _ _ _ _ h => h) ?_
            intro wd hwd z99 z100 z101 z102 z103 z104 z105 z106 z107 z108 z109
            have HWD := Lib.hid hwd
            have HT : Hid (R = 25) := by
              show _ = _
              rw [← HR.out,linkR,if_neg (by rw [Hpv.out];simp),if_pos]
              cases hr : PitotConf.rises x.to with
              | false => rfl
              | true =>
                have h5 := (rises_iff x.to).1 hr j (by omega)
                have h6 : x.to[j] = pp := HPP2.out
                have h7 : x.to[j + 1] = qq := by rw [← HQQ.out];congr 1;exact HJ.out.symm
                omega
            clear hwd hle hj c0 c1 c2 c3 c4 c5 x0 x1 x2 x3 x4 x5 x6 x7
            go_wp2
            go_returns
            rw [HT.out]
            exact ⟨rfl,B4.out.trans (HWD.out.mono B4.out.size)⟩
          · refine link9 C4 X4 H1 H2 HLT (decide_eq_false hle) (by omega) (IntWalk.i64_in _ (by omega)) (by omega) hkt (fun _ _ _ _ _ h => h) ?_
            intro wd hwd z99 z100 z101 z102 z103 z104 z105 z106 z107 z108 z109
            have HWD := Lib.hid hwd
            have HRI : Hid (∀ q (h : q + 1 < x.to.length),q + 1 < k + 1 → x.to[q] < x.to[q + 1]) := by
              show ∀ q (h : q + 1 < x.to.length),q + 1 < k + 1 → x.to[q] < x.to[q + 1]
              intro q h hq
              by_cases e : q + 1 = k
              · have h6 : x.to[q] = pp := by rw [← HPP2.out];congr 1;omega
                have h7 : x.to[q + 1] = qq := by rw [← HQQ.out];congr 1
                omega
              · exact hri.out q h (by omega)
            clear hwd hle hj c0 c1 c2 c3 c4 c5 x0 x1 x2 x3 x4 x5 x6 x7
            go_wp2
            go_roundw
            case rel => exact ⟨k + 1,by omega,by omega,by go_num,HRI.out,lies_below C4.out HWD.out (lies_lt C4.out),lies_below X4.out HWD.out (lies_lt X4.out),B4.out.trans (HWD.out.mono B4.out.size)⟩
            case measure => simp [intOf];omega
        · have e1 : decide ((k : Int) < (tl : Int)) = false := decide_eq_false (by omega)
          have e1' : decide (k < tl) = false := decide_eq_false hkt
          have HRT : Hid (PitotConf.rises x.to = true) := (rises_iff x.to).2 fun q h => hri.out q h (by rw [Htl.out] at h;omega)
          go_wp2
          clear c0 c1 c2 c3 c4 c5 x0 x1 x2 x3 x4 x5 x6 x7
          go_loopw [7] (fun v7 wr => ∃ k : Nat,k ≤ tl ∧ v7 = .int .i64 k ∧ Hid (∀ q (h : q < x.to.length),q < k → (!PitotConf.isHost hosts x.to[q] || decide (x.to[q] = x.host)) = false) ∧ wr.heap[w.heap.size]? = some (.cells #[.int .i64 hosts,.slice pA parts.length pc,.int .i64 major,.slice wA wins.length wk,.slice (some ⟨b,off,none⟩) n vc,.slice qA ports.length qc] 28) ∧ wr.heap[w.heap.size + 1]? = some (.cells #[.int .i64 x.id,.int .i64 x.host,.int .i64 x.bag,.int .i64 x.smax,.bool x.high,.int .i64 x.subs,.int .i64 x.skew,.slice (some ⟨tb,tf,none⟩) tl x.toc] 60) ∧ Below w.heap.size w wr) (fun v7 _ => tl - (intOf v7).toNat)
          case atStart => exact ⟨0,Nat.zero_le _,rfl,fun q h hq => by omega,C4.out,X4.out,B4.out⟩
          case round =>
            obtain ⟨k,hk,rfl,hno,hC,hX,hB⟩ := hrel
            have C5 := Lib.hid hC;have X5 := Lib.hid hX;have B5 := Lib.hid hB
            clear hC hX hB
            obtain ⟨c0,c1,c2,c3,c4,c5⟩ := cells_6 C5.out
            obtain ⟨x0,x1,x2,x3,x4,x5,x6,x7⟩ := cells_8 X5.out
            by_cases hkt : k < tl
            · have e2 : decide ((k : Int) < (tl : Int)) = true := decide_eq_true (by omega)
              have e2' : decide (k < tl) = true := decide_eq_true hkt
              have hkl : k < x.to.length := by rw [Htl.out];exact hkt
              have H2 : Hid (wr.cell? ⟨tb,tf + k,none⟩ = some (.int .i64 x.to[k])) := (B5.out.cell (p := ⟨tb,tf + k,none⟩) HTB.out).trans (HCELL.out k hkl)
              have HLT : Hid (tb < wr.heap.size) := Nat.lt_of_lt_of_le HTB.out B5.out.size
              obtain ⟨qq,HQQ⟩ : ∃ pp,Hid (x.to[k] = pp) := ⟨x.to[k],Lib.hid rfl⟩
              rw [HQQ.out] at H2
              have hHT := fun w => host_any ⟨hosts,pA,pc,parts,major,wA,wk,wins,some ⟨b,off,none⟩,vc,vls,qA,qc,ports⟩ qq w
              have hall : x.to.any (fun t => !PitotConf.isHost hosts t || decide (t = x.host)) = true ↔ ∃ t ∈ x.to,(!PitotConf.isHost hosts t || decide (t = x.host)) = true := List.any_eq_true
              have hbadR : (!PitotConf.isHost hosts qq || decide (qq = x.host)) = true → R = 20 := fun hb => by
                rw [← HR.out,linkR,if_neg (by rw [Hpv.out];simp),if_neg (by rw [HRT.out];simp),if_pos (hall.2 ⟨qq,by rw [← HQQ.out];exact List.getElem_mem _,hb⟩)]
              have HBADR := Lib.hid hbadR
              clear hbadR hall
              go_upto_region 14 with (fail)
              cases hh : PitotConf.isHost hosts qq with
              | false =>
                have hP : ∀ w,Calls Tryz.prog 54 #[.agg #[.int .i64 hosts,.slice pA parts.length pc,.int .i64 major,.slice wA wins.length wk,.slice (some ⟨b,off,none⟩) n vc,.slice qA ports.length qc],.int .i64 qq] w fun e w' => e = .returned (.bool false) ∧ Below w.heap.size w w' := fun w => by
                  have := hHT w
                  rw [show PitotConf.isHost hosts qq = false from hh] at this
                  rw [← Hn.out]
                  exact this
                refine link14_no C5 X5 H2 HLT hkt (Lib.hid hP) rfl (fun _ _ _ _ _ h => h) ?_
                intro wd hwd z118 z119 z120 z121 z122 z123 z124 z125 z126 z127 z128 z129 z130 z131 z132 z133 z134
                have HWD := Lib.hid hwd
                have HT : Hid (R = 20) := HBADR.out (by rw [hh];rfl)
                clear hwd hP hHT hh c0 c1 c2 c3 c4 c5 x0 x1 x2 x3 x4 x5 x6 x7
                go_wp2
                go_returns
                rw [HT.out]
                exact ⟨rfl,B5.out.trans (HWD.out.mono B5.out.size)⟩
              | true =>
                have hP : ∀ w,Calls Tryz.prog 54 #[.agg #[.int .i64 hosts,.slice pA parts.length pc,.int .i64 major,.slice wA wins.length wk,.slice (some ⟨b,off,none⟩) n vc,.slice qA ports.length qc],.int .i64 qq] w fun e w' => e = .returned (.bool true) ∧ Below w.heap.size w w' := fun w => by
                  have := hHT w
                  rw [show PitotConf.isHost hosts qq = true from hh] at this
                  rw [← Hn.out]
                  exact this
                by_cases hxh2 : qq = x.host
                · refine link14_yes C5 X5 H2 HLT hkt (Lib.hid hP) (R := true) (by simpa using hxh2) (fun _ _ _ _ _ h => h) ?_
                  intro wd hwd z118 z119 z120 z121 z122 z123 z124 z125 z126 z127 z128 z129 z130 z131 z132 z133 z134
                  have HWD := Lib.hid hwd
                  have HT : Hid (R = 20) := HBADR.out (by rw [hh,decide_eq_true hxh2];rfl)
                  clear hwd hP hHT hh hxh2 c0 c1 c2 c3 c4 c5 x0 x1 x2 x3 x4 x5 x6 x7
                  go_wp2
                  go_returns
                  rw [HT.out]
                  exact ⟨rfl,B5.out.trans (HWD.out.mono B5.out.size)⟩
                · refine link14_yes C5 X5 H2 HLT hkt (Lib.hid hP) (R := false) (by simpa using hxh2) (fun _ _ _ _ _ h => h) ?_
                  intro wd hwd z118 z119 z120 z121 z122 z123 z124 z125 z126 z127 z128 z129 z130 z131 z132 z133 z134
                  have HWD := Lib.hid hwd
                  have HNO : Hid (∀ q (h : q < x.to.length),q < k + 1 → (!PitotConf.isHost hosts x.to[q] || decide (x.to[q] = x.host)) = false) := by
                    show ∀ q (h : q < x.to.length),q < k + 1 → (!PitotConf.isHost hosts x.to[q] || decide (x.to[q] = x.host)) = false
                    intro q h hq
                    by_cases e : q = k
                    · subst e;rw [HQQ.out,hh,decide_eq_false hxh2];rfl
                    · exact hno.out q h (by omega)
                  clear hwd hP hHT hh hxh2 c0 c1 c2 c3 c4 c5 x0 x1 x2 x3 x4 x5 x6 x7
                  go_wp2
                  go_roundw
                  case rel => exact ⟨k + 1,by omega,by go_num,HNO.out,lies_below C5.out HWD.out (lies_lt C5.out),lies_below X5.out HWD.out (lies_lt X5.out),B5.out.trans (HWD.out.mono B5.out.size)⟩
                  case measure => simp [intOf];omega
            · have e2 : decide ((k : Int) < (tl : Int)) = false := decide_eq_false (by omega)
              have e2' : decide (k < tl) = false := decide_eq_false hkt
              have HT : Hid (R = 0) := by
                show _ = _
                rw [← HR.out,linkR,if_neg (by rw [Hpv.out];simp),if_neg (by rw [HRT.out];simp),if_neg]
                intro ha
                obtain ⟨t,ht,hb⟩ := List.any_eq_true.1 ha
                obtain ⟨q,hq,rfl⟩ := List.mem_iff_getElem.1 ht
                rw [hno.out q hq (by rw [Htl.out] at hq;omega)] at hb
                cases hb
              go_wp2
              go_returns
              rw [HT.out]
              exact ⟨rfl,B5.out⟩
end Go.Proofs.YtdgkanamceeheaaGreat
