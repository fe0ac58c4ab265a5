/- Two networks that are the same are told to be. What is loaded of few bytes. -/
import Derived.Test.YtdgkanamceeheaaGreatK43
import Derived.Test.YtdgkanamceeheaaGreatK47
import Derived.Test.YtdgkanamceeheaaGreatK0
import Derived.Laws.StructEq
import Derived.Deep.QuietTactic
import Derived.BigQuiet
set_option linter.unusedVariables false
set_option maxRecDepth 100000
set_option linter.unusedVariables false
namespace Go.Proofs.YtdgkanamceeheaaGreat.Im
open Go.RowKit
open PitotImg (St rd)
set_option maxHeartbeats 1000000 in
theorem ints_same (A B : Option Addr) (ca cb : Nat) (xs : List Int) (w : World) (hA : IntsAt w A xs) (hB : IntsAt w B xs) (hl : xs.length ≤ 1000000) (n : Nat) (hn : n = xs.length) :
    Calls Tryz.prog 22 #[.slice A n ca,.slice B n cb] w fun e w' => e = .returned (.bool true) ∧ Below w.heap.size w w' := by
  have HN := Lib.hid hn
  rw [← hn] at hl
  clear hn
  go_enter Tryz.func22,Tryz.ntmps22
  go_wp2
  go_loopw [5] (fun v5 wr => ∃ k : Nat,k ≤ n ∧ v5 = .int .i64 k ∧ Below w.heap.size w wr) (fun v5 _ => n - (intOf v5).toNat)
  case atStart => exact ⟨0,Nat.zero_le _,rfl,Below.refl _ _⟩
  case round =>
    obtain ⟨k,hk,rfl,hbw⟩ := hrel
    by_cases hlt : k < n
    · have hk1 : k < xs.length := by rw [← HN.out];exact hlt
      obtain ⟨bx,ox,rfl,hbx,hcx0⟩ := hA.get hk1
      obtain ⟨by',oy,rfl,hby,hcy0⟩ := hB.get hk1
      have hcx : wr.cell? ⟨bx,ox + k,none⟩ = some (.int .i64 xs[k]) := (hbw.cell hbx).trans hcx0
      have hcy : wr.cell? ⟨by',oy + k,none⟩ = some (.int .i64 xs[k]) := (hbw.cell hby).trans hcy0
      clear hcx0 hcy0
      have ikq : (k : Int) < (n : Int) := by omega
      generalize xs[k] = x at hcx hcy
      go_wp2
      go_quiet (fail)
      go_wp2
      go_roundw
      case rel => exact ⟨k + 1,by omega,by go_num,below_drewN hbw nq⟩
      case measure => simp [intOf];omega
    · go_wp2
      go_returns
      exact ⟨rfl,hbw⟩
theorem eqW (a b c : Int) (w : World) : (Go.Op.equalIn 10000 58 (.agg #[.int .i64 a,.int .i64 b,.int .i64 c]) (.agg #[.int .i64 a,.int .i64 b,.int .i64 c])).run Tryz.prog w = .ok true w := by
  go_simp
theorem eqPt (b0 b1 b2 b3 b5 b6 b7 b8 b9 b10 : Int) (b4 : Bool) (w : World) : (Go.Op.equalIn 10000 62 (.agg #[.int .i64 b0,.int .i64 b1,.int .i64 b2,.int .i64 b3,.bool b4,.int .i64 b5,.int .i64 b6,.int .i64 b7,.int .i64 b8,.int .i64 b9,.int .i64 b10]) (.agg #[.int .i64 b0,.int .i64 b1,.int .i64 b2,.int .i64 b3,.bool b4,.int .i64 b5,.int .i64 b6,.int .i64 b7,.int .i64 b8,.int .i64 b9,.int .i64 b10])).run Tryz.prog w = .ok true w := by
  go_simp
theorem wn_inj : ∀ (l l' : List Wn),l.map Wn.pl = l'.map Wn.pl → l = l'
  | [],[],_ => rfl
  | [],y :: l',h => by cases h
  | x :: l,[],h => by cases h
  | x :: l,y :: l',h => by
    rw [List.map_cons,List.map_cons] at h
    injection h with h1 h2
    obtain ⟨a,b,c⟩ := x
    obtain ⟨a',b',c'⟩ := y
    injection h1 with e1 e2 e3
    simp only at e1 e2 e3
    rw [wn_inj l l' h2,e1,e2,e3]
theorem px_inj : ∀ (l l' : List Px),l.map Px.pl = l'.map Px.pl → l = l'
  | [],[],_ => rfl
  | [],y :: l',h => by cases h
  | x :: l,[],h => by cases h
  | x :: l,y :: l',h => by
    rw [List.map_cons,List.map_cons] at h
    injection h with h1 h2
    obtain ⟨a,b,c,d,e,f,g,i,j,k,m⟩ := x
    obtain ⟨a',b',c',d',e',f',g',i',j',k',m'⟩ := y
    injection h1 with e1 e2 e3 e4 e5 e6 e7 e8 e9 e10 e11
    simp only at e1 e2 e3 e4 e5 e6 e7 e8 e9 e10 e11
    rw [px_inj l l' h2,e1,e2,e3,e4,e5,e6,e7,e8,e9,e10,e11]
set_option maxHeartbeats 16000000 in
theorem Same_any (c d : Cx) (hpl : c.pl = d.pl) (b1 : c.parts.length ≤ 1000000) (b2 : c.wins.length ≤ 1000000) (b3 : c.vls.length ≤ 1000000) (b4 : c.ports.length ≤ 1000000) (b5 : ∀ v ∈ c.vls,v.to.length ≤ 1000000) (w : World) (hc : c.Held w) (hd : d.Held w) :
    Calls Tryz.prog 10 #[c.val,d.val] w fun e w' => e = .returned (.bool true) ∧ Below w.heap.size w w' := by
  obtain ⟨hosts,pA,pc,parts,major,wA,wk,wins,vA,vc,vls,qA,qc,ports⟩ := c
  obtain ⟨hosts2,pA2,pc2,parts2,major2,wA2,wk2,wins2,vA2,vc2,vls2,qA2,qc2,ports2⟩ := d
  injection hpl with e1 e2 e3 e4 e5 e6
  simp only at e1 e2 e3 e4 e5 e6
  have e4 := wn_inj _ _ e4
  have e6 := px_inj _ _ e6
  subst e1 e2 e3 e4 e6
  have hvl : vls2.length = vls.length := by have := congrArg List.length e5;simpa using this.symm
  have HEL : Hid (∀ k (h : k < vls.length) (h2 : k < vls2.length),vls[k].pl = vls2[k].pl) := fun k h h2 => by
    have := congrArg (fun l => l[k]?) e5
    simpa [h,h2] using this
  have HIw : Hid (WnsAt w wA wins) := hc.2.1
  have HIw2 : Hid (WnsAt w wA2 wins) := hd.2.1
  have HIv : Hid (VxsAt w vA vls) := hc.2.2.1
  have HIv2 : Hid (VxsAt w vA2 vls2) := hd.2.2.1
  have HIq : Hid (PxsAt w qA ports) := hc.2.2.2
  have HIq2 : Hid (PxsAt w qA2 ports) := hd.2.2.2
  have HI : Hid (∀ W,Below w.heap.size w W → Calls Tryz.prog 22 #[.slice pA parts.length pc,.slice pA2 parts.length pc2] W fun e w' => e = .returned (.bool true) ∧ Below W.heap.size W w') := fun W hb => ints_same pA pA2 pc pc2 parts W (hc.1.below hb) (hd.1.below hb) b1 _ rfl
  have HB5 := Lib.hid b5
  clear hc hd e5 b5
  show Calls Tryz.prog 10 #[.agg #[.int .i64 hosts,.slice pA parts.length pc,.int .i64 major,.slice wA wins.length wk,.slice vA vls.length vc,.slice qA ports.length qc],.agg #[.int .i64 hosts,.slice pA2 parts.length pc2,.int .i64 major,.slice wA2 wins.length wk2,.slice vA2 vls2.length vc2,.slice qA2 ports.length qc2]] w _
  obtain ⟨wl,hwl⟩ : ∃ n,wins.length = n := ⟨_,rfl⟩
  obtain ⟨vl,hvl2⟩ : ∃ n,vls.length = n := ⟨_,rfl⟩
  obtain ⟨ql,hql⟩ : ∃ n,ports.length = n := ⟨_,rfl⟩
  obtain ⟨pl,hpl⟩ : ∃ n,parts.length = n := ⟨_,rfl⟩
  rw [hvl2] at hvl
  simp only at b1 b2 b3 b4
  rw [hvl,hwl,hql,hpl,hvl2]
  rw [hpl] at HI b1
  rw [hwl] at b2
  rw [hvl2] at b3
  rw [hql] at b4
  have HNwins := Lib.hid hwl
  have HNvls := Lib.hid hvl2
  have HNvls2 := Lib.hid hvl
  have HNports := Lib.hid hql
  clear hwl hvl2 hvl hql hpl
  have CB0 : Hid (((w.alloc (.cells #[.int .i64 hosts,.slice pA pl pc,.int .i64 major,.slice wA wl wk,.slice vA vl vc,.slice qA ql qc] 28)).alloc (.cells #[.int .i64 hosts,.slice pA2 pl pc2,.int .i64 major,.slice wA2 wl wk2,.slice vA2 vl vc2,.slice qA2 ql qc2] 28)).heap[w.heap.size]? = some (.cells #[.int .i64 hosts,.slice pA pl pc,.int .i64 major,.slice wA wl wk,.slice vA vl vc,.slice qA ql qc] 28)) := lies_alloc (heap_alloc_new w _) _
  have DB0 : Hid (((w.alloc (.cells #[.int .i64 hosts,.slice pA pl pc,.int .i64 major,.slice wA wl wk,.slice vA vl vc,.slice qA ql qc] 28)).alloc (.cells #[.int .i64 hosts,.slice pA2 pl pc2,.int .i64 major,.slice wA2 wl wk2,.slice vA2 vl vc2,.slice qA2 ql qc2] 28)).heap[w.heap.size + 1]? = some (.cells #[.int .i64 hosts,.slice pA2 pl pc2,.int .i64 major,.slice wA2 wl wk2,.slice vA2 vl vc2,.slice qA2 ql qc2] 28)) := alloc_at2 (by simp)
  have BB0 : Hid (Below w.heap.size w ((w.alloc (.cells #[.int .i64 hosts,.slice pA pl pc,.int .i64 major,.slice wA wl wk,.slice vA vl vc,.slice qA ql qc] 28)).alloc (.cells #[.int .i64 hosts,.slice pA2 pl pc2,.int .i64 major,.slice wA2 wl wk2,.slice vA2 vl vc2,.slice qA2 ql qc2] 28))) := ((Below.refl _ w).alloc (Nat.le_refl _) _).alloc (by simp) _
  go_enter Tryz.func10,Tryz.ntmps10
  go_upto_region 1 with (fail)
  have CB := CB0
  have DB := DB0
  have BB := BB0
  clear CB0 DB0 BB0
  obtain ⟨W1,hW1⟩ : ∃ W,(w.alloc (.cells #[.int .i64 hosts,.slice pA pl pc,.int .i64 major,.slice wA wl wk,.slice vA vl vc,.slice qA ql qc] 28)).alloc (.cells #[.int .i64 hosts,.slice pA2 pl pc2,.int .i64 major,.slice wA2 wl wk2,.slice vA2 vl vc2,.slice qA2 ql qc2] 28) = W := ⟨_,rfl⟩
  rw [hW1] at CB DB BB ⊢
  clear hW1
  obtain ⟨db,hdb⟩ : ∃ n,w.heap.size + 1 = n := ⟨_,rfl⟩
  obtain ⟨cb,hcb⟩ : ∃ n,w.heap.size = n := ⟨_,rfl⟩
  rw [hdb] at DB ⊢
  rw [hcb] at CB ⊢
  have hcw : w.heap.size ≤ cb := by omega
  have hdw : w.heap.size ≤ db := by omega
  clear hdb hcb
  obtain ⟨c0,c1,c2,c3,c4,c5⟩ := cells_6 CB.out
  obtain ⟨d0,d1,d2,d3,d4,d5⟩ := cells_6 DB.out
  go_wp2_with (first
    | (go_at_call 22;(with_reducible refine (HI.out _ BB.out).mono ?_);rintro e w2 ⟨rfl,hb2⟩
       (have CX := Lib.hid (lies_below CB.out hb2 (lies_lt CB.out)))
       (have DX := Lib.hid (lies_below DB.out hb2 (lies_lt DB.out)))
       (have BX := Lib.hid (BB.out.trans (hb2.mono BB.out.size)))
       (clear hb2 CB DB BB c0 c1 c2 c3 c4 c5 d0 d1 d2 d3 d4 d5)
       (have CB := CX)
       (have DB := DX)
       (have BB := BX)
       (clear CX DX BX)
       (obtain ⟨c0,c1,c2,c3,c4,c5⟩ := cells_6 CB.out)
       (obtain ⟨d0,d1,d2,d3,d4,d5⟩ := cells_6 DB.out)))
  have CBs := CB
  have DBs := DB
  have BBs := BB
  clear CB DB BB
  go_loopw [5] (fun vk wr => ∃ k : Nat,k ≤ wl ∧ vk = .int .i64 k ∧ Hid (wr.heap[cb]? = some (.cells #[.int .i64 hosts,.slice pA pl pc,.int .i64 major,.slice wA wl wk,.slice vA vl vc,.slice qA ql qc] 28)) ∧ Hid (wr.heap[db]? = some (.cells #[.int .i64 hosts,.slice pA2 pl pc2,.int .i64 major,.slice wA2 wl wk2,.slice vA2 vl vc2,.slice qA2 ql qc2] 28)) ∧ Hid (Below w.heap.size w wr)) (fun vk _ => wl - (intOf vk).toNat)
  case atStart => exact ⟨0,Nat.zero_le _,rfl,CBs,DBs,BBs⟩
  case round =>
    obtain ⟨k,hk,rfl,CB,DB,BB⟩ := hrel
    clear CBs DBs BBs c0 c1 c2 c3 c4 c5 d0 d1 d2 d3 d4 d5
    obtain ⟨c0,c1,c2,c3,c4,c5⟩ := cells_6 CB.out
    obtain ⟨d0,d1,d2,d3,d4,d5⟩ := cells_6 DB.out
    by_cases hlt : k < wl
    case pos =>
      have e1 : decide ((k : Int) < (wl : Int)) = true := decide_eq_true (by omega)
      have e1' : decide (k < wl) = true := decide_eq_true hlt
      have ikq : (k : Int) < (wl : Int) := by omega
      have hk1 : k < wins.length := by rw [HNwins.out];exact hlt
      obtain ⟨b1,o1,hA1,hb1,hat1⟩ := HIw.out.get hk1
      obtain ⟨b2,o2,hA2,hb2,hat2⟩ := HIw2.out.get hk1
      have hat1 := hat1.below BB.out hb1
      have hat2 := hat2.below BB.out hb2
      generalize wins[k] = x at hat1 hat2
      obtain ⟨m0,m1,m2⟩ := hat1
      obtain ⟨n0,n1,n2⟩ := hat2
      obtain ⟨x0,x1,x2⟩ := x;simp only at m0 m1 m2 n0 n1 n2
      subst hA1
      subst hA2
      have heq := eqW x0 x1 x2
      go_wp2
      go_quiet (fail)
      have CX : Hid ((wr.drewN nq).heap[cb]? = _) := CB.out
      have DX : Hid ((wr.drewN nq).heap[db]? = _) := DB.out
      have BX := Lib.hid (below_drewN BB.out nq)
      clear CB DB BB c0 c1 c2 c3 c4 c5 d0 d1 d2 d3 d4 d5
      go_wp2
      go_roundw
      case rel => exact ⟨k + 1,by omega,by go_num,CX,DX,BX⟩
      case measure => simp [intOf];omega
    have e1 : decide ((k : Int) < (wl : Int)) = false := decide_eq_false (by omega)
    have e1' : decide (k < wl) = false := decide_eq_false hlt
    go_wp2
    have CBs := CB
    have DBs := DB
    have BBs := BB
    clear CB DB BB
    go_loopw [6] (fun vk wr => ∃ k : Nat,k ≤ vl ∧ vk = .int .i64 k ∧ Hid (wr.heap[cb]? = some (.cells #[.int .i64 hosts,.slice pA pl pc,.int .i64 major,.slice wA wl wk,.slice vA vl vc,.slice qA ql qc] 28)) ∧ Hid (wr.heap[db]? = some (.cells #[.int .i64 hosts,.slice pA2 pl pc2,.int .i64 major,.slice wA2 wl wk2,.slice vA2 vl vc2,.slice qA2 ql qc2] 28)) ∧ Hid (Below w.heap.size w wr)) (fun vk _ => vl - (intOf vk).toNat)
    case atStart => exact ⟨0,Nat.zero_le _,rfl,CBs,DBs,BBs⟩
    case round =>
      obtain ⟨k,hk,rfl,CB,DB,BB⟩ := hrel
      clear CBs DBs BBs c0 c1 c2 c3 c4 c5 d0 d1 d2 d3 d4 d5
      obtain ⟨c0,c1,c2,c3,c4,c5⟩ := cells_6 CB.out
      obtain ⟨d0,d1,d2,d3,d4,d5⟩ := cells_6 DB.out
      by_cases hlt : k < vl
      case pos =>
        have e1 : decide ((k : Int) < (vl : Int)) = true := decide_eq_true (by omega)
        have e1' : decide (k < vl) = true := decide_eq_true hlt
        have ikq : (k : Int) < (vl : Int) := by omega
        have hk1 : k < vls.length := by rw [HNvls.out];exact hlt
        have hk2 : k < vls2.length := by rw [HNvls2.out];exact hlt
        obtain ⟨b1,o1,hA1,hb1,hat1,hto1⟩ := HIv.out.get hk1
        obtain ⟨b2,o2,hA2,hb2,hat2,hto2⟩ := HIv2.out.get hk2
        have hat1 := hat1.below BB.out hb1
        have hat2 := hat2.below BB.out hb2
        have hel := HEL.out k hk1 hk2
        have hl5 := HB5.out _ (List.getElem_mem hk1)
        generalize vls[k] = x at hat1 hto1 hel hl5
        generalize vls2[k] = y at hat2 hto2 hel
        obtain ⟨xid,xhost,xbag,xsmax,xhigh,xsubs,xskew,xA,xc,xto⟩ := x
        obtain ⟨yid,yhost,ybag,ysmax,yhigh,ysubs,yskew,yA,yc,yto⟩ := y
        injection hel with f1 f2 f3 f4 f5 f6 f7 f8
        simp only at f1 f2 f3 f4 f5 f6 f7 f8
        subst f1 f2 f3 f4 f5 f6 f7 f8
        have HI2 : Hid (∀ W,Below w.heap.size w W → Calls Tryz.prog 22 #[.slice xA xto.length xc,.slice yA xto.length yc] W fun e w' => e = .returned (.bool true) ∧ Below W.heap.size W w') := fun W hb => ints_same xA yA xc yc xto W (IntsAt.below hto1 hb) (IntsAt.below hto2 hb) hl5 _ rfl
        obtain ⟨m0,m1,m2,m3,m4,m5,m6,m7⟩ := hat1
        obtain ⟨n0,n1,n2,n3,n4,n5,n6,n7⟩ := hat2
        simp only at m0 m1 m2 m3 m4 m5 m6 m7 n0 n1 n2 n3 n4 n5 n6 n7
        clear hl5 hto1 hto2
        generalize xto.length = xn at HI2 m7 n7
        subst hA1
        subst hA2
        have CX := Lib.hid (lies_alloc (o := .cells #[.int .i64 xid,.int .i64 xhost,.int .i64 xbag,.int .i64 xsmax,.bool xhigh,.int .i64 xsubs,.int .i64 xskew,.slice yA xn yc] 60) (lies_alloc (o := .cells #[.int .i64 xid,.int .i64 xhost,.int .i64 xbag,.int .i64 xsmax,.bool xhigh,.int .i64 xsubs,.int .i64 xskew,.slice xA xn xc] 60) CB.out))
        have DX := Lib.hid (lies_alloc (o := .cells #[.int .i64 xid,.int .i64 xhost,.int .i64 xbag,.int .i64 xsmax,.bool xhigh,.int .i64 xsubs,.int .i64 xskew,.slice yA xn yc] 60) (lies_alloc (o := .cells #[.int .i64 xid,.int .i64 xhost,.int .i64 xbag,.int .i64 xsmax,.bool xhigh,.int .i64 xsubs,.int .i64 xskew,.slice xA xn xc] 60) DB.out))
        have BX : Hid (Below w.heap.size w ((wr.alloc (.cells #[.int .i64 xid,.int .i64 xhost,.int .i64 xbag,.int .i64 xsmax,.bool xhigh,.int .i64 xsubs,.int .i64 xskew,.slice xA xn xc] 60)).alloc (.cells #[.int .i64 xid,.int .i64 xhost,.int .i64 xbag,.int .i64 xsmax,.bool xhigh,.int .i64 xsubs,.int .i64 xskew,.slice yA xn yc] 60))) := (BB.out.alloc BB.out.size _).alloc (by have := BB.out.size;simp;omega) _
        have VL : Hid (((wr.alloc (.cells #[.int .i64 xid,.int .i64 xhost,.int .i64 xbag,.int .i64 xsmax,.bool xhigh,.int .i64 xsubs,.int .i64 xskew,.slice xA xn xc] 60)).alloc (.cells #[.int .i64 xid,.int .i64 xhost,.int .i64 xbag,.int .i64 xsmax,.bool xhigh,.int .i64 xsubs,.int .i64 xskew,.slice yA xn yc] 60)).heap[wr.heap.size]? = some (.cells #[.int .i64 xid,.int .i64 xhost,.int .i64 xbag,.int .i64 xsmax,.bool xhigh,.int .i64 xsubs,.int .i64 xskew,.slice xA xn xc] 60)) := lies_alloc (heap_alloc_new wr _) _
        have VR : Hid (((wr.alloc (.cells #[.int .i64 xid,.int .i64 xhost,.int .i64 xbag,.int .i64 xsmax,.bool xhigh,.int .i64 xsubs,.int .i64 xskew,.slice xA xn xc] 60)).alloc (.cells #[.int .i64 xid,.int .i64 xhost,.int .i64 xbag,.int .i64 xsmax,.bool xhigh,.int .i64 xsubs,.int .i64 xskew,.slice yA xn yc] 60)).heap[wr.heap.size + 1]? = some (.cells #[.int .i64 xid,.int .i64 xhost,.int .i64 xbag,.int .i64 xsmax,.bool xhigh,.int .i64 xsubs,.int .i64 xskew,.slice yA xn yc] 60)) := alloc_at2 (by simp)
        have hbz1 : ¬ wr.heap.size = b1 := by have := BB.out.size;omega
        have hbz2 : b2 < wr.heap.size := by have := BB.out.size;omega
        have hdz : db < wr.heap.size := lies_lt DB.out
        go_upto_region 13 with (fail)
        clear CB DB BB c0 c1 c2 c3 c4 c5 d0 d1 d2 d3 d4 d5 m0 m1 m2 m3 m4 m5 m6 m7 n0 n1 n2 n3 n4 n5 n6 n7 hbz1 hbz2 hdz
        have CB := CX
        have DB := DX
        have BB := BX
        clear CX DX BX
        obtain ⟨Wv,hWv⟩ : ∃ W,(wr.alloc (.cells #[.int .i64 xid,.int .i64 xhost,.int .i64 xbag,.int .i64 xsmax,.bool xhigh,.int .i64 xsubs,.int .i64 xskew,.slice xA xn xc] 60)).alloc (.cells #[.int .i64 xid,.int .i64 xhost,.int .i64 xbag,.int .i64 xsmax,.bool xhigh,.int .i64 xsubs,.int .i64 xskew,.slice yA xn yc] 60) = W := ⟨_,rfl⟩
        rw [hWv] at CB DB BB VL VR ⊢
        clear hWv
        obtain ⟨vr,hvr⟩ : ∃ n,wr.heap.size + 1 = n := ⟨_,rfl⟩
        rw [hvr] at VR ⊢
        clear hvr
        obtain ⟨vq,hvq⟩ : ∃ n,wr.heap.size = n := ⟨_,rfl⟩
        rw [hvq] at VL ⊢
        clear hvq
        obtain ⟨c0,c1,c2,c3,c4,c5⟩ := cells_6 CB.out
        obtain ⟨d0,d1,d2,d3,d4,d5⟩ := cells_6 DB.out
        obtain ⟨m0,m1,m2,m3,m4,m5,m6,m7⟩ := cells_8 VL.out
        obtain ⟨n0,n1,n2,n3,n4,n5,n6,n7⟩ := cells_8 VR.out
        go_wp2_with (first
          | (go_at_call 22;(with_reducible refine (HI2.out _ BB.out).mono ?_);rintro e w2 ⟨rfl,hb2⟩
             (have CX := Lib.hid (lies_below CB.out hb2 (lies_lt CB.out)))
             (have DX := Lib.hid (lies_below DB.out hb2 (lies_lt DB.out)))
             (have BX := Lib.hid (BB.out.trans (hb2.mono BB.out.size)))
             (clear hb2 CB DB BB c0 c1 c2 c3 c4 c5 d0 d1 d2 d3 d4 d5)
             (have CB := CX)
             (have DB := DX)
             (have BB := BX)
             (clear CX DX BX)
             (obtain ⟨c0,c1,c2,c3,c4,c5⟩ := cells_6 CB.out)
             (obtain ⟨d0,d1,d2,d3,d4,d5⟩ := cells_6 DB.out)))
        go_roundw
        case rel => exact ⟨k + 1,by omega,by go_num,CB,DB,BB⟩
        case measure => simp [intOf];omega
      have e1 : decide ((k : Int) < (vl : Int)) = false := decide_eq_false (by omega)
      have e1' : decide (k < vl) = false := decide_eq_false hlt
      go_wp2
      have CBs := CB
      have DBs := DB
      have BBs := BB
      clear CB DB BB
      go_loopw [9] (fun vk wr => ∃ k : Nat,k ≤ ql ∧ vk = .int .i64 k ∧ Hid (wr.heap[cb]? = some (.cells #[.int .i64 hosts,.slice pA pl pc,.int .i64 major,.slice wA wl wk,.slice vA vl vc,.slice qA ql qc] 28)) ∧ Hid (wr.heap[db]? = some (.cells #[.int .i64 hosts,.slice pA2 pl pc2,.int .i64 major,.slice wA2 wl wk2,.slice vA2 vl vc2,.slice qA2 ql qc2] 28)) ∧ Hid (Below w.heap.size w wr)) (fun vk _ => ql - (intOf vk).toNat)
      case atStart => exact ⟨0,Nat.zero_le _,rfl,CBs,DBs,BBs⟩
      case round =>
        obtain ⟨k,hk,rfl,CB,DB,BB⟩ := hrel
        clear CBs DBs BBs c0 c1 c2 c3 c4 c5 d0 d1 d2 d3 d4 d5
        obtain ⟨c0,c1,c2,c3,c4,c5⟩ := cells_6 CB.out
        obtain ⟨d0,d1,d2,d3,d4,d5⟩ := cells_6 DB.out
        by_cases hlt : k < ql
        case pos =>
          have e1 : decide ((k : Int) < (ql : Int)) = true := decide_eq_true (by omega)
          have e1' : decide (k < ql) = true := decide_eq_true hlt
          have ikq : (k : Int) < (ql : Int) := by omega
          have hk1 : k < ports.length := by rw [HNports.out];exact hlt
          obtain ⟨b1,o1,hA1,hb1,hat1⟩ := HIq.out.get hk1
          obtain ⟨b2,o2,hA2,hb2,hat2⟩ := HIq2.out.get hk1
          have hat1 := hat1.below BB.out hb1
          have hat2 := hat2.below BB.out hb2
          generalize ports[k] = x at hat1 hat2
          obtain ⟨m0,m1,m2,m3,m4,m5,m6,m7,m8,m9,m10⟩ := hat1
          obtain ⟨n0,n1,n2,n3,n4,n5,n6,n7,n8,n9,n10⟩ := hat2
          obtain ⟨b0,b1_,b2_,b3,b4,b5,b6,b7,b8,b9,b10⟩ := x;simp only at m0 m1 m2 m3 m4 m5 m6 m7 m8 m9 m10 n0 n1 n2 n3 n4 n5 n6 n7 n8 n9 n10
          subst hA1
          subst hA2
          have heq := eqPt b0 b1_ b2_ b3 b5 b6 b7 b8 b9 b10 b4
          go_wp2
          go_quiet (fail)
          have CX : Hid ((wr.drewN nq).heap[cb]? = _) := CB.out
          have DX : Hid ((wr.drewN nq).heap[db]? = _) := DB.out
          have BX := Lib.hid (below_drewN BB.out nq)
          clear CB DB BB c0 c1 c2 c3 c4 c5 d0 d1 d2 d3 d4 d5
          go_wp2
          go_roundw
          case rel => exact ⟨k + 1,by omega,by go_num,CX,DX,BX⟩
          case measure => simp [intOf];omega
        have e1 : decide ((k : Int) < (ql : Int)) = false := decide_eq_false (by omega)
        have e1' : decide (k < ql) = false := decide_eq_false hlt
        go_wp2
        go_returns
        exact ⟨rfl,BB.out⟩
end Go.Proofs.YtdgkanamceeheaaGreat.Im
set_option maxRecDepth 100000
set_option linter.unusedVariables false
namespace Go.Proofs.YtdgkanamceeheaaGreat.Im
open Go.RowKit
open PitotImg (St rd)
theorem load_ok {s : List UInt8} {c : PitotConf.Cf} (h : PitotImg.load s = .ok c) : PitotImg.cfR ((s.take (s.length - 4)).drop 6) = .ok (c,[]) := by
  unfold PitotImg.load at h
  by_cases h1 : s.length < 4
  · rw [if_pos h1] at h;cases h
  rw [if_neg h1] at h
  by_cases h3 : PitotCrc.opened s = false
  · rw [if_pos h3] at h;cases h
  rw [if_neg h3] at h
  simp only at h
  by_cases h4 : (s.take (s.length - 4)).length < 6
  · rw [if_pos h4] at h;cases h
  rw [if_neg h4] at h
  by_cases h5 : (s.take (s.length - 4)).take 6 ≠ PitotImg.magic
  · rw [if_pos h5] at h;cases h
  rw [if_neg h5] at h
  cases hc : PitotImg.cfR ((s.take (s.length - 4)).drop 6) with
  | error e => rw [hc] at h;cases h
  | ok x =>
    rw [hc] at h
    simp only at h
    by_cases h6 : x.2 ≠ []
    · rw [if_pos h6] at h;cases h
    rw [if_neg h6] at h
    by_cases h7 : (PitotConf.check x.1).2.2 ≠ 0
    · rw [if_pos h7] at h;cases h
    rw [if_neg h7] at h
    injection h with h
    obtain ⟨a,b⟩ := x
    have hb : b = [] := by simpa using h6
    have ha : a = c := h
    rw [ha,hb]
theorem loaded {s : List UInt8} (hs : s.length ≤ 5000) {c : Cx} (h : PitotImg.load s = .ok c.pl) : Sm c ∧ Im c ∧ (PitotConf.check c.pl).2.2 = 0 ∧ encRes c = .tuple #[.string ⟨s.toArray⟩,.int .i64 0] := by
  have hcf := load_ok h
  obtain ⟨b0,b1,b2,b3,b4,b5⟩ := PitotImg.cf_read hcf (by rw [List.length_drop,List.length_take];omega)
  have hsm : Sm c := sm_of2 c b0 ⟨by omega,by omega,by omega,by omega,fun v hv => by have := b5 v hv;omega⟩
  obtain ⟨h1,h2,_⟩ := PitotImg.again h
  obtain ⟨_,h3⟩ := enc_ok h2
  refine ⟨hsm,⟨hsm,fun _ => ?_⟩,h1,?_⟩
  · have e := congrArg List.length h3
    rw [PitotCrc.sealed_length] at e
    omega
  · unfold encRes
    rw [h2]
end Go.Proofs.YtdgkanamceeheaaGreat.Im
