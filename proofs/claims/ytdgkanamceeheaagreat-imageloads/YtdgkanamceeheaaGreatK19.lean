/- The program looks at the links. The program finds a link; its jitter. The contracts of the library functions that the program calls, laid over this program by the kit's own command in plain words. -/
import Derived.Test.YtdgkanamceeheaaGreatK18
import Derived.Shelf.Strings.Builder1
import Derived.Shelf.Strings.Builder2
import Derived.Shelf.Strings.OnBuilder
import Derived.Shelf.Slices.Turned
import Derived.Ground.Names2Prog
import Derived.Shelf.Slices.ReverseS
import Derived.Shelf.Slices.Clone
import Derived.Shelf.Slices.Cells
import Derived.Test.YtdgkanamceeheaaGreatProg
set_option linter.unusedVariables false
set_option maxRecDepth 100000
namespace Go.Proofs.YtdgkanamceeheaaGreat
open Go.RowKit
def aheadV (l : List Vx) : Int := match l.getLast? with
  | some u => u.id
  | none => 0
theorem aheadV_take (l : List Vx) (k : Nat) (h : k < l.length) : aheadV (l.take (k + 1)) = l[k].id := by
  rw [aheadV,List.take_succ_eq_append_getElem h,List.getLast?_append];rfl
theorem mayV_id {hosts vid vhost vbag vsmax vsubs vskew : Int} {tl : Nat} : mayV hosts vid vhost vbag vsmax vsubs vskew tl = true ↔ 1 ≤ vid ∧ vid ≤ 65535 ∧ PitotConf.isHost hosts vhost = true ∧ 0 ≤ vbag ∧ vbag ≤ 7 ∧ 64 ≤ vsmax ∧ vsmax ≤ 1518 ∧ 1 ≤ vsubs ∧ vsubs ≤ 4 ∧ 0 ≤ vskew ∧ vskew ≤ 1073741824 ∧ 0 < tl := by
  simp only [mayV,Bool.and_eq_true,decide_eq_true_eq]
  constructor
  · rintro ⟨⟨a,b⟩,c,⟨d,e⟩,⟨f,g⟩,⟨h,i⟩,⟨j,k⟩,l⟩;exact ⟨a,b,c,d,e,f,g,h,i,j,k,by omega⟩
  · rintro ⟨a,b,c,d,e,f,g,h,i,j,k,l⟩;exact ⟨⟨a,b⟩,c,⟨d,e⟩,⟨f,g⟩,⟨h,i⟩,⟨j,k⟩,by omega⟩
theorem linkJ_eq (hosts : Int) (l : List Vx) (k : Nat) (h : k < l.length) : PitotConf.linkJ hosts ((l.map Vx.pl).take k) ((l.map Vx.pl)[k]'(by simpa using h)) = if 256 ≤ k then 1 else linkP hosts (aheadV (l.take k)) l[k] := by
  have hlen : ((l.map Vx.pl).take k).length = k := by simp;omega
  have hlast : ((l.map Vx.pl).take k).getLast? = ((l.take k).getLast?).map Vx.pl := by rw [← List.map_take,List.getLast?_map]
  rw [PitotConf.linkJ,hlen,List.getElem_map,hlast]
  generalize l[k] = x
  by_cases h1 : 256 ≤ k
  · rw [if_pos (Or.inl h1),if_pos h1]
  rw [if_neg h1,linkP]
  by_cases h2 : mayV hosts x.id x.host x.bag x.smax x.subs x.skew x.to.length = false
  · rw [if_pos h2,if_pos]
    right
    apply Classical.byContradiction
    intro hh
    have : mayV hosts x.id x.host x.bag x.smax x.subs x.skew x.to.length = true := by
      rw [mayV_id]
      simp only [not_or] at hh
      obtain ⟨a,b,c,d,e,f,g,h,i,j,n,o⟩ := hh
      exact ⟨by omega,by omega,by simpa using c,by omega,by omega,by omega,by omega,by omega,by omega,by omega,by omega,List.length_pos_iff.2 o⟩
    rw [this] at h2;cases h2
  · have h2 : mayV hosts x.id x.host x.bag x.smax x.subs x.skew x.to.length = true := by simpa using h2
    have h2' := h2
    rw [mayV_id] at h2
    obtain ⟨a,b,c,d,e,f,g,hh,i,j,n,o⟩ := h2
    have hbad : ¬ (256 ≤ k ∨ x.pl.id < 1 ∨ 65535 < x.pl.id ∨ PitotConf.isHost hosts x.pl.host = false ∨ x.pl.bag < 0 ∨ 7 < x.pl.bag ∨ x.pl.smax < 64 ∨ 1518 < x.pl.smax ∨ x.pl.subs < 1 ∨ 4 < x.pl.subs ∨ x.pl.skew < 0 ∨ 1073741824 < x.pl.skew ∨ x.pl.to = []) := by
      rintro (q | q | q | q | q | q | q | q | q | q | q | q | q)
      · exact h1 q
      · have : x.id < 1 := q;omega
      · have : 65535 < x.id := q;omega
      · have q : PitotConf.isHost hosts x.host = false := q;rw [c] at q;cases q
      · have : x.bag < 0 := q;omega
      · have : 7 < x.bag := q;omega
      · have : x.smax < 64 := q;omega
      · have : 1518 < x.smax := q;omega
      · have : x.subs < 1 := q;omega
      · have : 4 < x.subs := q;omega
      · have : x.skew < 0 := q;omega
      · have : 1073741824 < x.skew := q;omega
      · have : x.to = [] := q;rw [this] at o;exact absurd o (by simp)
    rw [if_neg hbad,h2',if_neg (show ¬ (true = false) by decide),aheadV]
    cases (l.take k).getLast? with
    | none =>
      show (if false = true ∨ PitotConf.rises x.to = false then (25 : Int) else if (x.to.any fun n => !PitotConf.isHost hosts n || decide (n = x.host)) = true then 20 else 0) = (if decide (x.id ≤ 0) = true then 25 else if PitotConf.rises x.to = false then 25 else if (x.to.any fun n => !PitotConf.isHost hosts n || decide (n = x.host)) = true then 20 else 0)
      rw [if_neg (show ¬ decide (x.id ≤ 0) = true by simp;omega)]
      by_cases h5 : PitotConf.rises x.to = false
      · rw [if_pos (Or.inr h5),if_pos h5]
      · rw [if_neg (by rintro (h | h);cases h;exact h5 h),if_neg h5]
    | some u =>
      show (if decide (x.id ≤ u.id) = true ∨ PitotConf.rises x.to = false then (25 : Int) else if (x.to.any fun n => !PitotConf.isHost hosts n || decide (n = x.host)) = true then 20 else 0) = (if decide (x.id ≤ u.id) = true then 25 else if PitotConf.rises x.to = false then 25 else if (x.to.any fun n => !PitotConf.isHost hosts n || decide (n = x.host)) = true then 20 else 0)
      by_cases h4 : decide (x.id ≤ u.id) = true
      · rw [if_pos (Or.inl h4),if_pos h4]
      · rw [if_neg h4]
        by_cases h5 : PitotConf.rises x.to = false
        · rw [if_pos (Or.inr h5),if_pos h5]
        · rw [if_neg (by rintro (h | h);exact h4 h;exact h5 h),if_neg h5]
set_option maxHeartbeats 4000000 in
theorem judgeVLs_any (c : Cx) (w : World) (hc : c.Held w) (hl : c.vls.length ≤ maxLen) (htl : ∀ v ∈ c.vls,v.to.length ≤ maxLen) (h0 : -9223372036854775807 ≤ c.hosts ∧ c.hosts ≤ 9223372036854775807) : Calls Tryz.prog 32 #[c.val] w fun e w' => e = .returned (judged (told (PitotConf.scan (PitotConf.linkJ c.hosts) [] (c.vls.map Vx.pl)))) ∧ Below w.heap.size w w' := by
  unfold maxLen at hl
  have HV : Hid (VxsAt w c.vlsA c.vls) := hc.2.2.1
  have HTL := Lib.hid htl
  clear hc htl
  obtain ⟨R,HR⟩ : ∃ R,Hid (told (PitotConf.scan (PitotConf.linkJ c.hosts) [] (c.vls.map Vx.pl)) = R) := ⟨_,rfl⟩
  rw [HR.out]
  obtain ⟨hosts,pA,pc,parts,major,wA,wk,wins,vA,vc,vls,qA,qc,ports⟩ := c
  simp only at HV HR hl h0 HTL ⊢
  obtain ⟨m,Hm⟩ : ∃ m,Hid (vls.length = m) := ⟨_,rfl⟩
  show Calls Tryz.prog 32 #[.agg #[.int .i64 hosts,.slice pA parts.length pc,.int .i64 major,.slice wA wins.length wk,.slice vA vls.length vc,.slice qA ports.length qc]] w _
  rw [Hm.out] at hl ⊢
  generalize wins.length = wl,parts.length = pl,ports.length = ql
  obtain ⟨ra,re⟩ := R
  have HJ := Lib.hid (fun vid vhost vbag vsmax vsubs vskew vhigh tA tl tc tolx ahead w => judgeVL_any hosts major pA wA vA qA pl pc wl wk m vc ql qc vid vhost vbag vsmax vsubs vskew vhigh tA tl tc tolx ahead w h0.1 h0.2)
  have CB0 : Hid ((w.alloc (.cells #[.int .i64 hosts,.slice pA pl pc,.int .i64 major,.slice wA wl wk,.slice vA m vc,.slice qA ql qc] 28)).heap[w.heap.size]? = some (.cells #[.int .i64 hosts,.slice pA pl pc,.int .i64 major,.slice wA wl wk,.slice vA m vc,.slice qA ql qc] 28)) := heap_alloc_new w _
  have BB0 : Hid (Below w.heap.size w (w.alloc (.cells #[.int .i64 hosts,.slice pA pl pc,.int .i64 major,.slice wA wl wk,.slice vA m vc,.slice qA ql qc] 28))) := (Below.refl _ w).alloc (Nat.le_refl _) _
  go_enter Tryz.func32,Tryz.ntmps32
  go_wp2
  go_loopw [4,11] (fun v4 v11 wr => ∃ k : Nat,k ≤ m ∧ v11 = .int .i64 k ∧ v4 = .int .i64 (aheadV (vls.take k)) ∧ Hid (told (PitotConf.scan (PitotConf.linkJ hosts) ((vls.map Vx.pl).take k) ((vls.map Vx.pl).drop k)) = (ra,re)) ∧ wr.heap[w.heap.size]? = some (.cells #[.int .i64 hosts,.slice pA pl pc,.int .i64 major,.slice wA wl wk,.slice vA m vc,.slice qA ql qc] 28) ∧ Below w.heap.size w wr) (fun _ v11 _ => m - (intOf v11).toNat)
  case atStart => exact ⟨0,Nat.zero_le _,rfl,rfl,HR,CB0.out,BB0.out⟩
  case round =>
    obtain ⟨k,hk,rfl,rfl,ht,hC,hB⟩ := hrel
    have HB := Lib.hid hB;have HC := Lib.hid hC
    clear hB hC CB0 BB0
    obtain ⟨c0,c1,c2,c3,c4,c5⟩ := cells_6 HC.out
    by_cases hkm : k < m
    · have hkl : k < vls.length := by rw [Hm.out];exact hkm
      have e1 : decide ((k : Int) < (m : Int)) = true := decide_eq_true (by omega)
      have e1' : decide (k < m) = true := decide_eq_true hkm
      obtain ⟨b,off,rfl,hb,hat,hxh⟩ := HV.out.get hkl
      have hat := hat.below HB.out hb
      have hs := scan_step (PitotConf.linkJ hosts) (vls.map Vx.pl) k (by simpa using hkl)
      rw [linkJ_eq hosts vls k hkl] at hs
      have hah := aheadV_take vls k hkl
      have hxl := HTL.out _ (List.getElem_mem hkl)
      generalize aheadV (vls.take k) = ahead at hs ⊢
      generalize vls[k] = x at hat hs hxh hah hxl
      have HTo : Hid (IntsAt wr x.toA x.to) := IntsAt.below hxh HB.out
      obtain ⟨tol,Htol⟩ : ∃ tol,Hid (x.to.length = tol) := ⟨_,rfl⟩
      have HJ2 := fun W (hb : Below wr.heap.size wr W) => HJ.out x.id x.host x.bag x.smax x.subs x.skew x.high x.toA tol x.toc x.to ahead W (IntsAt.below HTo.out hb) Htol.out (by rw [← Htol.out];exact hxl)
      have HLE : linkP hosts ahead ⟨x.id,x.host,x.bag,x.smax,x.high,x.subs,x.skew,x.toA,x.toc,x.to⟩ = linkP hosts ahead x := rfl
      rw [HLE] at HJ2
      generalize linkP hosts ahead x = J at HJ2 hs
      have HJ3 := Lib.hid HJ2
      clear HJ2 HLE hxh
      unfold VxAt at hat
      rw [Htol.out] at hat
      obtain ⟨a0,a1,a2,a3,a4,a5,a6,a7⟩ := hat
      have HAH := Lib.hid hah
      have HS := Lib.hid hs
      clear hah hs
      obtain ⟨xid,Hxid⟩ : ∃ xid,Hid (x.id = xid) := ⟨_,rfl⟩
      rw [Hxid.out] at a0 HJ3 HAH
      generalize x.host = xhost,x.bag = xbag,x.smax = xsmax,x.high = xhigh,x.subs = xsubs,x.skew = xskew,x.toA = xA,x.toc = xtc at a1 a2 a3 a4 a5 a6 a7 HJ3
      go_upto_region 5 with (fail)
      have CB : Hid ((wr.alloc (.cells #[.int .i64 xid,.int .i64 xhost,.int .i64 xbag,.int .i64 xsmax,.bool xhigh,.int .i64 xsubs,.int .i64 xskew,.slice xA tol xtc] 60)).heap[w.heap.size]? = some (.cells #[.int .i64 hosts,.slice pA pl pc,.int .i64 major,.slice wA wl wk,.slice (some ⟨b,off,none⟩) m vc,.slice qA ql qc] 28)) := lies_alloc HC.out _
      have XB : Hid ((wr.alloc (.cells #[.int .i64 xid,.int .i64 xhost,.int .i64 xbag,.int .i64 xsmax,.bool xhigh,.int .i64 xsubs,.int .i64 xskew,.slice xA tol xtc] 60)).heap[wr.heap.size]? = some (.cells #[.int .i64 xid,.int .i64 xhost,.int .i64 xbag,.int .i64 xsmax,.bool xhigh,.int .i64 xsubs,.int .i64 xskew,.slice xA tol xtc] 60)) := heap_alloc_new wr _
      have AB : Hid (Below wr.heap.size wr (wr.alloc (.cells #[.int .i64 xid,.int .i64 xhost,.int .i64 xbag,.int .i64 xsmax,.bool xhigh,.int .i64 xsubs,.int .i64 xskew,.slice xA tol xtc] 60))) := (Below.refl _ wr).alloc (Nat.le_refl _) _
      have BB : Hid (Below w.heap.size w (wr.alloc (.cells #[.int .i64 xid,.int .i64 xhost,.int .i64 xbag,.int .i64 xsmax,.bool xhigh,.int .i64 xsubs,.int .i64 xskew,.slice xA tol xtc] 60))) := HB.out.trans (AB.out.mono HB.out.size)
      clear a0 a1 a2 a3 a4 a5 a6 a7 c0 c1 c2 c3 c4 c5
      have HXL : Hid (wr.heap.size = wr.heap.size) := rfl
      have HJ4 := Lib.hid (HJ3.out _ AB.out)
      clear HJ3
      generalize wr.alloc (.cells #[.int .i64 xid,.int .i64 xhost,.int .i64 xbag,.int .i64 xsmax,.bool xhigh,.int .i64 xsubs,.int .i64 xskew,.slice xA tol xtc] 60) = W1 at CB XB BB HJ4 ⊢
      clear AB
      generalize wr.heap.size = xb at XB ⊢
      obtain ⟨c0,c1,c2,c3,c4,c5⟩ := cells_6 CB.out
      obtain ⟨x0,x1,x2,x3,x4,x5,x6,x7⟩ := cells_8 XB.out
      by_cases g0 : 256 ≤ k
      · have f0 : decide (256 ≤ (k : Int)) = true := decide_eq_true (by omega)
        have f0' : decide (256 ≤ k) = true := decide_eq_true g0
        have HT : Hid (((k : Int),(1 : Int)) = (ra,re)) := by
          show _ = _
          rw [← ht.out,HS.out,if_pos g0,if_neg (by decide)];rfl
        clear ht
        go_wp2
        go_returns
        have := HT.out
        injection this with h1 h2
        subst h1;subst h2
        exact ⟨rfl,BB.out⟩
      · have f0 : decide (256 ≤ (k : Int)) = false := decide_eq_false (by omega)
        have f0' : decide (256 ≤ k) = false := decide_eq_false g0
        have hs := HS.out
        rw [if_neg g0] at hs
        by_cases g1 : J = 0
        · have f1 : (J == 0) = true := by rw [g1];rfl
          have HT : Hid (told (PitotConf.scan (PitotConf.linkJ hosts) ((vls.map Vx.pl).take (k + 1)) ((vls.map Vx.pl).drop (k + 1))) = (ra,re)) := by
            show _ = _
            rw [← ht.out,hs,if_pos g1]
          clear ht hs HS g1
          go_wp2_with (first
            | (go_at_call 78;(with_reducible refine (HJ4.out).mono ?_);rintro e w2 ⟨rfl,hb2⟩
               (have C2 := Lib.hid (lies_below CB.out hb2 (lies_lt CB.out)))
               (have X2 := Lib.hid (lies_below XB.out hb2 (lies_lt XB.out)))
               (have B2 := Lib.hid (BB.out.trans (hb2.mono BB.out.size)))
               (clear hb2 CB XB BB c0 c1 c2 c3 c4 c5 x0 x1 x2 x3 x4 x5 x6 x7)
               (have CB := C2)
               (have XB := X2)
               (have BB := B2)
               (clear C2 X2 B2)
               (obtain ⟨c0,c1,c2,c3,c4,c5⟩ := cells_6 CB.out)
               (obtain ⟨x0,x1,x2,x3,x4,x5,x6,x7⟩ := cells_8 XB.out)))
          go_roundw
          case rel => exact ⟨k + 1,by omega,by go_num,by rw [HAH.out],HT,CB.out,BB.out⟩
          case measure => simp [intOf];omega
        · have f1 : (J == 0) = false := by simpa using g1
          have HT : Hid (((k : Int),J) = (ra,re)) := by
            show _ = _
            rw [← ht.out,hs,if_neg g1];rfl
          clear ht hs HS g1
          go_wp2_with (first
            | (go_at_call 78;(with_reducible refine (HJ4.out).mono ?_);rintro e w2 ⟨rfl,hb2⟩
               (have C2 := Lib.hid (lies_below CB.out hb2 (lies_lt CB.out)))
               (have X2 := Lib.hid (lies_below XB.out hb2 (lies_lt XB.out)))
               (have B2 := Lib.hid (BB.out.trans (hb2.mono BB.out.size)))
               (clear hb2 CB XB BB c0 c1 c2 c3 c4 c5 x0 x1 x2 x3 x4 x5 x6 x7)
               (have CB := C2)
               (have XB := X2)
               (have BB := B2)
               (clear C2 X2 B2)
               (obtain ⟨c0,c1,c2,c3,c4,c5⟩ := cells_6 CB.out)
               (obtain ⟨x0,x1,x2,x3,x4,x5,x6,x7⟩ := cells_8 XB.out)))
          go_returns
          have := HT.out
          injection this with h1 h2
          subst h1;subst h2
          exact ⟨rfl,BB.out⟩
    · have e1 : decide ((k : Int) < (m : Int)) = false := decide_eq_false (by omega)
      have e1' : decide (k < m) = false := decide_eq_false hkm
      have HT : Hid (((0 : Int),(0 : Int)) = (ra,re)) := by
        show _ = _
        rw [← ht.out,scan_end _ _ _ (by rw [List.length_map,Hm.out];omega)];rfl
      clear ht
      go_wp2
      go_returns
      have := HT.out
      injection this with h1 h2
      subst h1;subst h2
      exact ⟨rfl,HB.out⟩
end Go.Proofs.YtdgkanamceeheaaGreat
set_option maxRecDepth 100000
namespace Go.Proofs.YtdgkanamceeheaaGreat
open Go.RowKit
theorem isId_any (vid vhost vbag vsmax vsubs vskew : Int) (vhigh : Bool) (tA : Option Addr) (tl tc : Nat) (ib : Nat) (id : Int) (W : World) (hI : W.heap[ib]? = some (.cells #[.int .i64 id] 3)) : Calls Tryz.prog 122 #[.agg #[.int .i64 vid,.int .i64 vhost,.int .i64 vbag,.int .i64 vsmax,.bool vhigh,.int .i64 vsubs,.int .i64 vskew,.slice tA tl tc],.pointer (some ⟨ib,0,none⟩)] W fun e w' => e = .returned (.bool (decide (vid = id))) ∧ Below W.heap.size W w' := by
  have kb : Hid (Below W.heap.size W (W.alloc (.cells #[.int .i64 vid,.int .i64 vhost,.int .i64 vbag,.int .i64 vsmax,.bool vhigh,.int .i64 vsubs,.int .i64 vskew,.slice tA tl tc] 60))) := (Below.refl _ W).alloc (Nat.le_refl _) _
  have hi := lies_cell hI 0
  have hlt := lies_lt hI
  have hi2 : (W.alloc (.cells #[.int .i64 vid,.int .i64 vhost,.int .i64 vbag,.int .i64 vsmax,.bool vhigh,.int .i64 vsubs,.int .i64 vskew,.slice tA tl tc] 60)).cell? ⟨ib,0,none⟩ = some (.int .i64 id) := (kb.out.cell hlt).trans hi
  obtain ⟨E,hE⟩ : ∃ E,decide (vid = id) = E := ⟨_,rfl⟩
  have hE' : (vid == id) = E := by rw [← hE];rfl
  rw [hE]
  clear hi hI
  go_enter Tryz.func122,Tryz.ntmps122
  go_wp2
  go_returns
  exact ⟨rfl,kb.out⟩
def FoundV (l : List Vx) (id : Int) (r : Int) : Prop := (r = -1 ∧ findVx l id = none) ∨ ∃ k,∃ h : k < l.length,r = k ∧ findVx l id = some l[k]
set_option maxHeartbeats 2000000 in
theorem findV_any (vA : Option Addr) (m vc ib : Nat) (vls : List Vx) (id : Int) (W : World) (hV : VxsAt W vA vls) (hm : vls.length = m) (hl : m ≤ maxLen) (hI : W.heap[ib]? = some (.cells #[.int .i64 id] 3)) : Calls Tryz.prog 121 #[.slice vA m vc,.func (.func 122) #[] #[.pointer (some ⟨ib,0,none⟩)]] W fun e w' => (∃ r : Int,e = .returned (.int .i64 r) ∧ FoundV vls id r) ∧ Below W.heap.size W w' := by
  unfold maxLen at hl
  have HQ : Hid (∀ (vid vhost vbag vsmax vsubs vskew : Int) (vhigh : Bool) (tA : Option Addr) (tl tc : Nat) (w' : World),Below W.heap.size W w' → Calls Tryz.prog 122 #[.agg #[.int .i64 vid,.int .i64 vhost,.int .i64 vbag,.int .i64 vsmax,.bool vhigh,.int .i64 vsubs,.int .i64 vskew,.slice tA tl tc],.pointer (some ⟨ib,0,none⟩)] w' fun e w'' => e = .returned (.bool (decide (vid = id))) ∧ Below w'.heap.size w' w'') := fun vid vhost vbag vsmax vsubs vskew vhigh tA tl tc w' hb => isId_any vid vhost vbag vsmax vsubs vskew vhigh tA tl tc ib id w' (lies_below hI hb (lies_lt hI))
  have HV := Lib.hid hV
  have Hm := Lib.hid hm
  clear hI hV hm
  go_enter Tryz.func121,Tryz.ntmps121
  go_wp2
  go_loopw [8] (fun v8 wr => ∃ k : Nat,k ≤ m ∧ v8 = .int .i64 k ∧ Hid (findVx vls id = findVx (vls.drop k) id) ∧ Below W.heap.size W wr) (fun v8 _ => m - (intOf v8).toNat)
  case atStart => exact ⟨0,Nat.zero_le _,rfl,rfl,Below.refl _ _⟩
  case round =>
    obtain ⟨k,hk,rfl,ht,hB⟩ := hrel
    have HB := Lib.hid hB;clear hB
    by_cases hkm : k < m
    · have hkl : k < vls.length := by rw [Hm.out];exact hkm
      have e1 : decide ((k : Int) < (m : Int)) = true := decide_eq_true (by omega)
      have e1' : decide (k < m) = true := decide_eq_true hkm
      obtain ⟨b,off,rfl,hb,hat,_⟩ := HV.out.get hkl
      have hat := hat.below HB.out hb
      have hs : findVx (vls.drop k) id = if decide (vls[k].id = id) = true then some vls[k] else findVx (vls.drop (k + 1)) id := by
        rw [List.drop_eq_getElem_cons hkl,findVx,List.find?_cons]
        cases decide (vls[k].id = id) <;> rfl
      have hF : ∀ x,findVx vls id = some x → x = vls[k] → FoundV vls id k := fun x h1 h2 => .inr ⟨k,hkl,rfl,by rw [h1,h2]⟩
      generalize vls[k] = x at hat hs hF
      have HC := HQ.out x.id x.host x.bag x.smax x.subs x.skew x.high x.toA x.to.length x.toc wr HB.out
      obtain ⟨a0,a1,a2,a3,a4,a5,a6,a7⟩ := hat
      cases hx : decide (x.id = id)
      · rw [hx] at HC hs
        have HC := Lib.hid HC
        have HT2 : Hid (findVx vls id = findVx (vls.drop (k + 1)) id) := by show _ = _;rw [ht.out,hs];rfl
        clear hs hx ht hF
        go_wp2_with (go_at_call 122;(with_reducible refine (HC.out).mono ?_);rintro e w2 ⟨rfl,hb2⟩)
        have HB2 := Lib.hid (HB.out.trans (hb2.mono HB.out.size))
        clear hb2
        go_roundw
        case rel => exact ⟨k + 1,by omega,by go_num,HT2,HB2.out⟩
        case measure => simp [intOf];omega
      · rw [hx] at HC hs
        have HC := Lib.hid HC
        have HT2 : Hid (FoundV vls id k) := hF x (by rw [ht.out,hs];rfl) rfl
        clear hs hx ht hF
        go_wp2_with (go_at_call 122;(with_reducible refine (HC.out).mono ?_);rintro e w2 ⟨rfl,hb2⟩)
        go_returns
        exact ⟨⟨_,rfl,HT2.out⟩,HB.out.trans (hb2.mono HB.out.size)⟩
    · have e1 : decide ((k : Int) < (m : Int)) = false := decide_eq_false (by omega)
      have e1' : decide (k < m) = false := decide_eq_false hkm
      have HT2 : Hid (FoundV vls id (-1)) := .inl ⟨rfl,by rw [ht.out,List.drop_of_length_le (by rw [Hm.out];omega)];rfl⟩
      clear ht
      go_wp2
      go_returns
      exact ⟨⟨_,rfl,HT2.out⟩,HB.out⟩
set_option maxHeartbeats 4000000 in
theorem jitterP_any (c : Cx) (h : Int) (w : World) (hc : c.Held w) (hl : c.vls.length ≤ 400) (hs : ∀ v ∈ c.vls,0 ≤ v.smax ∧ v.smax ≤ 10000) : Calls Tryz.prog 80 #[c.val,.int .i64 h] w fun e w' => e = .returned (.int .i64 (PitotConf.jitter (c.vls.map Vx.pl) h)) ∧ Below w.heap.size w w' := by
  have HV : Hid (VxsAt w c.vlsA c.vls) := hc.2.2.1
  obtain ⟨R,HR⟩ : ∃ R,Hid (PitotConf.jitter (c.vls.map Vx.pl) h = R) := ⟨_,rfl⟩
  rw [HR.out]
  have HS := Lib.hid hs
  clear hc hs
  obtain ⟨hosts,pA,pc,parts,major,wA,wk,wins,vA,vc,vls,qA,qc,ports⟩ := c
  simp only at HV HR HS hl ⊢
  obtain ⟨m,Hm⟩ : ∃ m,Hid (vls.length = m) := ⟨_,rfl⟩
  show Calls Tryz.prog 80 #[.agg #[.int .i64 hosts,.slice pA parts.length pc,.int .i64 major,.slice wA wins.length wk,.slice vA vls.length vc,.slice qA ports.length qc],.int .i64 h] w _
  rw [Hm.out] at hl ⊢
  generalize wins.length = wl,parts.length = pl,ports.length = ql
  have BB0 : Hid (Below w.heap.size w (w.alloc (.cells #[.int .i64 hosts,.slice pA pl pc,.int .i64 major,.slice wA wl wk,.slice vA m vc,.slice qA ql qc] 28))) := (Below.refl _ w).alloc (Nat.le_refl _) _
  go_enter Tryz.func80,Tryz.ntmps80
  go_wp2
  go_loopw [5,11] (fun v5 v11 wr => ∃ k : Nat,k ≤ m ∧ v11 = .int .i64 k ∧ v5 = .int .i64 (PitotConf.jitter ((vls.take k).map Vx.pl) h) ∧ Below w.heap.size w wr) (fun _ v11 _ => m - (intOf v11).toNat)
  case atStart => exact ⟨0,Nat.zero_le _,rfl,rfl,BB0.out⟩
  case round =>
    obtain ⟨k,hk,rfl,rfl,hB⟩ := hrel
    have HB := Lib.hid hB;clear hB BB0
    have hjl := PitotConf.jitter_le (l := (vls.take k).map Vx.pl) (fun v hv => by obtain ⟨u,hu,rfl⟩ := List.mem_map.1 hv;exact (HS.out u (List.mem_of_mem_take hu)).2) (fun v hv => by obtain ⟨u,hu,rfl⟩ := List.mem_map.1 hv;exact (HS.out u (List.mem_of_mem_take hu)).1) h
    have hlt : ((vls.take k).map Vx.pl).length ≤ 400 := by rw [List.length_map,List.length_take];omega
    by_cases hkm : k < m
    · have hkl : k < vls.length := by rw [Hm.out];exact hkm
      have e1 : decide ((k : Int) < (m : Int)) = true := decide_eq_true (by omega)
      have e1' : decide (k < m) = true := decide_eq_true hkm
      obtain ⟨b,off,rfl,hb,hat,_⟩ := HV.out.get hkl
      have hat := hat.below HB.out hb
      have hst : (vls.take (k + 1)).map Vx.pl = (vls.take k).map Vx.pl ++ [vls[k].pl] := by rw [List.take_succ_eq_append_getElem hkl,List.map_append];rfl
      have hj := PitotConf.jitter_snoc ((vls.take k).map Vx.pl) vls[k].pl h
      rw [← hst] at hj
      have hsx := HS.out _ (List.getElem_mem hkl)
      generalize vls[k] = x at hat hj hsx
      have HJ := Lib.hid hj
      clear hst hj
      obtain ⟨J,HJJ⟩ : ∃ J,Hid (PitotConf.jitter ((vls.take k).map Vx.pl) h = J) := ⟨_,rfl⟩
      rw [HJJ.out] at hjl ⊢
      obtain ⟨a0,a1,a2,a3,a4,a5,a6,a7⟩ := hat
      have HJ2 : Hid (PitotConf.jitter ((vls.take (k + 1)).map Vx.pl) h = if x.host = h then J + x.smax + 20 else J) := by
        show _ = _
        rw [HJ.out]
        simp only [HJJ.out]
      clear HJ
      generalize x.id = xid,x.host = xhost,x.bag = xbag,x.smax = xsmax,x.high = xhigh,x.subs = xsubs,x.skew = xskew,x.toA = xA,x.toc = xtc,x.to.length = tol at a0 a1 a2 a3 a4 a5 a6 a7 HJ2 hsx
      have BB : Hid (Below w.heap.size w (wr.alloc (.cells #[.int .i64 xid,.int .i64 xhost,.int .i64 xbag,.int .i64 xsmax,.bool xhigh,.int .i64 xsubs,.int .i64 xskew,.slice xA tol xtc] 60))) := HB.out.trans (((Below.refl _ wr).alloc (Nat.le_refl _) _).mono HB.out.size)
      have w1 : IntKind.i64.wrap (xsmax + 20) = xsmax + 20 := IntWalk.i64_in _ (by omega)
      have w2 : IntKind.i64.wrap (J + (xsmax + 20)) = J + (xsmax + 20) := IntWalk.i64_in _ (by omega)
      by_cases e : xhost = h
      · have e2 : (xhost == h) = true := by simpa using e
        have HT : Hid (PitotConf.jitter ((vls.take (k + 1)).map Vx.pl) h = J + (xsmax + 20)) := by show _ = _;rw [HJ2.out,if_pos e];omega
        clear e HJ2
        go_wp2
        go_roundw
        case rel => exact ⟨k + 1,by omega,by go_num,by rw [HT.out],BB.out⟩
        case measure => simp [intOf];omega
      · have e2 : (xhost == h) = false := by simpa using e
        have HT : Hid (PitotConf.jitter ((vls.take (k + 1)).map Vx.pl) h = J) := by show _ = _;rw [HJ2.out,if_neg e]
        clear e HJ2
        go_wp2
        go_roundw
        case rel => exact ⟨k + 1,by omega,by go_num,by rw [HT.out],BB.out⟩
        case measure => simp [intOf];omega
    · have e1 : decide ((k : Int) < (m : Int)) = false := decide_eq_false (by omega)
      have e1' : decide (k < m) = false := decide_eq_false hkm
      have HT : Hid (PitotConf.jitter ((vls.take k).map Vx.pl) h = R) := by show _ = _;rw [List.take_of_length_le (by rw [Hm.out];omega),HR.out]
      rw [HT.out]
      go_wp2
      go_returns
      exact ⟨rfl,HB.out⟩
def toldJ (o : Option Nat) : Int × Int := match o with
  | some h => ((h : Int),26)
  | none => (0,0)
theorem jitF_some {vls : List PitotConf.Vl} {hosts : Int} {k : Nat} (hk : (k : Int) < hosts) (h : 6250 < PitotConf.jitter vls k) (hb : ∀ j : Nat,j < k → PitotConf.jitter vls j ≤ 6250) : PitotConf.jitF vls hosts = some k := by
  unfold PitotConf.jitF
  rw [List.find?_range_eq_some]
  refine ⟨by simpa using h,List.mem_range.2 (by omega),fun j hj => ?_⟩
  have := hb j hj
  simp only [Bool.not_eq_true',decide_eq_false_iff_not]
  omega
set_option maxHeartbeats 2000000 in
theorem judgeJitters_any (c : Cx) (w : World) (hc : c.Held w) (hl : c.vls.length ≤ 400) (hs : ∀ v ∈ c.vls,0 ≤ v.smax ∧ v.smax ≤ 10000) (hh : 0 ≤ c.hosts ∧ c.hosts ≤ 1000) : Calls Tryz.prog 34 #[c.val] w fun e w' => e = .returned (judged (toldJ (PitotConf.jitF (c.vls.map Vx.pl) c.hosts))) ∧ Below w.heap.size w w' := by
  have HJ : Hid (∀ (h : Int) (w' : World),Below w.heap.size w w' → Calls Tryz.prog 80 #[c.val,.int .i64 h] w' fun e w'' => e = .returned (.int .i64 (PitotConf.jitter (c.vls.map Vx.pl) h)) ∧ Below w'.heap.size w' w'') := fun h w' hb => jitterP_any c h w' (hc.below hb) hl hs
  clear hc hl hs
  obtain ⟨R,HR⟩ : ∃ R,Hid (toldJ (PitotConf.jitF (c.vls.map Vx.pl) c.hosts) = R) := ⟨_,rfl⟩
  rw [HR.out]
  obtain ⟨hosts,pA,pc,parts,major,wA,wk,wins,vA,vc,vls,qA,qc,ports⟩ := c
  simp only at HJ HR hh ⊢
  show Calls Tryz.prog 34 #[.agg #[.int .i64 hosts,.slice pA parts.length pc,.int .i64 major,.slice wA wins.length wk,.slice vA vls.length vc,.slice qA ports.length qc]] w _
  have HJ : Hid (∀ (h : Int) (w' : World),Below w.heap.size w w' → Calls Tryz.prog 80 #[.agg #[.int .i64 hosts,.slice pA parts.length pc,.int .i64 major,.slice wA wins.length wk,.slice vA vls.length vc,.slice qA ports.length qc],.int .i64 h] w' fun e w'' => e = .returned (.int .i64 (PitotConf.jitter (vls.map Vx.pl) h)) ∧ Below w'.heap.size w' w'') := HJ
  generalize wins.length = wl,parts.length = pl,ports.length = ql,vls.length = vl at HJ ⊢
  generalize hj : (fun h => PitotConf.jitter (vls.map Vx.pl) h) = jf at HJ
  have HJF : Hid (∀ h,PitotConf.jitter (vls.map Vx.pl) h = jf h) := fun h => by rw [← hj]
  have HJ : Hid (∀ (h : Int) (w' : World),Below w.heap.size w w' → Calls Tryz.prog 80 #[.agg #[.int .i64 hosts,.slice pA pl pc,.int .i64 major,.slice wA wl wk,.slice vA vl vc,.slice qA ql qc],.int .i64 h] w' fun e w'' => e = .returned (.int .i64 (jf h)) ∧ Below w'.heap.size w' w'') := by rw [← hj];exact HJ
  clear hj
  obtain ⟨ra,re⟩ := R
  have CB0 : Hid ((w.alloc (.cells #[.int .i64 hosts,.slice pA pl pc,.int .i64 major,.slice wA wl wk,.slice vA vl vc,.slice qA ql qc] 28)).heap[w.heap.size]? = some (.cells #[.int .i64 hosts,.slice pA pl pc,.int .i64 major,.slice wA wl wk,.slice vA vl vc,.slice qA ql qc] 28)) := heap_alloc_new w _
  have BB0 : Hid (Below w.heap.size w (w.alloc (.cells #[.int .i64 hosts,.slice pA pl pc,.int .i64 major,.slice wA wl wk,.slice vA vl vc,.slice qA ql qc] 28))) := (Below.refl _ w).alloc (Nat.le_refl _) _
  go_enter Tryz.func34,Tryz.ntmps34
  go_wp2
  go_loopw [7] (fun v7 wr => ∃ k : Nat,(k : Int) ≤ hosts ∧ v7 = .int .i64 k ∧ Hid (∀ j : Nat,j < k → jf j ≤ 6250) ∧ wr.heap[w.heap.size]? = some (.cells #[.int .i64 hosts,.slice pA pl pc,.int .i64 major,.slice wA wl wk,.slice vA vl vc,.slice qA ql qc] 28) ∧ Below w.heap.size w wr) (fun v7 _ => hosts.toNat - (intOf v7).toNat)
  case atStart => exact ⟨0,hh.1,rfl,fun j hj => absurd hj (Nat.not_lt_zero j),CB0.out,BB0.out⟩
  case round =>
    obtain ⟨k,hk,rfl,ht,hC,hB⟩ := hrel
    have HB := Lib.hid hB;have HC := Lib.hid hC
    clear hB hC CB0 BB0
    obtain ⟨c0,c1,c2,c3,c4,c5⟩ := cells_6 HC.out
    by_cases hkm : (k : Int) < hosts
    · have e1 : decide ((k : Int) < hosts) = true := decide_eq_true hkm
      have HJ2 := HJ.out k wr HB.out
      obtain ⟨J,hJ⟩ : ∃ J,jf k = J := ⟨_,rfl⟩
      rw [hJ] at HJ2
      have HJ2 := Lib.hid HJ2
      by_cases g : 6250 < J
      · have f1 : decide (6250 < J) = true := decide_eq_true g
        have HT : Hid (((k : Int),(26 : Int)) = (ra,re)) := by
          show _ = _
          rw [← HR.out,jitF_some hkm (by rw [HJF.out,hJ];exact g) (fun j hj => by rw [HJF.out];exact ht.out j hj)];rfl
        clear ht g hJ
        go_wp2_with (go_at_call 80;(with_reducible refine (HJ2.out).mono ?_);rintro e w2 ⟨rfl,hb2⟩)
        go_returns
        have := HT.out
        injection this with h1 h2
        subst h1;subst h2
        exact ⟨rfl,HB.out.trans (hb2.mono HB.out.size)⟩
      · have f1 : decide (6250 < J) = false := decide_eq_false g
        have HT : Hid (∀ j : Nat,j < k + 1 → jf j ≤ 6250) := fun j hj => by
          by_cases e : j = k
          · rw [e,hJ];omega
          · exact ht.out j (by omega)
        clear ht g hJ
        go_wp2_with (go_at_call 80;(with_reducible refine (HJ2.out).mono ?_);rintro e w2 ⟨rfl,hb2⟩)
        have HB2 := Lib.hid (HB.out.trans (hb2.mono HB.out.size))
        have HC2 := Lib.hid (lies_below HC.out hb2 (lies_lt HC.out))
        clear hb2
        go_roundw
        case rel => exact ⟨k + 1,by omega,by go_num,HT,HC2.out,HB2.out⟩
        case measure => simp [intOf];omega
    · have e1 : decide ((k : Int) < hosts) = false := decide_eq_false hkm
      have HT : Hid (((0 : Int),(0 : Int)) = (ra,re)) := by
        show _ = _
        rw [← HR.out,PitotConf.jitF_none.2 (fun h hh2 => by rw [HJF.out];exact ht.out h (by omega))];rfl
      clear ht
      go_wp2
      go_returns
      have := HT.out
      injection this with h1 h2
      subst h1;subst h2
      exact ⟨rfl,HB.out⟩
end Go.Proofs.YtdgkanamceeheaaGreat
namespace Go.Proofs
open Go.Shelf
def Tryz.lays107_ren : Go.Shelf.Ren := ⟨fun | 107 => 124 | 108 => 130 | n => n,fun | 28 => 23 | 3 => 3 | 4 => 4 | 0 => 0 | n => n,fun | n => n⟩
theorem Tryz.lays107 : Go.Proofs.Lays.n107 Tryz.prog Tryz.lays107_ren := {
  mixed := by kernel_rfl
  f107 := Tryz.func124.trans (congrArg some (by kernel_rfl))
  f108 := Tryz.func130.trans (congrArg some (by kernel_rfl))
  t0 := Tryz.underlying0
  a0 := Tryz.isAgg0
  z0 := Tryz.sizeOf0
  v0 := Tryz.zeroValue0
  t3 := Tryz.underlying3
  a3 := Tryz.isAgg3
  z3 := Tryz.sizeOf3
  v3 := Tryz.zeroValue3
  t4 := Tryz.underlying4
  a4 := Tryz.isAgg4
  z4 := Tryz.sizeOf4
  v4 := Tryz.zeroValue4
  t28 := Tryz.underlying23
  a28 := Tryz.isAgg23
  z28 := Tryz.sizeOf23
  v28 := Tryz.zeroValue23 }
open Go.Lib in
theorem Tryz.slices_Contains_int (b off n c : Nat) (zs : List Int) (x : Int) (w : World) (hz : n ≤ zs.length) (hbig : n ≤ 9223372036854775807) (hc : ∀ j,j < zs.length → w.cell? ⟨b,off + j,none⟩ = some (.int .i64 (zs.getD j 0))) :
    Calls Tryz.prog 124 #[.slice (some ⟨b,off,none⟩) n c,.int .i64 x] w fun e w' => e = .returned (.bool ((zs.take n).contains x)) ∧ w' = w := Any.slices_Contains_int Tryz.lays107 b off n c zs x w hz hbig hc
open Go.Lib in
theorem Tryz.slices_Contains_int_empty (a : Option Addr) (c : Nat) (x : Int) (w : World) :
    Calls Tryz.prog 124 #[.slice a 0 c,.int .i64 x] w fun e w' => e = .returned (.bool false) ∧ w' = w := Any.slices_Contains_int_empty Tryz.lays107 a c x w
def Tryz.laysNm215_ren : Go.Shelf.Ren := ⟨fun | 15 => 123 | n => n,fun | 22 => 23 | 3 => 3 | 4 => 4 | n => n,fun | n => n⟩
theorem Tryz.laysNm215 : Go.Proofs.Lays2.n15 Tryz.prog Tryz.laysNm215_ren := {
  mixed := by kernel_rfl
  f15 := Tryz.func123.trans (congrArg some (by kernel_rfl))
  t3 := Tryz.underlying3
  a3 := Tryz.isAgg3
  z3 := Tryz.sizeOf3
  v3 := Tryz.zeroValue3
  t4 := Tryz.underlying4
  a4 := Tryz.isAgg4
  z4 := Tryz.sizeOf4
  v4 := Tryz.zeroValue4
  t22 := Tryz.underlying23
  a22 := Tryz.isAgg23
  z22 := Tryz.sizeOf23
  v22 := Tryz.zeroValue23
  i3 := by kernel_rfl }
open Go.RowKit Go.Lib in
theorem Tryz.slices_Clone_int (b off n c : Nat) (zs : List Int) (w : World) (hz : n ≤ zs.length) (hbig : n * 8 ≤ 140737488355328) (hc : ∀ j,j < zs.length → w.cell? ⟨b,off + j,none⟩ = some (.int .i64 (zs.getD j 0))) :
    Calls Tryz.prog 123 #[.slice (some ⟨b,off,none⟩) n c] w fun e w' => ∃ v',e = .returned v' ∧ w'.ownsRow w.heap.size 3 1 v' n ((zs.take n).map (Value.int .i64)) ∧ v' ≠ .slice none 0 0 ∧ Below w.heap.size w w' := Any.slices_Clone_int Tryz.laysNm215 b off n c zs w hz hbig hc
open Go.RowKit Go.Lib in
theorem Tryz.slices_Clone_int_nil (n c : Nat) (w : World) :
    Calls Tryz.prog 123 #[.slice none n c] w fun e w' => e = .returned (.slice none 0 0) ∧ w' = w := Any.slices_Clone_int_nil Tryz.laysNm215 n c w
open Go.RowKit Go.Lib in
theorem Tryz.slices_Clone_int_zero (a : Addr) (c : Nat) (w : World) :
    Calls Tryz.prog 123 #[.slice (some a) 0 c] w fun e w' => ∃ v',e = .returned v' ∧ w'.ownsRow w.heap.size 3 1 v' 0 [] ∧ v' ≠ .slice none 0 0 ∧ Below w.heap.size w w' := Any.slices_Clone_int_zero Tryz.laysNm215 a c w
end Go.Proofs
