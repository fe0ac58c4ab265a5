/- The program looks at the ports. -/
import Derived.Test.YtdgkanamceeheaaGreatK22
import Derived.Maps.RangeWalk
set_option linter.unusedVariables false
set_option maxRecDepth 100000
namespace Go.Proofs.YtdgkanamceeheaaGreat
open Go.RowKit Go.Maps
theorem own_below' {w w' : World} {b n : Nat} {D : DataW Unit} (h : w.ownsMap Tryz.prog 124 unitElem b n D) (hb : Below w.heap.size w w') : w'.ownsMap Tryz.prog 124 unitElem b n D := by
  have hlt := h.lt
  obtain ⟨es,clock,he,F,hs,hD⟩ := h
  exact ⟨es,clock,(hb.block b hlt).trans he,F,hs,hD⟩
theorem grown_below {base : Nat} {w w' : World} {b : Nat} (hg : w.grownBy w' (some b)) (hb : base ≤ b) (hl : b < w.heap.size) : Below base w w' :=
  ⟨hg.os,hg.tape,hg.output,hg.size,fun k hk => hg.block k (by omega) (by intro e;injection e with e;omega)⟩
theorem cells_4 {w : World} {g : Nat} {t : TypeId} {x0 x1 x2 x3 : Value} (h : w.heap[g]? = some (.cells #[x0,x1,x2,x3] t)) : w.cell? ⟨g,0,none⟩ = some x0 ∧ w.cell? ⟨g,1,none⟩ = some x1 ∧ w.cell? ⟨g,2,none⟩ = some x2 ∧ w.cell? ⟨g,3,none⟩ = some x3 :=
  ⟨lies_cell h 0,lies_cell h 1,lies_cell h 2,lies_cell h 3⟩
theorem look_unit {w : World} {b n : Nat} {D : DataW Unit} (h : w.ownsMap Tryz.prog 124 unitElem b n D) (y : Wy) : (Instr.lookup 121 (.map (some b)) y.val true).run Tryz.prog w = .ok (.tuple #[.agg #[],.bool (Maps.has D (kl y))]) w := by
  obtain ⟨v,ps,hrun,hv⟩ := h.look_ok law72 Tryz.underlying121 (zero73 w) unitElem_mk (key_kl y)
  obtain ⟨rfl,_⟩ := unitElem_inv hv
  exact hrun
set_option maxHeartbeats 8000000 in
theorem judgePorts_any (c : Cx) (w : World) (hc : c.Held w) (hpl : c.parts.length ≤ maxLen) (hvl : c.vls.length ≤ maxLen) (hz : Sized c.vls) (hl : c.ports.length ≤ 1000) (hok : ∀ p ∈ c.ports,p.Ok) : Calls Tryz.prog 33 #[c.val] w fun e w' => e = .returned (judged (told (PitotConf.scan (PitotConf.portJ c.parts (c.vls.map Vx.pl)) [] (c.ports.map Px.pl)))) ∧ Below w.heap.size w w' := by
  have HJ := Lib.hid (fun qid qhost qpart qkind qvl qsub qudp qsize qdepth qfresh qout ahead (w' : World) (hb : Below w.heap.size w w') => judgePort_any c qid qhost qpart qkind qvl qsub qudp qsize qdepth qfresh qout ahead w' (hc.below hb) hpl hvl hz)
  have HV : Hid (PxsAt w c.portsA c.ports) := hc.2.2.2
  have HOK := Lib.hid hok
  clear hc hok
  obtain ⟨R,HR⟩ : ∃ R,Hid (told (PitotConf.scan (PitotConf.portJ c.parts (c.vls.map Vx.pl)) [] (c.ports.map Px.pl)) = R) := ⟨_,rfl⟩
  rw [HR.out]
  obtain ⟨hosts,pA,pc,parts,major,wA,wk,wins,vA,vc,vls,qA,qc,ports⟩ := c
  simp only at HV HR hl HOK HJ ⊢
  obtain ⟨m,Hm⟩ : ∃ m,Hid (ports.length = m) := ⟨_,rfl⟩
  show Calls Tryz.prog 33 #[.agg #[.int .i64 hosts,.slice pA parts.length pc,.int .i64 major,.slice wA wins.length wk,.slice vA vls.length vc,.slice qA ports.length qc]] w _
  have HJ : Hid (∀ qid qhost qpart qkind qvl qsub qudp qsize qdepth qfresh qout ahead (w' : World) (hb : Below w.heap.size w w'),Calls Tryz.prog 79 #[.agg #[.int .i64 hosts,.slice pA parts.length pc,.int .i64 major,.slice wA wins.length wk,.slice vA vls.length vc,.slice qA ports.length qc],.agg #[.int .i64 qid,.int .i64 qhost,.int .i64 qpart,.int .i64 qkind,.bool qout,.int .i64 qvl,.int .i64 qsub,.int .i64 qudp,.int .i64 qsize,.int .i64 qdepth,.int .i64 qfresh],.int .i64 ahead] w' fun e w'' => e = .returned (.int .i64 (portP parts vls ahead ⟨qid,qhost,qpart,qkind,qout,qvl,qsub,qudp,qsize,qdepth,qfresh⟩)) ∧ Below w'.heap.size w' w'') := HJ
  clear hpl hvl hz
  rw [Hm.out] at hl HJ ⊢
  generalize wins.length = wl,parts.length = pl,vls.length = vl at HJ ⊢
  obtain ⟨ra,re⟩ := R
  have CB0 : Hid (((w.alloc (.cells #[.int .i64 hosts,.slice pA pl pc,.int .i64 major,.slice wA wl wk,.slice vA vl vc,.slice qA m qc] 28)).alloc (.map #[] 0)).heap[w.heap.size]? = some (.cells #[.int .i64 hosts,.slice pA pl pc,.int .i64 major,.slice wA wl wk,.slice vA vl vc,.slice qA m qc] 28)) := lies_alloc (heap_alloc_new w _) _
  have BB0 : Hid (Below w.heap.size w ((w.alloc (.cells #[.int .i64 hosts,.slice pA pl pc,.int .i64 major,.slice wA wl wk,.slice vA vl vc,.slice qA m qc] 28)).alloc (.map #[] 0))) := (((Below.refl _ w).alloc (Nat.le_refl _) _)).alloc (((Below.refl _ w).alloc (Nat.le_refl _) _)).size _
  have OB0 : Hid (((w.alloc (.cells #[.int .i64 hosts,.slice pA pl pc,.int .i64 major,.slice wA wl wk,.slice vA vl vc,.slice qA m qc] 28)).alloc (.map #[] 0)).ownsMap Tryz.prog 124 unitElem (w.heap.size + 1) 0 (.map [] : DataW Unit)) := by
    have := World.ownsMap_made (w.alloc (.cells #[.int .i64 hosts,.slice pA pl pc,.int .i64 major,.slice wA wl wk,.slice vA vl vc,.slice qA m qc] 28)) Tryz.prog 124 (unitElem (H := Unit))
    rw [World.size_alloc] at this
    exact this
  have hmm := @run_makeMap Tryz.prog
  go_enter Tryz.func33,Tryz.ntmps33
  go_upto_region 4 with (fail)
  clear hmm
  go_loopw [4,16] (fun v4 v16 wr => ∃ k : Nat,k ≤ m ∧ v16 = .int .i64 k ∧ v4 = .int .i64 (aheadP (ports.take k)) ∧ Hid (told (PitotConf.scan (PitotConf.portJ parts (vls.map Vx.pl)) ((ports.map Px.pl).take k) ((ports.map Px.pl).drop k)) = (ra,re)) ∧ wr.heap[w.heap.size]? = some (.cells #[.int .i64 hosts,.slice pA pl pc,.int .i64 major,.slice wA wl wk,.slice vA vl vc,.slice qA m qc] 28) ∧ (∃ D,wr.ownsMap Tryz.prog 124 unitElem (w.heap.size + 1) k D ∧ RepW D (ports.take k)) ∧ Below w.heap.size w wr) (fun _ v16 _ => m - (intOf v16).toNat)
  case atStart => exact ⟨0,Nat.zero_le _,rfl,rfl,HR,CB0.out,⟨_,OB0.out,fun y => rfl⟩,BB0.out⟩
  case round =>
    obtain ⟨k,hk,rfl,rfl,ht,hC,⟨D,hO,hRW⟩,hB⟩ := hrel
    have HB := Lib.hid hB;have HC := Lib.hid hC;have HO := Lib.hid hO;have HRW := Lib.hid hRW
    clear hB hC hO hRW CB0 BB0 OB0
    obtain ⟨c0,c1,c2,c3,c4,c5⟩ := cells_6 HC.out
    by_cases hkm : k < m
    · have hkl : k < ports.length := by rw [Hm.out];exact hkm
      have e1 : decide ((k : Int) < (m : Int)) = true := decide_eq_true (by omega)
      have e1' : decide (k < m) = true := decide_eq_true hkm
      obtain ⟨b,off,rfl,hb,hat⟩ := HV.out.get hkl
      have hat := hat.below HB.out hb
      have hs := scan_step (PitotConf.portJ parts (vls.map Vx.pl)) (ports.map Px.pl) k (by simpa using hkl)
      rw [portJ_eq parts vls ports k hkl] at hs
      have hah := aheadP_take ports k hkl
      have hxo := HOK.out _ (List.getElem_mem hkl)
      have hst : ports.take (k + 1) = ports.take k ++ [ports[k]] := List.take_succ_eq_append_getElem hkl
      generalize aheadP (ports.take k) = ahead at hs ⊢
      generalize ports[k] = x at hat hs hah hxo hst
      obtain ⟨xid,xhost,xpart,xkind,xout,xvl,xsub,xudp,xsize,xdepth,xfresh⟩ := x
      simp only [PxAt] at hat
      simp only at hah hs
      simp only [Px.Ok] at hxo
      obtain ⟨_,o1,_,_,o5,_,o7,_,_,_⟩ := hxo
      have HJ2 := fun (W : World) (hb : Below w.heap.size w W) => HJ.out xid xhost xpart xkind xvl xsub xudp xsize xdepth xfresh xout ahead W hb
      generalize portP parts vls ahead ⟨xid,xhost,xpart,xkind,xout,xvl,xsub,xudp,xsize,xdepth,xfresh⟩ = J at HJ2 hs
      have HTW : Hid ((ports.take k).any (fun q => decide (q.host = xhost) && decide (q.out = xout) && decide (q.vl = xvl) && decide (q.udp = xudp)) = Maps.has D (kl ⟨xhost,xout,xvl,xudp,o1,o5,o7⟩)) := by
        show _ = _
        rw [HRW.out];rfl
      rw [HTW.out] at hs
      have HS := Lib.hid hs
      have HAH := Lib.hid hah
      have HST := Lib.hid hst
      clear hs hah hst
      obtain ⟨a0,a1,a2,a3,a4,a5,a6,a7,a8,a9,a10⟩ := hat
      go_upto_region 6 with (fail)
      have CB : Hid ((wr.alloc (.cells #[.int .i64 xid,.int .i64 xhost,.int .i64 xpart,.int .i64 xkind,.bool xout,.int .i64 xvl,.int .i64 xsub,.int .i64 xudp,.int .i64 xsize,.int .i64 xdepth,.int .i64 xfresh] 62)).heap[w.heap.size]? = some (.cells #[.int .i64 hosts,.slice pA pl pc,.int .i64 major,.slice wA wl wk,.slice vA vl vc,.slice (some ⟨b,off,none⟩) m qc] 28)) := lies_alloc HC.out _
      have XB : Hid ((wr.alloc (.cells #[.int .i64 xid,.int .i64 xhost,.int .i64 xpart,.int .i64 xkind,.bool xout,.int .i64 xvl,.int .i64 xsub,.int .i64 xudp,.int .i64 xsize,.int .i64 xdepth,.int .i64 xfresh] 62)).heap[wr.heap.size]? = some (.cells #[.int .i64 xid,.int .i64 xhost,.int .i64 xpart,.int .i64 xkind,.bool xout,.int .i64 xvl,.int .i64 xsub,.int .i64 xudp,.int .i64 xsize,.int .i64 xdepth,.int .i64 xfresh] 62)) := heap_alloc_new wr _
      have AB : Hid (Below wr.heap.size wr (wr.alloc (.cells #[.int .i64 xid,.int .i64 xhost,.int .i64 xpart,.int .i64 xkind,.bool xout,.int .i64 xvl,.int .i64 xsub,.int .i64 xudp,.int .i64 xsize,.int .i64 xdepth,.int .i64 xfresh] 62))) := (Below.refl _ wr).alloc (Nat.le_refl _) _
      have BB : Hid (Below w.heap.size w (wr.alloc (.cells #[.int .i64 xid,.int .i64 xhost,.int .i64 xpart,.int .i64 xkind,.bool xout,.int .i64 xvl,.int .i64 xsub,.int .i64 xudp,.int .i64 xsize,.int .i64 xdepth,.int .i64 xfresh] 62))) := HB.out.trans (AB.out.mono HB.out.size)
      have OB : Hid ((wr.alloc (.cells #[.int .i64 xid,.int .i64 xhost,.int .i64 xpart,.int .i64 xkind,.bool xout,.int .i64 xvl,.int .i64 xsub,.int .i64 xudp,.int .i64 xsize,.int .i64 xdepth,.int .i64 xfresh] 62)).ownsMap Tryz.prog 124 unitElem (w.heap.size + 1) k D) := HO.out.alloc _
      have hwx : w.heap.size + 1 < wr.heap.size := HO.out.lt
      clear a0 a1 a2 a3 a4 a5 a6 a7 a8 a9 a10 c0 c1 c2 c3 c4 c5 HC HO HB AB
      have HJ4 := Lib.hid (HJ2 _ BB.out)
      clear HJ2
      generalize wr.alloc (.cells #[.int .i64 xid,.int .i64 xhost,.int .i64 xpart,.int .i64 xkind,.bool xout,.int .i64 xvl,.int .i64 xsub,.int .i64 xudp,.int .i64 xsize,.int .i64 xdepth,.int .i64 xfresh] 62) = W1 at CB XB BB OB HJ4 ⊢
      generalize wr.heap.size = xb at XB hwx ⊢
      obtain ⟨c0,c1,c2,c3,c4,c5⟩ := cells_6 CB.out
      obtain ⟨p0,p1,p2,p3,p4,p5,p6,p7,p8,p9,p10⟩ := cells_11 XB.out
      by_cases g0 : 512 ≤ k
      · have f0 : decide (512 ≤ (k : Int)) = true := decide_eq_true (by omega)
        have f0' : decide (512 ≤ k) = true := decide_eq_true g0
        have HT : Hid (((k : Int),(1 : Int)) = (ra,re)) := by
          show _ = _
          rw [← ht.out,HS.out,if_pos g0,if_neg (show ¬ ((1 : Int) = 0) by decide)];rfl
        clear ht
        go_wp2
        go_returns
        have := HT.out
        injection this with h1 h2
        subst h1;subst h2
        exact ⟨rfl,BB.out⟩
      · have f0 : decide (512 ≤ (k : Int)) = false := decide_eq_false (by omega)
        have f0' : decide (512 ≤ k) = false := decide_eq_false g0
        have hs := HS.out
        rw [if_neg g0] at hs
        by_cases g1 : J = 0
        · have f1 : (J == 0) = true := by rw [g1];rfl
          rw [if_pos g1] at hs
          clear HS g1
          go_upto_region 12 with (first
            | (go_at_call 79;(with_reducible refine (HJ4.out).mono ?_);rintro e w2 ⟨rfl,hb2⟩
               (have CX := Lib.hid (lies_below CB.out hb2 (lies_lt CB.out)))
               (have XX := Lib.hid (lies_below XB.out hb2 (lies_lt XB.out)))
               (have BX := Lib.hid (BB.out.trans (hb2.mono BB.out.size)))
               (have OX := Lib.hid (own_below' OB.out hb2))
               (clear hb2 CB XB BB OB c0 c1 c2 c3 c4 c5 p0 p1 p2 p3 p4 p5 p6 p7 p8 p9 p10)
               (have CB := CX)
               (have XB := XX)
               (have BB := BX)
               (have OB := OX)
               (clear CX XX BX OX)
               (obtain ⟨c0,c1,c2,c3,c4,c5⟩ := cells_6 CB.out)
               (obtain ⟨p0,p1,p2,p3,p4,p5,p6,p7,p8,p9,p10⟩ := cells_11 XB.out)))
          have YB : Hid ((w2.alloc (.cells #[.int .i64 xhost,.bool xout,.int .i64 xvl,.int .i64 xudp] 124)).heap[w2.heap.size]? = some (.cells #[.int .i64 xhost,.bool xout,.int .i64 xvl,.int .i64 xudp] 124)) := heap_alloc_new w2 _
          have BB3 : Hid (Below w.heap.size w (w2.alloc (.cells #[.int .i64 xhost,.bool xout,.int .i64 xvl,.int .i64 xudp] 124))) := BB.out.trans ((((Below.refl _ w2).alloc (Nat.le_refl _) _)).mono BB.out.size)
          have CB3 := Lib.hid (lies_alloc (o := .cells #[.int .i64 xhost,.bool xout,.int .i64 xvl,.int .i64 xudp] 124) CB.out)
          have XB3 := Lib.hid (lies_alloc (o := .cells #[.int .i64 xhost,.bool xout,.int .i64 xvl,.int .i64 xudp] 124) XB.out)
          have OB3 := Lib.hid (OB.out.alloc (.cells #[.int .i64 xhost,.bool xout,.int .i64 xvl,.int .i64 xudp] 124))
          have hyx : w.heap.size + 1 < w2.heap.size := OB.out.lt
          clear CB XB BB OB c0 c1 c2 c3 c4 c5 p0 p1 p2 p3 p4 p5 p6 p7 p8 p9 p10
          generalize w2.alloc (.cells #[.int .i64 xhost,.bool xout,.int .i64 xvl,.int .i64 xudp] 124) = W3 at YB BB3 CB3 XB3 OB3 ⊢
          generalize w2.heap.size = yb at YB hyx ⊢
          have hlook := look_unit OB3.out ⟨xhost,xout,xvl,xudp,o1,o5,o7⟩
          simp only [Wy.val] at hlook
          obtain ⟨y0,y1,y2,y3⟩ := cells_4 YB.out
          have hz73 := zero73
          cases hh : Maps.has D (kl ⟨xhost,xout,xvl,xudp,o1,o5,o7⟩)
          · rw [hh] at hlook hs
            go_upto_region 13 with (fail)
            clear hlook
            have YB4 := Lib.hid (lies_alloc (o := .cells #[] 125) YB.out)
            have CB4 := Lib.hid (lies_alloc (o := .cells #[] 125) CB3.out)
            have XB4 := Lib.hid (lies_alloc (o := .cells #[] 125) XB3.out)
            have OB4 := Lib.hid (OB3.out.alloc (.cells #[] 125))
            have BB4 : Hid (Below w.heap.size w (W3.alloc (.cells #[] 125))) := BB3.out.alloc BB3.out.size _
            clear y0 y1 y2 y3
            generalize W3.alloc (.cells #[] 125) = W4 at YB4 CB4 XB4 OB4 BB4 ⊢
            obtain ⟨W5,hrun,hown5,hg5⟩ := OB4.out.update law72 Tryz.underlying121 (show k < maxLen by unfold maxLen;omega) (key_kl ⟨xhost,xout,xvl,xudp,o1,o5,o7⟩) (unitElem_mk (H := Unit))
            simp only [Wy.val] at hrun
            have CB5 : Hid (W5.heap[w.heap.size]? = some (.cells #[.int .i64 hosts,.slice pA pl pc,.int .i64 major,.slice wA wl wk,.slice vA vl vc,.slice (some ⟨b,off,none⟩) m qc] 28)) := (hg5.block _ (lies_lt CB4.out) (by intro e;injection e with e;omega)).trans CB4.out
            have XB5 : Hid (W5.heap[xb]? = some (.cells #[.int .i64 xid,.int .i64 xhost,.int .i64 xpart,.int .i64 xkind,.bool xout,.int .i64 xvl,.int .i64 xsub,.int .i64 xudp,.int .i64 xsize,.int .i64 xdepth,.int .i64 xfresh] 62)) := (hg5.block _ (lies_lt XB4.out) (by intro e;injection e with e;omega)).trans XB4.out
            have BB5 : Hid (Below w.heap.size w W5) := BB4.out.trans (grown_below hg5 (by omega) OB4.out.lt)
            have HO5 := Lib.hid hown5
            have HRW5 : Hid (RepW (D.put (kl ⟨xhost,xout,xvl,xudp,o1,o5,o7⟩) nu) (ports.take (k + 1))) := by
              show RepW _ _
              rw [HST.out]
              exact repW_put HRW.out OB4.out.isMap _ _ ⟨rfl,rfl,rfl,rfl⟩
            have HT : Hid (told (PitotConf.scan (PitotConf.portJ parts (vls.map Vx.pl)) ((ports.map Px.pl).take (k + 1)) ((ports.map Px.pl).drop (k + 1))) = (ra,re)) := by
              show _ = _
              rw [← ht.out,hs];rfl
            clear hown5 hg5 ht hs
            obtain ⟨y0,y1,y2,y3⟩ := cells_4 YB4.out
            go_upto_region 16 with (fail)
            clear y0 y1 y2 y3 hrun
            obtain ⟨p0,p1,p2,p3,p4,p5,p6,p7,p8,p9,p10⟩ := cells_11 XB5.out
            go_wp2
            go_roundw
            case rel => exact ⟨k + 1,by omega,by go_num,by rw [HAH.out],HT,CB5.out,⟨_,HO5.out,HRW5.out⟩,BB5.out⟩
            case measure => simp [intOf];omega
          · rw [hh] at hlook hs
            have HT : Hid (((k : Int),(21 : Int)) = (ra,re)) := by
              show _ = _
              rw [← ht.out,hs];rfl
            clear ht hs
            go_wp2
            go_returns
            have := HT.out
            injection this with h1 h2
            subst h1;subst h2
            exact ⟨rfl,BB3.out.alloc BB3.out.size _⟩
        · have f1 : (J == 0) = false := by simpa using g1
          rw [if_neg g1,if_neg g1] at hs
          have HT : Hid (((k : Int),J) = (ra,re)) := by
            show _ = _
            rw [← ht.out,hs];rfl
          clear ht hs HS g1
          go_wp2_with (first
            | (go_at_call 79;(with_reducible refine (HJ4.out).mono ?_);rintro e w2 ⟨rfl,hb2⟩
               (have CX := Lib.hid (lies_below CB.out hb2 (lies_lt CB.out)))
               (have XX := Lib.hid (lies_below XB.out hb2 (lies_lt XB.out)))
               (have BX := Lib.hid (BB.out.trans (hb2.mono BB.out.size)))
               (have OX := Lib.hid (own_below' OB.out hb2))
               (clear hb2 CB XB BB OB c0 c1 c2 c3 c4 c5 p0 p1 p2 p3 p4 p5 p6 p7 p8 p9 p10)
               (have CB := CX)
               (have XB := XX)
               (have BB := BX)
               (have OB := OX)
               (clear CX XX BX OX)
               (obtain ⟨c0,c1,c2,c3,c4,c5⟩ := cells_6 CB.out)
               (obtain ⟨p0,p1,p2,p3,p4,p5,p6,p7,p8,p9,p10⟩ := cells_11 XB.out)))
          go_returns
          have := HT.out
          injection this with h1 h2
          subst h1;subst h2
          exact ⟨rfl,BB.out⟩
    · have e1 : decide ((k : Int) < (m : Int)) = false := decide_eq_false (by omega)
      have e1' : decide (k < m) = false := decide_eq_false hkm
      have HT : Hid (((0 : Int),(0 : Int)) = (ra,re)) := by
        show _ = _
        rw [← ht.out,scan_end _ _ _ (by rw [List.length_map,Hm.out];omega)];rfl
      clear ht
      go_wp2
      go_returns
      have := HT.out
      injection this with h1 h2
      subst h1;subst h2
      exact ⟨rfl,HB.out⟩
end Go.Proofs.YtdgkanamceeheaaGreat
