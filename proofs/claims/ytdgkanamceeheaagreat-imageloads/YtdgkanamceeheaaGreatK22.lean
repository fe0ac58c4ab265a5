/- The program looks at a port. What ports are told apart by, as the key of a map; the judge of a port in plain words is the program's. The document's small questions, over letters. -/
import Derived.Test.YtdgkanamceeheaaGreatK21
import Derived.Test.YtdgkanamceeheaaGreatK13
import Derived.Maps.RangeWalk
import Derived.Maps.OwnSet
import Derived.DeepKeys3
set_option linter.unusedVariables false
set_option maxRecDepth 100000
namespace Go.Proofs.YtdgkanamceeheaaGreat
open Go.RowKit
def portP (parts : List Int) (vls : List Vx) (ahead : Int) (p : Px) : Int :=
  if mayP parts.length p.id p.part p.kind p.udp p.size = false then 1
  else if decide (p.id ≤ ahead) = true then 25
  else if PitotConf.hostOf parts p.part ≠ some p.host then 20
  else match findVx vls p.vl with
  | none => 20
  | some v => if endJ p.out p.host p.sub v.host v.subs v.to = 0 then kindJ p.kind p.depth p.fresh p.size p.out v.smax else endJ p.out p.host p.sub v.host v.subs v.to
theorem mayP_part {pl : Nat} {a b c d e : Int} (h : mayP pl a b c d e = true) : 0 ≤ b ∧ b < pl := by
  simp only [mayP,Bool.and_eq_true,decide_eq_true_eq] at h
  exact h.2.2.1
def Sized (l : List Vx) : Prop := ∀ v ∈ l,v.to.length ≤ 5000 ∧ 0 ≤ v.smax ∧ v.smax ≤ 10000 ∧ 0 ≤ v.subs ∧ v.subs ≤ 10000
theorem drew_lies {w : World} {g : Nat} {o : Obj} (h : w.heap[g]? = some o) (n : Nat) : (w.drewN n).heap[g]? = some o := h
set_option maxHeartbeats 8000000 in
theorem judgePort_any (c : Cx) (qid qhost qpart qkind qvl qsub qudp qsize qdepth qfresh : Int) (qout : Bool) (ahead : Int) (w : World) (hc : c.Held w) (hpl : c.parts.length ≤ maxLen) (hvl : c.vls.length ≤ maxLen) (hz : Sized c.vls) : Calls Tryz.prog 79 #[c.val,.agg #[.int .i64 qid,.int .i64 qhost,.int .i64 qpart,.int .i64 qkind,.bool qout,.int .i64 qvl,.int .i64 qsub,.int .i64 qudp,.int .i64 qsize,.int .i64 qdepth,.int .i64 qfresh],.int .i64 ahead] w fun e w' => e = .returned (.int .i64 (portP c.parts c.vls ahead ⟨qid,qhost,qpart,qkind,qout,qvl,qsub,qudp,qsize,qdepth,qfresh⟩)) ∧ Below w.heap.size w w' := by
  have HVN := Lib.hid (fun (w' : World) (hb : Below w.heap.size w w') (h : findVx c.vls qvl = none) => VL_none c qvl w' (hc.below hb) hvl h)
  have HVS := Lib.hid (fun (w' : World) (hb : Below w.heap.size w w') (x : Vx) (h : findVx c.vls qvl = some x) => VL_some c qvl x w' (hc.below hb) hvl h (hz x (List.mem_of_find?_eq_some h)).1)
  have HPA : Hid (IntsAt w c.partsA c.parts) := hc.1
  have HZ := Lib.hid hz
  unfold portP
  simp only
  obtain ⟨hosts,pA,pc,parts,major,wA,wk,wins,vA,vc,vls,qA,qc,ports⟩ := c
  simp only at HVN HVS HPA HZ hpl ⊢
  have HVN : Hid (∀ (w' : World) (hb : Below w.heap.size w w') (h : findVx vls qvl = none),Calls Tryz.prog 107 #[.agg #[.int .i64 hosts,.slice pA parts.length pc,.int .i64 major,.slice wA wins.length wk,.slice vA vls.length vc,.slice qA ports.length qc],.int .i64 qvl] w' _) := HVN
  have HVS : Hid (∀ (w' : World) (hb : Below w.heap.size w w') (x : Vx) (h : findVx vls qvl = some x),Calls Tryz.prog 107 #[.agg #[.int .i64 hosts,.slice pA parts.length pc,.int .i64 major,.slice wA wins.length wk,.slice vA vls.length vc,.slice qA ports.length qc],.int .i64 qvl] w' _) := HVS
  show Calls Tryz.prog 79 #[.agg #[.int .i64 hosts,.slice pA parts.length pc,.int .i64 major,.slice wA wins.length wk,.slice vA vls.length vc,.slice qA ports.length qc],.agg #[.int .i64 qid,.int .i64 qhost,.int .i64 qpart,.int .i64 qkind,.bool qout,.int .i64 qvl,.int .i64 qsub,.int .i64 qudp,.int .i64 qsize,.int .i64 qdepth,.int .i64 qfresh],.int .i64 ahead] w _
  clear hc hvl hz
  generalize wins.length = wl,ports.length = ql,vls.length = vl at HVN HVS ⊢
  generalize hpn : parts.length = pl at HVN HVS hpl ⊢
  have HM := fun w => mayPort_any hosts major pA wA vA qA pl pc wl wk vl vc ql qc qid qhost qpart qkind qvl qsub qudp qsize qdepth qfresh qout w hpl
  have HMP : Hid (mayP pl qid qpart qkind qudp qsize = true → 0 ≤ qpart ∧ qpart < (pl : Int)) := mayP_part
  generalize mayP pl qid qpart qkind qudp qsize = b1 at HM HMP ⊢
  generalize hb2 : decide (qid ≤ ahead) = b2
  have HM := Lib.hid HM
  obtain ⟨R,HR⟩ : ∃ R,Hid ((if b1 = false then (1 : Int) else if b2 = true then 25 else if PitotConf.hostOf parts qpart ≠ some qhost then 20 else match findVx vls qvl with
    | none => 20
    | some v => if endJ qout qhost qsub v.host v.subs v.to = 0 then kindJ qkind qdepth qfresh qsize qout v.smax else endJ qout qhost qsub v.host v.subs v.to) = R) := ⟨_,rfl⟩
  rw [show (if b1 = false then (1 : Int) else if b2 = true then 25 else if PitotConf.hostOf parts qpart ≠ some qhost then 20 else match findVx vls qvl with
    | none => 20
    | some v => if endJ qout qhost qsub v.host v.subs v.to = 0 then kindJ qkind qdepth qfresh qsize qout v.smax else endJ qout qhost qsub v.host v.subs v.to) = R from HR.out]
  go_enter Tryz.func79,Tryz.ntmps79
  go_upto_region 1 with (fail)
  have CB : Hid (((w.alloc (.cells #[.int .i64 hosts,.slice pA pl pc,.int .i64 major,.slice wA wl wk,.slice vA vl vc,.slice qA ql qc] 28)).alloc (.cells #[.int .i64 qid,.int .i64 qhost,.int .i64 qpart,.int .i64 qkind,.bool qout,.int .i64 qvl,.int .i64 qsub,.int .i64 qudp,.int .i64 qsize,.int .i64 qdepth,.int .i64 qfresh] 62)).heap[w.heap.size]? = some (.cells #[.int .i64 hosts,.slice pA pl pc,.int .i64 major,.slice wA wl wk,.slice vA vl vc,.slice qA ql qc] 28)) := lies_alloc (heap_alloc_new w _) _
  have XB : Hid (((w.alloc (.cells #[.int .i64 hosts,.slice pA pl pc,.int .i64 major,.slice wA wl wk,.slice vA vl vc,.slice qA ql qc] 28)).alloc (.cells #[.int .i64 qid,.int .i64 qhost,.int .i64 qpart,.int .i64 qkind,.bool qout,.int .i64 qvl,.int .i64 qsub,.int .i64 qudp,.int .i64 qsize,.int .i64 qdepth,.int .i64 qfresh] 62)).heap[w.heap.size + 1]? = some (.cells #[.int .i64 qid,.int .i64 qhost,.int .i64 qpart,.int .i64 qkind,.bool qout,.int .i64 qvl,.int .i64 qsub,.int .i64 qudp,.int .i64 qsize,.int .i64 qdepth,.int .i64 qfresh] 62)) := by
    have := heap_alloc_new (w.alloc (.cells #[.int .i64 hosts,.slice pA pl pc,.int .i64 major,.slice wA wl wk,.slice vA vl vc,.slice qA ql qc] 28)) (.cells #[.int .i64 qid,.int .i64 qhost,.int .i64 qpart,.int .i64 qkind,.bool qout,.int .i64 qvl,.int .i64 qsub,.int .i64 qudp,.int .i64 qsize,.int .i64 qdepth,.int .i64 qfresh] 62)
    rw [World.size_alloc] at this
    exact this
  have BB : Hid (Below w.heap.size w ((w.alloc (.cells #[.int .i64 hosts,.slice pA pl pc,.int .i64 major,.slice wA wl wk,.slice vA vl vc,.slice qA ql qc] 28)).alloc (.cells #[.int .i64 qid,.int .i64 qhost,.int .i64 qpart,.int .i64 qkind,.bool qout,.int .i64 qvl,.int .i64 qsub,.int .i64 qudp,.int .i64 qsize,.int .i64 qdepth,.int .i64 qfresh] 62))) := (((Below.refl _ w).alloc (Nat.le_refl _) _)).alloc (((Below.refl _ w).alloc (Nat.le_refl _) _)).size _
  generalize (w.alloc (.cells #[.int .i64 hosts,.slice pA pl pc,.int .i64 major,.slice wA wl wk,.slice vA vl vc,.slice qA ql qc] 28)).alloc (.cells #[.int .i64 qid,.int .i64 qhost,.int .i64 qpart,.int .i64 qkind,.bool qout,.int .i64 qvl,.int .i64 qsub,.int .i64 qudp,.int .i64 qsize,.int .i64 qdepth,.int .i64 qfresh] 62) = W1 at CB XB BB ⊢
  obtain ⟨c0,c1,c2,c3,c4,c5⟩ := cells_6 CB.out
  obtain ⟨p0,p1,p2,p3,p4,p5,p6,p7,p8,p9,p10⟩ := cells_11 XB.out
  cases b1
  · have HT : Hid (R = 1) := HR.out.symm
    go_wp2_with (first
      | (go_at_call 106;(with_reducible refine (HM.out _).mono ?_);rintro e w2 ⟨rfl,hb2⟩
         (have C2 := Lib.hid (lies_below CB.out hb2 (lies_lt CB.out)))
         (have X2 := Lib.hid (lies_below XB.out hb2 (lies_lt XB.out)))
         (have B2 := Lib.hid (BB.out.trans (hb2.mono BB.out.size)))
         (clear hb2 CB XB BB c0 c1 c2 c3 c4 c5 p0 p1 p2 p3 p4 p5 p6 p7 p8 p9 p10)
         (have CB := C2)
         (have XB := X2)
         (have BB := B2)
         (clear C2 X2 B2)
         (obtain ⟨c0,c1,c2,c3,c4,c5⟩ := cells_6 CB.out)
         (obtain ⟨p0,p1,p2,p3,p4,p5,p6,p7,p8,p9,p10⟩ := cells_11 XB.out)))
    go_returns
    rw [HT.out]
    exact ⟨rfl,BB.out⟩
  cases b2
  case true =>
    have HT : Hid (R = 25) := HR.out.symm
    go_wp2_with (first
      | (go_at_call 106;(with_reducible refine (HM.out _).mono ?_);rintro e w2 ⟨rfl,hb2⟩
         (have C2 := Lib.hid (lies_below CB.out hb2 (lies_lt CB.out)))
         (have X2 := Lib.hid (lies_below XB.out hb2 (lies_lt XB.out)))
         (have B2 := Lib.hid (BB.out.trans (hb2.mono BB.out.size)))
         (clear hb2 CB XB BB c0 c1 c2 c3 c4 c5 p0 p1 p2 p3 p4 p5 p6 p7 p8 p9 p10)
         (have CB := C2)
         (have XB := X2)
         (have BB := B2)
         (clear C2 X2 B2)
         (obtain ⟨c0,c1,c2,c3,c4,c5⟩ := cells_6 CB.out)
         (obtain ⟨p0,p1,p2,p3,p4,p5,p6,p7,p8,p9,p10⟩ := cells_11 XB.out)))
    go_returns
    rw [HT.out]
    exact ⟨rfl,BB.out⟩
  obtain ⟨hp0,hp1⟩ := HMP.out rfl
  have hr := HR.out
  rw [if_neg (show ¬ (true = false) by decide),if_neg (show ¬ (false = true) by decide)] at hr
  clear HR
  have hjl : qpart.toNat < parts.length := by rw [hpn];omega
  have hho : PitotConf.hostOf parts qpart = some parts[qpart.toNat] := by
    rw [PitotConf.hostOf,if_pos hp0,List.getElem?_eq_getElem hjl]
  rw [hho] at hr
  clear hho
  obtain ⟨b,off,rfl,hbw,hat⟩ := HPA.out.get hjl
  generalize parts[qpart.toNat] = y at hat hr
  generalize hj : qpart.toNat = j at hat
  have HR := Lib.hid hr
  clear hr
  go_upto_region 5 with (first
    | (go_at_call 106;(with_reducible refine (HM.out _).mono ?_);rintro e w2 ⟨rfl,hb2⟩
       (have C2 := Lib.hid (lies_below CB.out hb2 (lies_lt CB.out)))
       (have X2 := Lib.hid (lies_below XB.out hb2 (lies_lt XB.out)))
       (have B2 := Lib.hid (BB.out.trans (hb2.mono BB.out.size)))
       (clear hb2 CB XB BB c0 c1 c2 c3 c4 c5 p0 p1 p2 p3 p4 p5 p6 p7 p8 p9 p10)
       (have CB := C2)
       (have XB := X2)
       (have BB := B2)
       (clear C2 X2 B2)
       (obtain ⟨c0,c1,c2,c3,c4,c5⟩ := cells_6 CB.out)
       (obtain ⟨p0,p1,p2,p3,p4,p5,p6,p7,p8,p9,p10⟩ := cells_11 XB.out)))
  have hat := (BB.out.cell hbw).trans hat
  obtain ⟨b3,hb3⟩ : ∃ b3,(qhost == y) = b3 := ⟨_,rfl⟩
  have hb3' : decide (qhost = y) = b3 := hb3
  have hb3'' : (qhost != y) = !b3 := by rw [← hb3];rfl
  cases b3
  · have HT : Hid (R = 20) := by
      show _ = _
      rw [← HR.out,if_pos (show some y ≠ some qhost by intro h;injection h with h;subst h;simp at hb3)]
    go_quiet (fail)
    go_wp2
    go_returns
    rw [HT.out]
    exact ⟨rfl,below_drewN BB.out nq⟩
  have hy : y = qhost := (of_decide_eq_true hb3').symm
  have hr := HR.out
  rw [if_neg (show ¬ (some y ≠ some qhost) by rw [hy];simp)] at hr
  clear hy HR
  have HR := Lib.hid hr
  clear hr
  go_quiet (fail)
  have CD : Hid ((_ : World).heap[w.heap.size]? = _) := drew_lies CB.out nq
  have XD : Hid ((_ : World).heap[w.heap.size + 1]? = _) := drew_lies XB.out nq
  have BD : Hid (Below w.heap.size w _) := below_drewN BB.out nq
  clear hat CB XB BB c0 c1 c2 c3 c4 c5 p0 p1 p2 p3 p4 p5 p6 p7 p8 p9 p10 hb3 hb3' hb3''
  have CB := CD
  have XB := XD
  have BB := BD
  clear CD XD BD
  generalize World.drewN _ nq = w3 at CB XB BB ⊢
  obtain ⟨c0,c1,c2,c3,c4,c5⟩ := cells_6 CB.out
  obtain ⟨p0,p1,p2,p3,p4,p5,p6,p7,p8,p9,p10⟩ := cells_11 XB.out
  cases hf : findVx vls qvl with
  | none =>
    have HV := Lib.hid (HVN.out _ BB.out hf)
    have HT : Hid (R = 20) := by
      show _ = _
      rw [← HR.out,hf]
    clear HVN HVS hf HR
    go_wp2_with (first
      | (go_at_call 107;(with_reducible refine (HV.out).mono ?_);rintro e w4 ⟨rfl,hb2⟩))
    have BB := Lib.hid (BB.out.trans (hb2.mono BB.out.size))
    go_returns
    rw [HT.out]
    exact ⟨rfl,BB.out.trans (((Below.refl _ _).alloc (Nat.le_refl _) _).mono BB.out.size)⟩
  | some v =>
    have HV := Lib.hid (HVS.out _ BB.out v hf)
    have hzv := HZ.out v (List.mem_of_find?_eq_some hf)
    have hr := HR.out
    rw [hf] at hr
    clear HVN HVS hf HR
    simp only at hr
    obtain ⟨vid,vhost,vbag,vsmax,vhigh,vsubs,vskew,vA',vc',vto⟩ := v
    simp only at HV hzv hr
    have HEJ := fun A cap w' (hi : IntsAt w' A vto) => judgeEnd_any qid qhost qpart qkind qvl qsub qudp qsize qdepth qfresh qout vid vhost vbag vsmax vsubs vskew vhigh A vto.length cap vto w' hi rfl (by have := hzv.1;unfold maxLen;omega) (by omega) (by omega)
    have HKJ := fun A cap w' => judgeKind_any qid qhost qpart qkind qvl qsub qudp qsize qdepth qfresh qout vid vhost vbag vsmax vsubs vskew vhigh A vto.length cap w' (by omega) (by omega)
    generalize endJ qout qhost qsub vhost vsubs vto = E at HEJ hr
    generalize kindJ qkind qdepth qfresh qsize qout vsmax = K at HKJ hr
    generalize vto.length = tl at HV HEJ HKJ
    have HEJ := Lib.hid HEJ;have HKJ := Lib.hid HKJ
    have HR := Lib.hid hr
    clear hzv hr
    go_upto_region 8 with (first
      | (go_at_call 107;(with_reducible refine (HV.out).mono ?_);rintro e w4 ⟨⟨A4,cap4,rfl,hi4⟩,hb2⟩
         (have C4 := Lib.hid (lies_below CB.out hb2 (lies_lt CB.out)))
         (have X4 := Lib.hid (lies_below XB.out hb2 (lies_lt XB.out)))
         (have B4 := Lib.hid (BB.out.trans (hb2.mono BB.out.size)))
         (clear hb2 CB XB BB c0 c1 c2 c3 c4 c5 p0 p1 p2 p3 p4 p5 p6 p7 p8 p9 p10)
         (have CB := C4)
         (have XB := X4)
         (have BB := B4)
         (clear C4 X4 B4)
         (obtain ⟨c0,c1,c2,c3,c4,c5⟩ := cells_6 CB.out)
         (obtain ⟨p0,p1,p2,p3,p4,p5,p6,p7,p8,p9,p10⟩ := cells_11 XB.out)))
    have VB : Hid ((w4.alloc (.cells #[.int .i64 vid,.int .i64 vhost,.int .i64 vbag,.int .i64 vsmax,.bool vhigh,.int .i64 vsubs,.int .i64 vskew,.slice A4 tl cap4] 60)).heap[w4.heap.size]? = some (.cells #[.int .i64 vid,.int .i64 vhost,.int .i64 vbag,.int .i64 vsmax,.bool vhigh,.int .i64 vsubs,.int .i64 vskew,.slice A4 tl cap4] 60)) := heap_alloc_new w4 _
    have AB : Hid (Below w4.heap.size w4 (w4.alloc (.cells #[.int .i64 vid,.int .i64 vhost,.int .i64 vbag,.int .i64 vsmax,.bool vhigh,.int .i64 vsubs,.int .i64 vskew,.slice A4 tl cap4] 60))) := (Below.refl _ w4).alloc (Nat.le_refl _) _
    have CD := Lib.hid (lies_alloc (o := .cells #[.int .i64 vid,.int .i64 vhost,.int .i64 vbag,.int .i64 vsmax,.bool vhigh,.int .i64 vsubs,.int .i64 vskew,.slice A4 tl cap4] 60) CB.out)
    have XD := Lib.hid (lies_alloc (o := .cells #[.int .i64 vid,.int .i64 vhost,.int .i64 vbag,.int .i64 vsmax,.bool vhigh,.int .i64 vsubs,.int .i64 vskew,.slice A4 tl cap4] 60) XB.out)
    have BD : Hid (Below w.heap.size w (w4.alloc (.cells #[.int .i64 vid,.int .i64 vhost,.int .i64 vbag,.int .i64 vsmax,.bool vhigh,.int .i64 vsubs,.int .i64 vskew,.slice A4 tl cap4] 60))) := BB.out.trans (AB.out.mono BB.out.size)
    have I4 : Hid (IntsAt (w4.alloc (.cells #[.int .i64 vid,.int .i64 vhost,.int .i64 vbag,.int .i64 vsmax,.bool vhigh,.int .i64 vsubs,.int .i64 vskew,.slice A4 tl cap4] 60)) A4 vto) := IntsAt.below hi4 AB.out
    clear hi4 AB CB XB BB c0 c1 c2 c3 c4 c5 p0 p1 p2 p3 p4 p5 p6 p7 p8 p9 p10
    have CB := CD
    have XB := XD
    have BB := BD
    clear CD XD BD
    generalize w4.alloc (.cells #[.int .i64 vid,.int .i64 vhost,.int .i64 vbag,.int .i64 vsmax,.bool vhigh,.int .i64 vsubs,.int .i64 vskew,.slice A4 tl cap4] 60) = w5 at VB CB XB BB I4 ⊢
    generalize w4.heap.size = xb at VB ⊢
    obtain ⟨p0,p1,p2,p3,p4,p5,p6,p7,p8,p9,p10⟩ := cells_11 XB.out
    obtain ⟨x0,x1,x2,x3,x4,x5,x6,x7⟩ := cells_8 VB.out
    have HE := Lib.hid (HEJ.out A4 cap4 _ I4.out)
    by_cases g : E = 0
    · have g1 : (E == 0) = true := by rw [g];rfl
      have HT : Hid (R = K) := by
        show _ = _
        rw [← HR.out,if_pos g]
      clear g
      go_wp2_with (first
        | (go_at_call 108;(with_reducible refine (HE.out).mono ?_);rintro e w6 ⟨rfl,hb2⟩
           (have X6 := Lib.hid (lies_below XB.out hb2 (lies_lt XB.out)))
           (have V6 := Lib.hid (lies_below VB.out hb2 (lies_lt VB.out)))
           (have B6 := Lib.hid (BB.out.trans (hb2.mono BB.out.size)))
           (clear hb2 x0 x1 x2 x3 x4 x5 x6 x7 p0 p1 p2 p3 p4 p5 p6 p7 p8 p9 p10)
           (obtain ⟨x0,x1,x2,x3,x4,x5,x6,x7⟩ := cells_8 V6.out)
           (obtain ⟨p0,p1,p2,p3,p4,p5,p6,p7,p8,p9,p10⟩ := cells_11 X6.out))
        | (go_at_call 109;(with_reducible refine (HKJ.out _ _ _).mono ?_);rintro e w7 ⟨rfl,hb7⟩))
      go_returns
      rw [HT.out]
      exact ⟨rfl,B6.out.trans (hb7.mono B6.out.size)⟩
    · have g1 : (E == 0) = false := by simpa using g
      have HT : Hid (R = E) := by
        show _ = _
        rw [← HR.out,if_neg g]
      clear g
      go_wp2_with (first
        | (go_at_call 108;(with_reducible refine (HE.out).mono ?_);rintro e w6 ⟨rfl,hb2⟩
           (have X6 := Lib.hid (lies_below XB.out hb2 (lies_lt XB.out)))
           (have V6 := Lib.hid (lies_below VB.out hb2 (lies_lt VB.out)))
           (have B6 := Lib.hid (BB.out.trans (hb2.mono BB.out.size)))
           (clear hb2 x0 x1 x2 x3 x4 x5 x6 x7 p0 p1 p2 p3 p4 p5 p6 p7 p8 p9 p10)
           (obtain ⟨x0,x1,x2,x3,x4,x5,x6,x7⟩ := cells_8 V6.out)
           (obtain ⟨p0,p1,p2,p3,p4,p5,p6,p7,p8,p9,p10⟩ := cells_11 X6.out)))
      go_returns
      rw [HT.out]
      exact ⟨rfl,B6.out⟩
end Go.Proofs.YtdgkanamceeheaaGreat
set_option maxRecDepth 100000
namespace Go.Proofs.YtdgkanamceeheaaGreat
open Go.RowKit Go.Maps
structure Wy where
  host : Int
  out : Bool
  vl : Int
  udp : Int
  h1 : (Lit.int .i64 host).wf = true
  h2 : (Lit.int .i64 vl).wf = true
  h3 : (Lit.int .i64 udp).wf = true
abbrev Wy.val (k : Wy) : Value := .agg #[.int .i64 k.host,.bool k.out,.int .i64 k.vl,.int .i64 k.udp]
theorem Wy.val_inj {x y : Wy} (h : x.val = y.val) : x = y := by
  obtain ⟨a,b,c,d,_,_,_⟩ := x
  obtain ⟨a',b',c',d',_,_,_⟩ := y
  simp only [Wy.val,Value.agg.injEq,Array.mk.injEq,List.cons.injEq,Value.int.injEq,Value.bool.injEq,true_and,and_true] at h
  obtain ⟨h1,h2,h3,h4⟩ := h
  subst h1;subst h2;subst h3;subst h4
  rfl
theorem wide72 : (match Tryz.prog.underlying 124 with | some (.array _ _) | some (.struct _) => true | _ => false) = true := by kernel_rfl
theorem law72 : Keyed Tryz.prog 124 := Keyed.of_law (deep_law (m := 3) (by omega) (by kernel_rfl) (by kernel_rfl) wide72)
theorem lits3 (D : Nat) (x : Int) (h : (Lit.int .i64 x).wf = true) : Tryz.prog.keyLits (D + 1) 3 [.int .i64 x] = some [.int .i64 x] := by
  unfold Program.keyLits
  rw [Tryz.underlying3]
  simp only
  rw [if_pos ⟨trivial,h⟩]
theorem lits4 (D : Nat) (x : Bool) : Tryz.prog.keyLits (D + 1) 4 [.bool x] = some [.bool x] := by
  unfold Program.keyLits
  rw [Tryz.underlying4]
theorem cells3' : Tryz.prog.cellsOf 3 = 1 := by kernel_rfl
theorem cells4' : Tryz.prog.cellsOf 4 = 1 := by kernel_rfl
theorem cells72 : Tryz.prog.cellsOf 124 = 4 := by kernel_rfl
theorem key_some (k : Wy) : ∃ l,keyOf Tryz.prog 124 k.val = some l := by
  obtain ⟨m0,hm0⟩ : ∃ m0,Tryz.prog.types.size = m0 + 2 := ⟨Tryz.prog.types.size - 2,by have : 1 < Tryz.prog.types.size := of_decide_eq_true (by kernel_rfl);omega⟩
  have hkt : Tryz.prog.keyType 124 = true := by kernel_rfl
  unfold keyOf
  simp only [Tryz.underlying124]
  rw [if_pos (by simp [hkt,Value.formed,Tryz.underlying124,cells72]),hm0]
  unfold Program.keyLits
  simp only [Tryz.underlying124,Value.cells,cells72]
  rw [if_pos ⟨rfl,by kernel_rfl⟩]
  simp only [List.mapM_cons,List.mapM_nil,cells3',cells4',List.drop_zero,List.drop_succ_cons,List.take_succ_cons,List.take_zero]
  simp only [lits4,lits3 _ _ k.h1,lits3 _ _ k.h2,lits3 _ _ k.h3]
  simp
noncomputable def kl (k : Wy) : Lit := (key_some k).choose
theorem key_kl (k : Wy) : keyOf Tryz.prog 124 k.val = some (kl k) := (key_some k).choose_spec
theorem kl_inj {x y : Wy} (h : kl x = kl y) : x = y := Wy.val_inj (law72.inj (key_kl x) (h ▸ key_kl y))
theorem kl_key (k : Wy) : WideAt.IsKeyLit (kl k) := law72.key (key_kl k)
theorem zero73 (w : World) : (zeroValue 125).run Tryz.prog w = .ok (.agg #[]) w := by kernel_rfl
def sameWy (p : Px) (y : Wy) : Bool := decide (p.host = y.host) && decide (p.out = y.out) && decide (p.vl = y.vl) && decide (p.udp = y.udp)
def RepW (D : DataW Unit) (l : List Px) : Prop := ∀ y : Wy,Maps.has D (kl y) = l.any (fun p => sameWy p y)
abbrev nu : DataW Unit := .agg []
theorem repW_put {D : DataW Unit} {l : List Px} (hr : RepW D l) (hD : Maps.IsMap D) (p : Px) (y : Wy) (hy : p.host = y.host ∧ p.out = y.out ∧ p.vl = y.vl ∧ p.udp = y.udp) : RepW (D.put (kl y) nu) (l ++ [p]) := fun z => by
  rw [List.any_append]
  simp only [List.any_cons,List.any_nil,Bool.or_false]
  by_cases e : z = y
  · subst e
    rw [has_put_same hD (kl_key z)]
    have : sameWy p z = true := by simp [sameWy,hy.1,hy.2.1,hy.2.2.1,hy.2.2.2]
    rw [this,Bool.or_true]
  · rw [has_put_other (fun h => e (kl_inj h)),hr z]
    have : sameWy p z = false := by
      cases hs : sameWy p z with
      | false => rfl
      | true =>
        simp only [sameWy,Bool.and_eq_true,decide_eq_true_eq] at hs
        exact absurd (Wy.val_inj (by simp only [Wy.val,← hs.1.1.1,← hs.1.1.2,← hs.1.2,← hs.2,hy.1,hy.2.1,hy.2.2.1,hy.2.2.2])) e
    rw [this,Bool.or_false]
def aheadP (l : List Px) : Int := match l.getLast? with
  | some u => u.id
  | none => 0
theorem aheadP_take (l : List Px) (k : Nat) (h : k < l.length) : aheadP (l.take (k + 1)) = l[k].id := by
  rw [aheadP,List.take_succ_eq_append_getElem h,List.getLast?_append];rfl
theorem mayP_iff {parts : List Int} {a b c d e : Int} : mayP parts.length a b c d e = true ↔ ¬ (a < 1 ∨ (c ≠ 1 ∧ c ≠ 2) ∨ PitotConf.hostOf parts b = none ∨ d < 0 ∨ 65535 < d ∨ e < 1 ∨ 8192 < e) := by
  have hh : PitotConf.hostOf parts b = none ↔ ¬ (0 ≤ b ∧ b < (parts.length : Int)) := by
    unfold PitotConf.hostOf
    by_cases h : 0 ≤ b
    · rw [if_pos h,List.getElem?_eq_none_iff];omega
    · rw [if_neg h];simp;omega
  rw [hh]
  simp only [mayP,Bool.and_eq_true,Bool.or_eq_true,decide_eq_true_eq,beq_iff_eq,not_or]
  constructor
  · rintro ⟨h1,h2,h3,h4,h5⟩;exact ⟨by omega,by omega,by omega,by omega,by omega,by omega,by omega⟩
  · rintro ⟨h1,h2,h3,h4,h5,h6,h7⟩;exact ⟨by omega,by omega,by omega,by omega,by omega⟩
theorem end_eq (out : Bool) (host sub vhost vsubs K : Int) (tol : List Int) : (if (out = true ∧ vhost ≠ host) ∨ (out = false ∧ tol.contains host = false) then (20 : Int) else if sub < 0 ∨ (out = true ∧ vsubs ≤ sub) ∨ (out = false ∧ sub ≠ 0) then 1 else K) = if endJ out host sub vhost vsubs tol = 0 then K else endJ out host sub vhost vsubs tol := by
  cases out
  · cases hc : tol.contains host
    · have hE : endJ false host sub vhost vsubs tol = 20 := by rw [endJ,if_neg (show ¬ (false = true) by decide),if_pos hc]
      rw [hE,if_pos (Or.inr ⟨rfl,rfl⟩)];rfl
    · rw [if_neg (by rintro (⟨h,_⟩ | ⟨_,h⟩);cases h;cases h)]
      by_cases h : sub < 0 ∨ sub ≠ 0
      · have e : (decide (0 ≤ sub) && decide (sub ≤ 0)) = false := by
          rw [Bool.and_eq_false_iff,decide_eq_false_iff_not,decide_eq_false_iff_not];omega
        have hE : endJ false host sub vhost vsubs tol = 1 := by rw [endJ,if_neg (show ¬ (false = true) by decide),if_neg (show ¬ (tol.contains host = false) by rw [hc];decide),if_pos e]
        rw [hE,if_pos (by rcases h with h | h;exact Or.inl h;exact Or.inr (Or.inr ⟨rfl,h⟩))];rfl
      · have e : (decide (0 ≤ sub) && decide (sub ≤ 0)) = true := by
          rw [Bool.and_eq_true,decide_eq_true_eq,decide_eq_true_eq];omega
        have hE : endJ false host sub vhost vsubs tol = 0 := by rw [endJ,if_neg (show ¬ (false = true) by decide),if_neg (show ¬ (tol.contains host = false) by rw [hc];decide),if_neg (by rw [e];decide)]
        rw [hE,if_neg (by rintro (h2 | ⟨h2,_⟩ | ⟨_,h2⟩);exact h (Or.inl h2);cases h2;exact h (Or.inr h2))];rfl
  · by_cases h : vhost = host
    · rw [if_neg (by rintro (⟨_,h2⟩ | ⟨h2,_⟩);exact h2 h;cases h2)]
      have e0 : (host == vhost) = true := by rw [h];simp
      by_cases h2 : sub < 0 ∨ vsubs ≤ sub
      · have e : (decide (0 ≤ sub) && decide (sub ≤ vsubs - 1)) = false := by
          rw [Bool.and_eq_false_iff,decide_eq_false_iff_not,decide_eq_false_iff_not];omega
        have hE : endJ true host sub vhost vsubs tol = 1 := by rw [endJ,if_pos rfl,if_neg (show ¬ ((host == vhost) = false) by rw [e0];decide),if_pos e]
        rw [hE,if_pos (by rcases h2 with h2 | h2;exact Or.inl h2;exact Or.inr (Or.inl ⟨rfl,h2⟩))];rfl
      · have e : (decide (0 ≤ sub) && decide (sub ≤ vsubs - 1)) = true := by
          rw [Bool.and_eq_true,decide_eq_true_eq,decide_eq_true_eq];omega
        have hE : endJ true host sub vhost vsubs tol = 0 := by rw [endJ,if_pos rfl,if_neg (show ¬ ((host == vhost) = false) by rw [e0];decide),if_neg (by rw [e];decide)]
        rw [hE,if_neg (by rintro (h3 | ⟨_,h3⟩ | ⟨h3,_⟩);exact h2 (Or.inl h3);exact h2 (Or.inr h3);cases h3)];rfl
    · have e : (host == vhost) = false := by simp;exact fun h2 => h h2.symm
      have hE : endJ true host sub vhost vsubs tol = 20 := by rw [endJ,if_pos rfl,if_pos e]
      rw [hE,if_pos (Or.inl ⟨rfl,h⟩)];rfl
theorem kind_eq (kind depth fresh size smax t : Int) (out : Bool) (hk : kind = 1 ∨ kind = 2) : (if kind = 2 ∧ (depth < 1 ∨ 64 < depth ∨ fresh ≠ 0) then (1 : Int) else if kind = 1 ∧ (depth ≠ 0 ∨ (out = true ∧ fresh ≠ 0) ∨ (out = false ∧ (fresh < 1 ∨ 1099511627776 < fresh))) then 1 else if kind = 1 ∧ smax - 47 < size then 11 else t) = if kindJ kind depth fresh size out smax = 0 then t else kindJ kind depth fresh size out smax := by
  rcases hk with rfl | rfl
  · have n1 : ¬ (((1 : Int) == 2) = true) := by decide
    rw [if_neg (show ¬ ((1 : Int) = 2 ∧ (depth < 1 ∨ 64 < depth ∨ fresh ≠ 0)) by omega)]
    by_cases h : depth = 0
    · have e0 : ¬ ((depth == 0) = false) := by simp [h]
      have hf : freshOk out fresh = false ↔ ((out = true ∧ fresh ≠ 0) ∨ (out = false ∧ (fresh < 1 ∨ 1099511627776 < fresh))) := by
        unfold freshOk
        cases out
        · rw [if_neg (show ¬ (false = true) by decide),Bool.and_eq_false_iff,decide_eq_false_iff_not,decide_eq_false_iff_not]
          constructor
          · intro h;right;exact ⟨rfl,by omega⟩
          · rintro (⟨h,_⟩ | ⟨_,h⟩)
            · cases h
            · omega
        · rw [if_pos rfl,beq_eq_false_iff_ne]
          constructor
          · intro h;exact Or.inl ⟨rfl,h⟩
          · rintro (⟨_,h⟩ | ⟨h,_⟩)
            · exact h
            · cases h
      by_cases h2 : freshOk out fresh = false
      · have hE : kindJ 1 depth fresh size out smax = 1 := by rw [kindJ,if_neg n1,if_neg e0,if_pos h2]
        rw [hE,if_pos ⟨rfl,Or.inr (hf.1 h2)⟩];rfl
      · rw [if_neg (by rintro ⟨_,h3 | h3⟩;exact h3 h;exact h2 (hf.2 h3))]
        by_cases h3 : smax - 47 < size
        · have hE : kindJ 1 depth fresh size out smax = 11 := by rw [kindJ,if_neg n1,if_neg e0,if_neg h2,if_pos (decide_eq_true h3)]
          rw [hE,if_pos ⟨rfl,h3⟩];rfl
        · have hE : kindJ 1 depth fresh size out smax = 0 := by rw [kindJ,if_neg n1,if_neg e0,if_neg h2,if_neg (by rw [decide_eq_false h3];decide)]
          rw [hE,if_neg (fun h4 => h3 h4.2)];rfl
    · have e0 : (depth == 0) = false := by simpa using h
      have hE : kindJ 1 depth fresh size out smax = 1 := by rw [kindJ,if_neg n1,if_pos e0]
      rw [hE,if_pos ⟨rfl,Or.inl h⟩];rfl
  · have n2 : ((2 : Int) == 2) = true := by decide
    by_cases h : depth < 1 ∨ 64 < depth ∨ fresh ≠ 0
    · rw [if_pos ⟨rfl,h⟩]
      by_cases h1 : (decide (1 ≤ depth) && decide (depth ≤ 64)) = false
      · have hE : kindJ 2 depth fresh size out smax = 1 := by rw [kindJ,if_pos n2,if_pos h1]
        rw [hE];rfl
      · have h1' : (decide (1 ≤ depth) && decide (depth ≤ 64)) = true := by simpa using h1
        rw [Bool.and_eq_true,decide_eq_true_eq,decide_eq_true_eq] at h1'
        have e : (fresh == 0) = false := by rw [beq_eq_false_iff_ne];omega
        have hE : kindJ 2 depth fresh size out smax = 1 := by rw [kindJ,if_pos n2,if_neg h1,if_pos e]
        rw [hE];rfl
    · have h1 : (decide (1 ≤ depth) && decide (depth ≤ 64)) = true := by
        rw [Bool.and_eq_true,decide_eq_true_eq,decide_eq_true_eq];omega
      have e : (fresh == 0) = true := by rw [beq_iff_eq];omega
      have hE : kindJ 2 depth fresh size out smax = 0 := by rw [kindJ,if_pos n2,if_neg (by rw [h1];decide),if_neg (by rw [e];decide)]
      rw [hE,if_neg (fun h4 => h h4.2),if_neg (fun h4 => by have := h4.1;omega),if_neg (fun h4 => by have := h4.1;omega)];rfl
theorem portJ_eq (parts : List Int) (vls : List Vx) (l : List Px) (k : Nat) (h : k < l.length) : PitotConf.portJ parts (vls.map Vx.pl) ((l.map Px.pl).take k) ((l.map Px.pl)[k]'(by simpa using h)) = if 512 ≤ k then 1 else if portP parts vls (aheadP (l.take k)) l[k] = 0 then (if (l.take k).any (fun q => decide (q.host = l[k].host) && decide (q.out = l[k].out) && decide (q.vl = l[k].vl) && decide (q.udp = l[k].udp)) = true then 21 else 0) else portP parts vls (aheadP (l.take k)) l[k] := by
  have hlen : ((l.map Px.pl).take k).length = k := by simp;omega
  have hlast : ((l.map Px.pl).take k).getLast? = ((l.take k).getLast?).map Px.pl := by rw [← List.map_take,List.getLast?_map]
  have hany : ∀ x : Px,((l.map Px.pl).take k).any (fun q => decide (q.host = x.pl.host) && decide (q.out = x.pl.out) && decide (q.vl = x.pl.vl) && decide (q.udp = x.pl.udp)) = (l.take k).any (fun q => decide (q.host = x.host) && decide (q.out = x.out) && decide (q.vl = x.vl) && decide (q.udp = x.udp)) := fun x => by
    rw [← List.map_take,List.any_map];rfl
  rw [PitotConf.portJ,hlen,List.getElem_map,hlast,hany]
  generalize l[k] = x
  generalize (l.take k).any (fun q => decide (q.host = x.host) && decide (q.out = x.out) && decide (q.vl = x.vl) && decide (q.udp = x.udp)) = T
  by_cases h1 : 512 ≤ k
  · rw [if_pos (Or.inl h1),if_pos h1]
  rw [if_neg h1]
  obtain ⟨R,hR⟩ : ∃ R,portP parts vls (aheadP (l.take k)) x = R := ⟨_,rfl⟩
  rw [hR]
  have hmay := @mayP_iff parts x.id x.part x.kind x.udp x.size
  by_cases h2 : mayP parts.length x.id x.part x.kind x.udp x.size = false
  · have : R = 1 := by rw [← hR,portP,if_pos h2]
    rw [this,if_neg (show ¬ ((1 : Int) = 0) by decide)]
    apply if_pos
    right
    apply Classical.byContradiction
    intro hn
    have := hmay.2 hn
    rw [this] at h2;cases h2
  have h2 : mayP parts.length x.id x.part x.kind x.udp x.size = true := by simpa using h2
  have hok := hmay.1 h2
  have hbad : ¬ (512 ≤ k ∨ x.pl.id < 1 ∨ (x.pl.kind ≠ 1 ∧ x.pl.kind ≠ 2) ∨ PitotConf.hostOf parts x.pl.part = none ∨ x.pl.udp < 0 ∨ 65535 < x.pl.udp ∨ x.pl.size < 1 ∨ 8192 < x.pl.size) := by
    rintro (q | q)
    · exact h1 q
    · exact hok q
  rw [if_neg hbad]
  have hid : 1 ≤ x.id := by simp only [not_or] at hok;omega
  have hkind : x.kind = 1 ∨ x.kind = 2 := by simp only [not_or] at hok;omega
  have h25 : ((match (Option.map Px.pl (l.take k).getLast?) with | some q => decide (x.pl.id ≤ q.id) | none => false) = true) ↔ decide (x.id ≤ aheadP (l.take k)) = true := by
    rw [aheadP]
    cases (l.take k).getLast? with
    | none => simp;omega
    | some u => exact Iff.rfl
  by_cases h3 : decide (x.id ≤ aheadP (l.take k)) = true
  · have : R = 25 := by rw [← hR,portP,if_neg (by rw [h2];decide),if_pos h3]
    rw [this,if_neg (show ¬ ((25 : Int) = 0) by decide)]
    exact if_pos (h25.2 h3)
  refine (if_neg (fun h => h3 (h25.1 h))).trans ?_
  by_cases h4 : PitotConf.hostOf parts x.part ≠ some x.host
  · have : R = 20 := by rw [← hR,portP,if_neg (by rw [h2];decide),if_neg h3,if_pos h4]
    rw [this,if_neg (show ¬ ((20 : Int) = 0) by decide)]
    exact if_pos h4
  refine (if_neg h4).trans ?_
  have hvl : PitotConf.vlOf (vls.map Vx.pl) x.pl.vl = (findVx vls x.vl).map Vx.pl := findVx_pl vls x.vl
  rw [hvl]
  cases hf : findVx vls x.vl with
  | none =>
    have : R = 20 := by rw [← hR,portP,if_neg (by rw [h2];decide),if_neg h3,if_neg h4,hf]
    rw [this];rfl
  | some v =>
    have hRE : R = if endJ x.out x.host x.sub v.host v.subs v.to = 0 then kindJ x.kind x.depth x.fresh x.size x.out v.smax else endJ x.out x.host x.sub v.host v.subs v.to := by rw [← hR,portP,if_neg (by rw [h2];decide),if_neg h3,if_neg h4,hf]
    show (if (x.out = true ∧ v.host ≠ x.host) ∨ (x.out = false ∧ v.to.contains x.host = false) then (20 : Int) else if x.sub < 0 ∨ (x.out = true ∧ v.subs ≤ x.sub) ∨ (x.out = false ∧ x.sub ≠ 0) then 1 else if x.kind = 2 ∧ (x.depth < 1 ∨ 64 < x.depth ∨ x.fresh ≠ 0) then 1 else if x.kind = 1 ∧ (x.depth ≠ 0 ∨ (x.out = true ∧ x.fresh ≠ 0) ∨ (x.out = false ∧ (x.fresh < 1 ∨ 1099511627776 < x.fresh))) then 1 else if x.kind = 1 ∧ v.smax - 47 < x.size then 11 else if T = true then 21 else 0) = _
    rw [end_eq,kind_eq _ _ _ _ _ _ _ hkind,hRE]
    by_cases g : endJ x.out x.host x.sub v.host v.subs v.to = 0
    · rw [if_pos g,if_pos g]
    · rw [if_neg g,if_neg g,if_neg g]
end Go.Proofs.YtdgkanamceeheaaGreat
set_option maxRecDepth 100000
namespace Go.Proofs.YtdgkanamceeheaaGreat
open Go.RowKit
theorem not_lt_dec (a b : Int) : (!decide (a < b)) = decide (b ≤ a) := by
  by_cases h : a < b
  · rw [decide_eq_true h,decide_eq_false (by omega)];rfl
  · rw [decide_eq_false h,decide_eq_true (by omega)];rfl
theorem refPart_any (hosts major : Int) (pA wA vA qA : Option Addr) (pl pc wl wk vl vc ql qc : Nat) (n : Int) (w : World) : Calls Tryz.prog 92 #[.agg #[.int .i64 hosts,.slice pA pl pc,.int .i64 major,.slice wA wl wk,.slice vA vl vc,.slice qA ql qc],.int .i64 n] w fun e w' => e = .returned (.bool (decide (0 ≤ n) && decide (n < (pl : Int)))) ∧ Below w.heap.size w w' := by
  have kb : Hid (Below w.heap.size w (w.alloc (.cells #[.int .i64 hosts,.slice pA pl pc,.int .i64 major,.slice wA wl wk,.slice vA vl vc,.slice qA ql qc] 28))) := (Below.refl _ w).alloc (Nat.le_refl _) _
  by_cases h1 : 0 ≤ n
  · have e1 : decide (0 ≤ n) = true := decide_eq_true h1
    obtain ⟨R,hR⟩ : ∃ R,decide (n < (pl : Int)) = R := ⟨_,rfl⟩
    rw [e1,hR]
    go_enter Tryz.func92,Tryz.ntmps92
    go_wp2
    go_returns
    exact ⟨rfl,kb.out⟩
  · have e1 : decide (0 ≤ n) = false := decide_eq_false h1
    rw [e1]
    go_enter Tryz.func92,Tryz.ntmps92
    go_wp2
    go_returns
    exact ⟨rfl,kb.out⟩
theorem refLargest_any (n : Int) (w : World) (h0 : -9223372036854775000 ≤ n) (h1 : n ≤ 9223372036854775807) : Calls Tryz.prog 95 #[.int .i64 n] w fun e w' => e = .returned (.int .i64 (n - 47)) ∧ Below w.heap.size w w' := by
  have e : IntKind.i64.wrap (n - 47) = n - 47 := IntWalk.i64_in _ (by omega)
  go_enter Tryz.func95,Tryz.ntmps95
  go_wp2
  go_returns
  exact ⟨rfl,Below.refl _ _⟩
end Go.Proofs.YtdgkanamceeheaaGreat
