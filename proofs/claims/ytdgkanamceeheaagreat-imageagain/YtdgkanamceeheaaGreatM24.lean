/- The program looks at a port. -/
import Derived.Test.YtdgkanamceeheaaGreatM23
set_option linter.unusedVariables false
set_option maxRecDepth 100000
namespace Go.Proofs.YtdgkanamceeheaaGreat
open Go.RowKit

/-- What is wrong with a port behind one of that number, its twins aside. -/
def portP (parts : List Int) (vls : List Vx) (ahead : Int) (p : Px) : Int :=
  if mayP parts.length p.id p.part p.kind p.udp p.size = false then 1
  else if decide (p.id ≤ ahead) = true then 25
  else if PitotConf.hostOf parts p.part ≠ some p.host then 20
  else match findVx vls p.vl with
  | none => 20
  | some v => if endJ p.out p.host p.sub v.host v.subs v.to = 0 then kindJ p.kind p.depth p.fresh p.size p.out v.smax else endJ p.out p.host p.sub v.host v.subs v.to
theorem mayP_part {pl : Nat} {a b c d e : Int} (h : mayP pl a b c d e = true) : 0 ≤ b ∧ b < pl := by
  simp only [mayP, Bool.and_eq_true, decide_eq_true_eq] at h
  exact h.2.2.1
/-- The links of a network that has been looked at are of a size. -/
def Sized (l : List Vx) : Prop := ∀ v ∈ l, v.to.length ≤ 5000 ∧ 0 ≤ v.smax ∧ v.smax ≤ 10000 ∧ 0 ≤ v.subs ∧ v.subs ≤ 10000
theorem drew_lies {w : World} {g : Nat} {o : Obj} (h : w.heap[g]? = some o) (n : Nat) : (w.drewN n).heap[g]? = some o := h
set_option maxHeartbeats 8000000 in
theorem judgePort_any (c : Cx) (qid qhost qpart qkind qvl qsub qudp qsize qdepth qfresh : Int) (qout : Bool) (ahead : Int) (w : World) (hc : c.Held w) (hpl : c.parts.length ≤ maxLen) (hvl : c.vls.length ≤ maxLen) (hz : Sized c.vls) : Calls Tryz.prog 79 #[c.val, .agg #[.int .i64 qid, .int .i64 qhost, .int .i64 qpart, .int .i64 qkind, .bool qout, .int .i64 qvl, .int .i64 qsub, .int .i64 qudp, .int .i64 qsize, .int .i64 qdepth, .int .i64 qfresh], .int .i64 ahead] w fun e w' => e = .returned (.int .i64 (portP c.parts c.vls ahead ⟨qid, qhost, qpart, qkind, qout, qvl, qsub, qudp, qsize, qdepth, qfresh⟩)) ∧ Below w.heap.size w w' := by
  have HVN := Lib.hid (fun (w' : World) (hb : Below w.heap.size w w') (h : findVx c.vls qvl = none) => VL_none c qvl w' (hc.below hb) hvl h)
  have HVS := Lib.hid (fun (w' : World) (hb : Below w.heap.size w w') (x : Vx) (h : findVx c.vls qvl = some x) => VL_some c qvl x w' (hc.below hb) hvl h (hz x (List.mem_of_find?_eq_some h)).1)
  have HPA : Hid (IntsAt w c.partsA c.parts) := hc.1
  have HZ := Lib.hid hz
  unfold portP
  simp only
  obtain ⟨hosts, pA, pc, parts, major, wA, wk, wins, vA, vc, vls, qA, qc, ports⟩ := c
  simp only at HVN HVS HPA HZ hpl ⊢
  have HVN : Hid (∀ (w' : World) (hb : Below w.heap.size w w') (h : findVx vls qvl = none), Calls Tryz.prog 107 #[.agg #[.int .i64 hosts, .slice pA parts.length pc, .int .i64 major, .slice wA wins.length wk, .slice vA vls.length vc, .slice qA ports.length qc], .int .i64 qvl] w' _) := HVN
  have HVS : Hid (∀ (w' : World) (hb : Below w.heap.size w w') (x : Vx) (h : findVx vls qvl = some x), Calls Tryz.prog 107 #[.agg #[.int .i64 hosts, .slice pA parts.length pc, .int .i64 major, .slice wA wins.length wk, .slice vA vls.length vc, .slice qA ports.length qc], .int .i64 qvl] w' _) := HVS
  show Calls Tryz.prog 79 #[.agg #[.int .i64 hosts, .slice pA parts.length pc, .int .i64 major, .slice wA wins.length wk, .slice vA vls.length vc, .slice qA ports.length qc], .agg #[.int .i64 qid, .int .i64 qhost, .int .i64 qpart, .int .i64 qkind, .bool qout, .int .i64 qvl, .int .i64 qsub, .int .i64 qudp, .int .i64 qsize, .int .i64 qdepth, .int .i64 qfresh], .int .i64 ahead] w _
  clear hc hvl hz
  generalize wins.length = wl, ports.length = ql, vls.length = vl at HVN HVS ⊢
  generalize hpn : parts.length = pl at HVN HVS hpl ⊢
  have HM := fun w => mayPort_any hosts major pA wA vA qA pl pc wl wk vl vc ql qc qid qhost qpart qkind qvl qsub qudp qsize qdepth qfresh qout w hpl
  have HMP : Hid (mayP pl qid qpart qkind qudp qsize = true → 0 ≤ qpart ∧ qpart < (pl : Int)) := mayP_part
  generalize mayP pl qid qpart qkind qudp qsize = b1 at HM HMP ⊢
  generalize hb2 : decide (qid ≤ ahead) = b2
  have HM := Lib.hid HM
  obtain ⟨R, HR⟩ : ∃ R, Hid ((if b1 = false then (1 : Int) else if b2 = true then 25 else if PitotConf.hostOf parts qpart ≠ some qhost then 20 else match findVx vls qvl with
    | none => 20
    | some v => if endJ qout qhost qsub v.host v.subs v.to = 0 then kindJ qkind qdepth qfresh qsize qout v.smax else endJ qout qhost qsub v.host v.subs v.to) = R) := ⟨_, rfl⟩
  rw [show (if b1 = false then (1 : Int) else if b2 = true then 25 else if PitotConf.hostOf parts qpart ≠ some qhost then 20 else match findVx vls qvl with
    | none => 20
    | some v => if endJ qout qhost qsub v.host v.subs v.to = 0 then kindJ qkind qdepth qfresh qsize qout v.smax else endJ qout qhost qsub v.host v.subs v.to) = R from HR.out]
  go_enter Tryz.func79, Tryz.ntmps79
  go_upto_region 1 with (fail)
  have CB : Hid (((w.alloc (.cells #[.int .i64 hosts, .slice pA pl pc, .int .i64 major, .slice wA wl wk, .slice vA vl vc, .slice qA ql qc] 28)).alloc (.cells #[.int .i64 qid, .int .i64 qhost, .int .i64 qpart, .int .i64 qkind, .bool qout, .int .i64 qvl, .int .i64 qsub, .int .i64 qudp, .int .i64 qsize, .int .i64 qdepth, .int .i64 qfresh] 62)).heap[w.heap.size]? = some (.cells #[.int .i64 hosts, .slice pA pl pc, .int .i64 major, .slice wA wl wk, .slice vA vl vc, .slice qA ql qc] 28)) := lies_alloc (heap_alloc_new w _) _
  have XB : Hid (((w.alloc (.cells #[.int .i64 hosts, .slice pA pl pc, .int .i64 major, .slice wA wl wk, .slice vA vl vc, .slice qA ql qc] 28)).alloc (.cells #[.int .i64 qid, .int .i64 qhost, .int .i64 qpart, .int .i64 qkind, .bool qout, .int .i64 qvl, .int .i64 qsub, .int .i64 qudp, .int .i64 qsize, .int .i64 qdepth, .int .i64 qfresh] 62)).heap[w.heap.size + 1]? = some (.cells #[.int .i64 qid, .int .i64 qhost, .int .i64 qpart, .int .i64 qkind, .bool qout, .int .i64 qvl, .int .i64 qsub, .int .i64 qudp, .int .i64 qsize, .int .i64 qdepth, .int .i64 qfresh] 62)) := by
    have := heap_alloc_new (w.alloc (.cells #[.int .i64 hosts, .slice pA pl pc, .int .i64 major, .slice wA wl wk, .slice vA vl vc, .slice qA ql qc] 28)) (.cells #[.int .i64 qid, .int .i64 qhost, .int .i64 qpart, .int .i64 qkind, .bool qout, .int .i64 qvl, .int .i64 qsub, .int .i64 qudp, .int .i64 qsize, .int .i64 qdepth, .int .i64 qfresh] 62)
    rw [World.size_alloc] at this
    exact this
  have BB : Hid (Below w.heap.size w ((w.alloc (.cells #[.int .i64 hosts, .slice pA pl pc, .int .i64 major, .slice wA wl wk, .slice vA vl vc, .slice qA ql qc] 28)).alloc (.cells #[.int .i64 qid, .int .i64 qhost, .int .i64 qpart, .int .i64 qkind, .bool qout, .int .i64 qvl, .int .i64 qsub, .int .i64 qudp, .int .i64 qsize, .int .i64 qdepth, .int .i64 qfresh] 62))) := (((Below.refl _ w).alloc (Nat.le_refl _) _)).alloc (((Below.refl _ w).alloc (Nat.le_refl _) _)).size _
  generalize (w.alloc (.cells #[.int .i64 hosts, .slice pA pl pc, .int .i64 major, .slice wA wl wk, .slice vA vl vc, .slice qA ql qc] 28)).alloc (.cells #[.int .i64 qid, .int .i64 qhost, .int .i64 qpart, .int .i64 qkind, .bool qout, .int .i64 qvl, .int .i64 qsub, .int .i64 qudp, .int .i64 qsize, .int .i64 qdepth, .int .i64 qfresh] 62) = W1 at CB XB BB ⊢
  obtain ⟨c0, c1, c2, c3, c4, c5⟩ := cells_6 CB.out
  obtain ⟨p0, p1, p2, p3, p4, p5, p6, p7, p8, p9, p10⟩ := cells_11 XB.out
  cases b1
  · have HT : Hid (R = 1) := HR.out.symm
    go_wp2_with (first
      | (go_at_call 106; (with_reducible refine (HM.out _).mono ?_); rintro e w2 ⟨rfl, hb2⟩
         (have C2 := Lib.hid (lies_below CB.out hb2 (lies_lt CB.out)))
         (have X2 := Lib.hid (lies_below XB.out hb2 (lies_lt XB.out)))
         (have B2 := Lib.hid (BB.out.trans (hb2.mono BB.out.size)))
         (clear hb2 CB XB BB c0 c1 c2 c3 c4 c5 p0 p1 p2 p3 p4 p5 p6 p7 p8 p9 p10)
         (have CB := C2)
         (have XB := X2)
         (have BB := B2)
         (clear C2 X2 B2)
         (obtain ⟨c0, c1, c2, c3, c4, c5⟩ := cells_6 CB.out)
         (obtain ⟨p0, p1, p2, p3, p4, p5, p6, p7, p8, p9, p10⟩ := cells_11 XB.out)))
    go_returns
    rw [HT.out]
    exact ⟨rfl, BB.out⟩
  cases b2
  case true =>
    have HT : Hid (R = 25) := HR.out.symm
    go_wp2_with (first
      | (go_at_call 106; (with_reducible refine (HM.out _).mono ?_); rintro e w2 ⟨rfl, hb2⟩
         (have C2 := Lib.hid (lies_below CB.out hb2 (lies_lt CB.out)))
         (have X2 := Lib.hid (lies_below XB.out hb2 (lies_lt XB.out)))
         (have B2 := Lib.hid (BB.out.trans (hb2.mono BB.out.size)))
         (clear hb2 CB XB BB c0 c1 c2 c3 c4 c5 p0 p1 p2 p3 p4 p5 p6 p7 p8 p9 p10)
         (have CB := C2)
         (have XB := X2)
         (have BB := B2)
         (clear C2 X2 B2)
         (obtain ⟨c0, c1, c2, c3, c4, c5⟩ := cells_6 CB.out)
         (obtain ⟨p0, p1, p2, p3, p4, p5, p6, p7, p8, p9, p10⟩ := cells_11 XB.out)))
    go_returns
    rw [HT.out]
    exact ⟨rfl, BB.out⟩
  obtain ⟨hp0, hp1⟩ := HMP.out rfl
  have hr := HR.out
  rw [if_neg (show ¬ (true = false) by decide), if_neg (show ¬ (false = true) by decide)] at hr
  clear HR
  have hjl : qpart.toNat < parts.length := by rw [hpn]; omega
  have hho : PitotConf.hostOf parts qpart = some parts[qpart.toNat] := by
    rw [PitotConf.hostOf, if_pos hp0, List.getElem?_eq_getElem hjl]
  rw [hho] at hr
  clear hho
  obtain ⟨b, off, rfl, hbw, hat⟩ := HPA.out.get hjl
  generalize parts[qpart.toNat] = y at hat hr
  generalize hj : qpart.toNat = j at hat
  have HR := Lib.hid hr
  clear hr
  go_upto_region 5 with (first
    | (go_at_call 106; (with_reducible refine (HM.out _).mono ?_); rintro e w2 ⟨rfl, hb2⟩
       (have C2 := Lib.hid (lies_below CB.out hb2 (lies_lt CB.out)))
       (have X2 := Lib.hid (lies_below XB.out hb2 (lies_lt XB.out)))
       (have B2 := Lib.hid (BB.out.trans (hb2.mono BB.out.size)))
       (clear hb2 CB XB BB c0 c1 c2 c3 c4 c5 p0 p1 p2 p3 p4 p5 p6 p7 p8 p9 p10)
       (have CB := C2)
       (have XB := X2)
       (have BB := B2)
       (clear C2 X2 B2)
       (obtain ⟨c0, c1, c2, c3, c4, c5⟩ := cells_6 CB.out)
       (obtain ⟨p0, p1, p2, p3, p4, p5, p6, p7, p8, p9, p10⟩ := cells_11 XB.out)))
  have hat := (BB.out.cell hbw).trans hat
  obtain ⟨b3, hb3⟩ : ∃ b3, (qhost == y) = b3 := ⟨_, rfl⟩
  have hb3' : decide (qhost = y) = b3 := hb3
  have hb3'' : (qhost != y) = !b3 := by rw [← hb3]; rfl
  cases b3
  · have HT : Hid (R = 20) := by
      show _ = _
      rw [← HR.out, if_pos (show some y ≠ some qhost by intro h; injection h with h; subst h; simp at hb3)]
    go_quiet (fail)
    go_wp2
    go_returns
    rw [HT.out]
    exact ⟨rfl, below_drewN BB.out nq⟩
  have hy : y = qhost := (of_decide_eq_true hb3').symm
  have hr := HR.out
  rw [if_neg (show ¬ (some y ≠ some qhost) by rw [hy]; simp)] at hr
  clear hy HR
  have HR := Lib.hid hr
  clear hr
  go_quiet (fail)
  have CD : Hid ((_ : World).heap[w.heap.size]? = _) := drew_lies CB.out nq
  have XD : Hid ((_ : World).heap[w.heap.size + 1]? = _) := drew_lies XB.out nq
  have BD : Hid (Below w.heap.size w _) := below_drewN BB.out nq
  clear hat CB XB BB c0 c1 c2 c3 c4 c5 p0 p1 p2 p3 p4 p5 p6 p7 p8 p9 p10 hb3 hb3' hb3''
  have CB := CD
  have XB := XD
  have BB := BD
  clear CD XD BD
  generalize World.drewN _ nq = w3 at CB XB BB ⊢
  obtain ⟨c0, c1, c2, c3, c4, c5⟩ := cells_6 CB.out
  obtain ⟨p0, p1, p2, p3, p4, p5, p6, p7, p8, p9, p10⟩ := cells_11 XB.out
  cases hf : findVx vls qvl with
  | none =>
    have HV := Lib.hid (HVN.out _ BB.out hf)
    have HT : Hid (R = 20) := by
      show _ = _
      rw [← HR.out, hf]
    clear HVN HVS hf HR
    go_wp2_with (first
      | (go_at_call 107; (with_reducible refine (HV.out).mono ?_); rintro e w4 ⟨rfl, hb2⟩))
    have BB := Lib.hid (BB.out.trans (hb2.mono BB.out.size))
    go_returns
    rw [HT.out]
    exact ⟨rfl, BB.out.trans (((Below.refl _ _).alloc (Nat.le_refl _) _).mono BB.out.size)⟩
  | some v =>
    have HV := Lib.hid (HVS.out _ BB.out v hf)
    have hzv := HZ.out v (List.mem_of_find?_eq_some hf)
    have hr := HR.out
    rw [hf] at hr
    clear HVN HVS hf HR
    simp only at hr
    obtain ⟨vid, vhost, vbag, vsmax, vhigh, vsubs, vskew, vA', vc', vto⟩ := v
    simp only at HV hzv hr
    have HEJ := fun A cap w' (hi : IntsAt w' A vto) => judgeEnd_any qid qhost qpart qkind qvl qsub qudp qsize qdepth qfresh qout vid vhost vbag vsmax vsubs vskew vhigh A vto.length cap vto w' hi rfl (by have := hzv.1; unfold maxLen; omega) (by omega) (by omega)
    have HKJ := fun A cap w' => judgeKind_any qid qhost qpart qkind qvl qsub qudp qsize qdepth qfresh qout vid vhost vbag vsmax vsubs vskew vhigh A vto.length cap w' (by omega) (by omega)
    generalize endJ qout qhost qsub vhost vsubs vto = E at HEJ hr
    generalize kindJ qkind qdepth qfresh qsize qout vsmax = K at HKJ hr
    generalize vto.length = tl at HV HEJ HKJ
    have HEJ := Lib.hid HEJ; have HKJ := Lib.hid HKJ
    have HR := Lib.hid hr
    clear hzv hr
    go_upto_region 8 with (first
      | (go_at_call 107; (with_reducible refine (HV.out).mono ?_); rintro e w4 ⟨⟨A4, cap4, rfl, hi4⟩, hb2⟩
         (have C4 := Lib.hid (lies_below CB.out hb2 (lies_lt CB.out)))
         (have X4 := Lib.hid (lies_below XB.out hb2 (lies_lt XB.out)))
         (have B4 := Lib.hid (BB.out.trans (hb2.mono BB.out.size)))
         (clear hb2 CB XB BB c0 c1 c2 c3 c4 c5 p0 p1 p2 p3 p4 p5 p6 p7 p8 p9 p10)
         (have CB := C4)
         (have XB := X4)
         (have BB := B4)
         (clear C4 X4 B4)
         (obtain ⟨c0, c1, c2, c3, c4, c5⟩ := cells_6 CB.out)
         (obtain ⟨p0, p1, p2, p3, p4, p5, p6, p7, p8, p9, p10⟩ := cells_11 XB.out)))
    have VB : Hid ((w4.alloc (.cells #[.int .i64 vid, .int .i64 vhost, .int .i64 vbag, .int .i64 vsmax, .bool vhigh, .int .i64 vsubs, .int .i64 vskew, .slice A4 tl cap4] 60)).heap[w4.heap.size]? = some (.cells #[.int .i64 vid, .int .i64 vhost, .int .i64 vbag, .int .i64 vsmax, .bool vhigh, .int .i64 vsubs, .int .i64 vskew, .slice A4 tl cap4] 60)) := heap_alloc_new w4 _
    have AB : Hid (Below w4.heap.size w4 (w4.alloc (.cells #[.int .i64 vid, .int .i64 vhost, .int .i64 vbag, .int .i64 vsmax, .bool vhigh, .int .i64 vsubs, .int .i64 vskew, .slice A4 tl cap4] 60))) := (Below.refl _ w4).alloc (Nat.le_refl _) _
    have CD := Lib.hid (lies_alloc (o := .cells #[.int .i64 vid, .int .i64 vhost, .int .i64 vbag, .int .i64 vsmax, .bool vhigh, .int .i64 vsubs, .int .i64 vskew, .slice A4 tl cap4] 60) CB.out)
    have XD := Lib.hid (lies_alloc (o := .cells #[.int .i64 vid, .int .i64 vhost, .int .i64 vbag, .int .i64 vsmax, .bool vhigh, .int .i64 vsubs, .int .i64 vskew, .slice A4 tl cap4] 60) XB.out)
    have BD : Hid (Below w.heap.size w (w4.alloc (.cells #[.int .i64 vid, .int .i64 vhost, .int .i64 vbag, .int .i64 vsmax, .bool vhigh, .int .i64 vsubs, .int .i64 vskew, .slice A4 tl cap4] 60))) := BB.out.trans (AB.out.mono BB.out.size)
    have I4 : Hid (IntsAt (w4.alloc (.cells #[.int .i64 vid, .int .i64 vhost, .int .i64 vbag, .int .i64 vsmax, .bool vhigh, .int .i64 vsubs, .int .i64 vskew, .slice A4 tl cap4] 60)) A4 vto) := IntsAt.below hi4 AB.out
    clear hi4 AB CB XB BB c0 c1 c2 c3 c4 c5 p0 p1 p2 p3 p4 p5 p6 p7 p8 p9 p10
    have CB := CD
    have XB := XD
    have BB := BD
    clear CD XD BD
    generalize w4.alloc (.cells #[.int .i64 vid, .int .i64 vhost, .int .i64 vbag, .int .i64 vsmax, .bool vhigh, .int .i64 vsubs, .int .i64 vskew, .slice A4 tl cap4] 60) = w5 at VB CB XB BB I4 ⊢
    generalize w4.heap.size = xb at VB ⊢
    obtain ⟨p0, p1, p2, p3, p4, p5, p6, p7, p8, p9, p10⟩ := cells_11 XB.out
    obtain ⟨x0, x1, x2, x3, x4, x5, x6, x7⟩ := cells_8 VB.out
    have HE := Lib.hid (HEJ.out A4 cap4 _ I4.out)
    by_cases g : E = 0
    · have g1 : (E == 0) = true := by rw [g]; rfl
      have HT : Hid (R = K) := by
        show _ = _
        rw [← HR.out, if_pos g]
      clear g
      go_wp2_with (first
        | (go_at_call 108; (with_reducible refine (HE.out).mono ?_); rintro e w6 ⟨rfl, hb2⟩
           (have X6 := Lib.hid (lies_below XB.out hb2 (lies_lt XB.out)))
           (have V6 := Lib.hid (lies_below VB.out hb2 (lies_lt VB.out)))
           (have B6 := Lib.hid (BB.out.trans (hb2.mono BB.out.size)))
           (clear hb2 x0 x1 x2 x3 x4 x5 x6 x7 p0 p1 p2 p3 p4 p5 p6 p7 p8 p9 p10)
           (obtain ⟨x0, x1, x2, x3, x4, x5, x6, x7⟩ := cells_8 V6.out)
           (obtain ⟨p0, p1, p2, p3, p4, p5, p6, p7, p8, p9, p10⟩ := cells_11 X6.out))
        | (go_at_call 109; (with_reducible refine (HKJ.out _ _ _).mono ?_); rintro e w7 ⟨rfl, hb7⟩))
      go_returns
      rw [HT.out]
      exact ⟨rfl, B6.out.trans (hb7.mono B6.out.size)⟩
    · have g1 : (E == 0) = false := by simpa using g
      have HT : Hid (R = E) := by
        show _ = _
        rw [← HR.out, if_neg g]
      clear g
      go_wp2_with (first
        | (go_at_call 108; (with_reducible refine (HE.out).mono ?_); rintro e w6 ⟨rfl, hb2⟩
           (have X6 := Lib.hid (lies_below XB.out hb2 (lies_lt XB.out)))
           (have V6 := Lib.hid (lies_below VB.out hb2 (lies_lt VB.out)))
           (have B6 := Lib.hid (BB.out.trans (hb2.mono BB.out.size)))
           (clear hb2 x0 x1 x2 x3 x4 x5 x6 x7 p0 p1 p2 p3 p4 p5 p6 p7 p8 p9 p10)
           (obtain ⟨x0, x1, x2, x3, x4, x5, x6, x7⟩ := cells_8 V6.out)
           (obtain ⟨p0, p1, p2, p3, p4, p5, p6, p7, p8, p9, p10⟩ := cells_11 X6.out)))
      go_returns
      rw [HT.out]
      exact ⟨rfl, B6.out⟩
end Go.Proofs.YtdgkanamceeheaaGreat
