/- The document's port. -/
import Derived.Test.YtdgkanamceeheaaGreatK23
import Derived.Test.YtdgkanamceeheaaGreatK24
import Derived.Test.YtdgkanamceeheaaGreatK25
import Derived.Test.YtdgkanamceeheaaGreatK29
set_option linter.unusedVariables false
set_option maxRecDepth 100000
namespace Go.Proofs.YtdgkanamceeheaaGreat
open Go.RowKit
theorem pick_c {E c : Int} (h : ∀ K : Int,c = if E = 0 then K else E) : E = c := by
  have := h (c + 1)
  by_cases e : E = 0
  · rw [if_pos e] at this;omega
  · rw [if_neg e] at this;exact this.symm
theorem pick_0 {E : Int} (h : ∀ K : Int,K = if E = 0 then K else E) : E = 0 := by
  apply Classical.byContradiction
  intro e
  have h1 := h 1
  have h2 := h 2
  rw [if_neg e] at h1 h2
  omega
section
variable {out : Bool} {host sub vhost vsubs : Int} {tol : List Int}
theorem r9_iff : ((out && !(vhost == host)) || (!out && !tol.contains host)) = true ↔ (out = true ∧ vhost ≠ host) ∨ (out = false ∧ tol.contains host = false) := by
  cases out <;> simp
theorem r11_iff : (decide (sub < 0) || ((out && decide (vsubs ≤ sub)) || (!out && !(sub == 0)))) = true ↔ sub < 0 ∨ (out = true ∧ vsubs ≤ sub) ∨ (out = false ∧ sub ≠ 0) := by
  cases out <;> simp
theorem end20 (h : ((out && !(vhost == host)) || (!out && !tol.contains host)) = true) : endJ out host sub vhost vsubs tol = 20 := by
  refine pick_c fun K => ?_
  rw [← end_eq,if_pos (r9_iff.1 h)]
theorem end1 (h : ((out && !(vhost == host)) || (!out && !tol.contains host)) = false) (h2 : (decide (sub < 0) || ((out && decide (vsubs ≤ sub)) || (!out && !(sub == 0)))) = true) : endJ out host sub vhost vsubs tol = 1 := by
  refine pick_c fun K => ?_
  rw [← end_eq,if_neg (fun hh => by rw [r9_iff.2 hh] at h;cases h),if_pos (r11_iff.1 h2)]
theorem end0 (h : ((out && !(vhost == host)) || (!out && !tol.contains host)) = false) (h2 : (decide (sub < 0) || ((out && decide (vsubs ≤ sub)) || (!out && !(sub == 0)))) = false) : endJ out host sub vhost vsubs tol = 0 := by
  refine pick_0 fun K => ?_
  rw [← end_eq,if_neg (fun hh => by rw [r9_iff.2 hh] at h;cases h),if_neg (fun hh => by rw [r11_iff.2 hh] at h2;cases h2)]
end
section
variable {kind depth fresh size smax : Int} {out : Bool}
theorem r13_iff : ((kind == 2) && (decide (depth < 1) || (decide (64 < depth) || !(fresh == 0)))) = true ↔ kind = 2 ∧ (depth < 1 ∨ 64 < depth ∨ fresh ≠ 0) := by simp
theorem r16_iff : (!(depth == 0) || ((out && !(fresh == 0)) || (!out && (decide (fresh < 1) || decide (1099511627776 < fresh))))) = true ↔ depth ≠ 0 ∨ (out = true ∧ fresh ≠ 0) ∨ (out = false ∧ (fresh < 1 ∨ 1099511627776 < fresh)) := by
  cases out <;> simp
theorem kind13 (hk : kind = 1 ∨ kind = 2) (h : ((kind == 2) && (decide (depth < 1) || (decide (64 < depth) || !(fresh == 0)))) = true) : kindJ kind depth fresh size out smax = 1 := by
  refine pick_c fun K => ?_
  rw [← kind_eq _ _ _ _ _ _ _ hk,if_pos (r13_iff.1 h)]
theorem kind2 (hk : kind = 2) (h : ((kind == 2) && (decide (depth < 1) || (decide (64 < depth) || !(fresh == 0)))) = false) : kindJ kind depth fresh size out smax = 0 := by
  refine pick_0 fun K => ?_
  rw [← kind_eq _ _ _ _ _ _ _ (.inr hk),if_neg (fun hh => by rw [r13_iff.2 hh] at h;cases h),if_neg (fun hh => by have := hh.1;omega),if_neg (fun hh => by have := hh.1;omega)]
theorem kind16 (hk : kind = 1) (h : (!(depth == 0) || ((out && !(fresh == 0)) || (!out && (decide (fresh < 1) || decide (1099511627776 < fresh))))) = true) : kindJ kind depth fresh size out smax = 1 := by
  refine pick_c fun K => ?_
  rw [← kind_eq _ _ _ _ _ _ _ (.inl hk),if_neg (fun hh => by have := hh.1;omega),if_pos ⟨hk,r16_iff.1 h⟩]
theorem kind18 (hk : kind = 1) (h : (!(depth == 0) || ((out && !(fresh == 0)) || (!out && (decide (fresh < 1) || decide (1099511627776 < fresh))))) = false) (h2 : decide (smax - 47 < size) = true) : kindJ kind depth fresh size out smax = 11 := by
  refine pick_c fun K => ?_
  rw [← kind_eq _ _ _ _ _ _ _ (.inl hk),if_neg (fun hh => by have := hh.1;omega),if_neg (fun hh => by rw [r16_iff.2 hh.2] at h;cases h),if_pos ⟨hk,of_decide_eq_true h2⟩]
theorem kind1 (hk : kind = 1) (h : (!(depth == 0) || ((out && !(fresh == 0)) || (!out && (decide (fresh < 1) || decide (1099511627776 < fresh))))) = false) (h2 : decide (smax - 47 < size) = false) : kindJ kind depth fresh size out smax = 0 := by
  refine pick_0 fun K => ?_
  rw [← kind_eq _ _ _ _ _ _ _ (.inl hk),if_neg (fun hh => by have := hh.1;omega),if_neg (fun hh => by rw [r16_iff.2 hh.2] at h;cases h),if_neg (fun hh => by have := of_decide_eq_false h2;omega)]
end
theorem twin_eq (q : Px) (qhost qvl qudp : Int) (qout : Bool) : ((q.host == qhost) && ((q.out == qout) && ((q.vl == qvl) && (q.udp == qudp)))) = (decide (q.host = qhost) && decide (q.out = qout) && decide (q.vl = qvl) && decide (q.udp = qudp)) := by
  have e : (q.out == qout) = decide (q.out = qout) := by cases q.out <;> cases qout <;> rfl
  rw [e,Bool.and_assoc,Bool.and_assoc];rfl
set_option maxHeartbeats 40000000 in
theorem refPort_any (c : Cx) (i : Nat) (w : World) (hc : c.Held w) (hi : i < c.ports.length) (hql : c.ports.length ≤ 1000) (hpl : c.parts.length ≤ maxLen) (hvl : c.vls.length ≤ maxLen) (hz : Sized c.vls) : Calls Tryz.prog 57 #[c.val,.int .i64 i] w fun e w' => e = .returned (.int .i64 (PitotConf.portJ c.parts (c.vls.map Vx.pl) ((c.ports.map Px.pl).take i) ((c.ports.map Px.pl)[i]'(by simpa using hi)))) ∧ Below w.heap.size w w' := by
  rw [portJ_eq c.parts c.vls c.ports i hi]
  have HVL := Lib.hid (fun (w' : World) (hb : Below w.heap.size w w') (id : Int) => vl_any c id w' (hc.below hb) hvl)
  have HPA : Hid (IntsAt w c.partsA c.parts) := hc.1
  have HVA : Hid (VxsAt w c.vlsA c.vls) := hc.2.2.1
  have HQA : Hid (PxsAt w c.portsA c.ports) := hc.2.2.2
  have HZ := Lib.hid hz
  clear hc hvl hz
  obtain ⟨hosts,pA,pc,parts,major,wA,wk,wins,vA,vc,vls,qA,qc,ports⟩ := c
  simp only [Cx.val] at HVL HPA HVA HQA HZ hi hql hpl ⊢
  obtain ⟨b,off,rfl,hbw,hat⟩ := HQA.out.get hi
  obtain ⟨x,hx⟩ : ∃ x,ports[i] = x := ⟨_,rfl⟩
  rw [hx] at hat ⊢
  clear hx
  obtain ⟨qid,qhost,qpart,qkind,qout,qvl,qsub,qudp,qsize,qdepth,qfresh⟩ := x
  simp only [PxAt] at hat
  simp only
  obtain ⟨R,HR⟩ : ∃ R,Hid ((if 512 ≤ i then (1 : Int) else if portP parts vls (aheadP (ports.take i)) ⟨qid,qhost,qpart,qkind,qout,qvl,qsub,qudp,qsize,qdepth,qfresh⟩ = 0 then (if (ports.take i).any (fun q => decide (q.host = qhost) && decide (q.out = qout) && decide (q.vl = qvl) && decide (q.udp = qudp)) = true then 21 else 0) else portP parts vls (aheadP (ports.take i)) ⟨qid,qhost,qpart,qkind,qout,qvl,qsub,qudp,qsize,qdepth,qfresh⟩) = R) := ⟨_,rfl⟩
  rw [show (if 512 ≤ i then (1 : Int) else if portP parts vls (aheadP (ports.take i)) ⟨qid,qhost,qpart,qkind,qout,qvl,qsub,qudp,qsize,qdepth,qfresh⟩ = 0 then (if (ports.take i).any (fun q => decide (q.host = qhost) && decide (q.out = qout) && decide (q.vl = qvl) && decide (q.udp = qudp)) = true then 21 else 0) else portP parts vls (aheadP (ports.take i)) ⟨qid,qhost,qpart,qkind,qout,qvl,qsub,qudp,qsize,qdepth,qfresh⟩) = R from HR.out]
  have HPREV : Hid (∀ j,i = j + 1 → ∃ uid,aheadP (ports.take i) = uid ∧ w.cell? ⟨b,off + j * 11,none⟩ = some (.int .i64 uid) ∧ b < w.heap.size) := fun j hj => by
    subst hj
    have hjl : j < ports.length := by omega
    obtain ⟨b',off',eb,hbw',hatj⟩ := HQA.out.get hjl
    injection eb with eb;injection eb with eb e3 _;subst eb;subst e3
    exact ⟨_,rfl,by rw [aheadP_take ports j hjl];exact hatj.1,hbw'⟩
  have HAH0 : Hid (i = 0 → aheadP (ports.take i) = 0) := fun h => by subst h;rfl
  obtain ⟨ql,hqle⟩ : ∃ ql,ports.length = ql := ⟨_,rfl⟩
  obtain ⟨pl,hple⟩ : ∃ pl,parts.length = pl := ⟨_,rfl⟩
  rw [hqle] at HVL hi hql ⊢
  rw [hple] at HVL hpl ⊢
  generalize wins.length = wl,vls.length = vl at HVL ⊢
  have hiI : (i : Int) < (ql : Int) := by omega
  have hi0 : 0 ≤ (i : Int) := by omega
  have CB : Hid ((w.alloc (.cells #[.int .i64 hosts,.slice pA pl pc,.int .i64 major,.slice wA wl wk,.slice vA vl vc,.slice (some ⟨b,off,none⟩) ql qc] 28)).heap[w.heap.size]? = some (.cells #[.int .i64 hosts,.slice pA pl pc,.int .i64 major,.slice wA wl wk,.slice vA vl vc,.slice (some ⟨b,off,none⟩) ql qc] 28)) := heap_alloc_new w _
  have BB : Hid (Below w.heap.size w (w.alloc (.cells #[.int .i64 hosts,.slice pA pl pc,.int .i64 major,.slice wA wl wk,.slice vA vl vc,.slice (some ⟨b,off,none⟩) ql qc] 28))) := (Below.refl _ w).alloc (Nat.le_refl _) _
  have hat := (show PxAt w b (off + i * 11) ⟨qid,qhost,qpart,qkind,qout,qvl,qsub,qudp,qsize,qdepth,qfresh⟩ from hat).below BB.out hbw
  simp only [PxAt] at hat
  obtain ⟨a0,a1,a2,a3,a4,a5,a6,a7,a8,a9,a10⟩ := hat
  go_enter Tryz.func57,Tryz.ntmps57
  go_upto_region 1 with (fail)
  generalize w.alloc (.cells #[.int .i64 hosts,.slice pA pl pc,.int .i64 major,.slice wA wl wk,.slice vA vl vc,.slice (some ⟨b,off,none⟩) ql qc] 28) = W0 at CB BB a0 a1 a2 a3 a4 a5 a6 a7 a8 a9 a10 ⊢
  obtain ⟨c0,c1,c2,c3,c4,c5⟩ := cells_6 CB.out
  go_upto_region 2 with (fail)
  clear a0 a1 a2 a3 a4 a5 a6 a7 a8 a9 a10 c0 c1 c2 c3 c4 c5
  have XB : Hid ((W0.alloc (.cells #[.int .i64 qid,.int .i64 qhost,.int .i64 qpart,.int .i64 qkind,.bool qout,.int .i64 qvl,.int .i64 qsub,.int .i64 qudp,.int .i64 qsize,.int .i64 qdepth,.int .i64 qfresh] 62)).heap[W0.heap.size]? = some (.cells #[.int .i64 qid,.int .i64 qhost,.int .i64 qpart,.int .i64 qkind,.bool qout,.int .i64 qvl,.int .i64 qsub,.int .i64 qudp,.int .i64 qsize,.int .i64 qdepth,.int .i64 qfresh] 62)) := heap_alloc_new W0 _
  have CX := Lib.hid (lies_alloc (o := .cells #[.int .i64 qid,.int .i64 qhost,.int .i64 qpart,.int .i64 qkind,.bool qout,.int .i64 qvl,.int .i64 qsub,.int .i64 qudp,.int .i64 qsize,.int .i64 qdepth,.int .i64 qfresh] 62) CB.out)
  have BX : Hid (Below w.heap.size w (W0.alloc (.cells #[.int .i64 qid,.int .i64 qhost,.int .i64 qpart,.int .i64 qkind,.bool qout,.int .i64 qvl,.int .i64 qsub,.int .i64 qudp,.int .i64 qsize,.int .i64 qdepth,.int .i64 qfresh] 62))) := BB.out.alloc BB.out.size _
  clear CB BB
  have CB := CX
  have BB := BX
  clear CX BX
  generalize W0.alloc (.cells #[.int .i64 qid,.int .i64 qhost,.int .i64 qpart,.int .i64 qkind,.bool qout,.int .i64 qvl,.int .i64 qsub,.int .i64 qudp,.int .i64 qsize,.int .i64 qdepth,.int .i64 qfresh] 62) = W1 at XB CB BB ⊢
  generalize W0.heap.size = xb at XB ⊢
  refine rport2 CB XB hpl (fun _ _ _ _ _ h => h) ?_
  intro wc hwc z15 z16 z17 z18 z19 z20 z21 z22 z23 z24 z25 z26 z27 z28 z29 z30 z31 z32 z33 z34 z35 z36 z37 z38 z39 z40 z41 z42 z43 z44 z45 z46 z47 z48 z49 z50 z51 z52 z53 z54 z55 z56 z57
  have CBX := Lib.hid (lies_below CB.out hwc (lies_lt CB.out))
  have XBX := Lib.hid (lies_below XB.out hwc (lies_lt XB.out))
  have BX : Hid (Below w.heap.size w wc) := BB.out.trans (hwc.mono BB.out.size)
  clear BB hwc CB XB
  have CB := CBX
  have XB := XBX
  have BB := BX
  clear BX CBX XBX
  have hr := HR.out
  have hpe : mayP pl qid qpart qkind qudp qsize = mayP parts.length qid qpart qkind qudp qsize := by rw [hple]
  by_cases h512 : 512 ≤ i
  · rw [decide_eq_true h512,Bool.true_or]
    have HT : Hid (R = 1) := by show _ = _;rw [← hr,if_pos h512]
    go_wp2
    go_returns
    rw [HT.out]
    exact ⟨rfl,BB.out⟩
  rw [decide_eq_false h512,Bool.false_or]
  rw [if_neg h512] at hr
  cases hM : mayP pl qid qpart qkind qudp qsize
  · rw [Bool.not_false]
    have HT : Hid (R = 1) := by
      show _ = _
      have e : portP parts vls (aheadP (ports.take i)) ⟨qid,qhost,qpart,qkind,qout,qvl,qsub,qudp,qsize,qdepth,qfresh⟩ = 1 := by rw [portP,← hpe,if_pos hM]
      rw [← hr,e,if_neg (by decide)]
    go_wp2
    go_returns
    rw [HT.out]
    exact ⟨rfl,BB.out⟩
  rw [Bool.not_true]
  have hpart := mayP_part hM
  have hkind : (qkind = 1 ∨ qkind = 2) ∧ 1 ≤ qid ∧ 1 ≤ qsize ∧ qsize ≤ 8192 := by
    have := mayP_iff.1 (hpe ▸ hM)
    simp only [not_or] at this
    omega
  have hM2 : ¬ (mayP parts.length qid qpart qkind qudp qsize = false) := by rw [← hpe,hM];decide
  obtain ⟨R4,HR4⟩ : ∃ R4,decide (qid ≤ aheadP (ports.take i)) = R4 := ⟨_,rfl⟩
  have hjl : qpart.toNat < parts.length := by omega
  obtain ⟨tb,tf,rfl,hpw,hpat⟩ := HPA.out.get hjl
  have hho : PitotConf.hostOf parts qpart = some parts[qpart.toNat] := by
    rw [PitotConf.hostOf,if_pos hpart.1,List.getElem?_eq_getElem hjl]
  have hjl2 : qpart.toNat < pl := by omega
  generalize parts[qpart.toNat] = y at hpat hho
  have G4 : Hid (R4 = true → R = 25) := fun h => by
    have e : portP parts vls (aheadP (ports.take i)) ⟨qid,qhost,qpart,qkind,qout,qvl,qsub,qudp,qsize,qdepth,qfresh⟩ = 25 := by rw [portP,if_neg hM2,if_pos (by rw [HR4];exact h)]
    rw [← hr,e,if_neg (by decide)]
  have G7 : Hid (R4 = false → (qhost == y) = false → R = 20) := fun h h2 => by
    have e : portP parts vls (aheadP (ports.take i)) ⟨qid,qhost,qpart,qkind,qout,qvl,qsub,qudp,qsize,qdepth,qfresh⟩ = 20 := by rw [portP,if_neg hM2,if_neg (by rw [HR4,h];decide),if_pos (by rw [hho];intro h3;injection h3 with h3;simp [h3] at h2)]
    rw [← hr,e,if_neg (by decide)]
  have G7n : Hid (R4 = false → (qhost == y) = true → findVx vls qvl = none → R = 20) := fun h h2 h3 => by
    have e : portP parts vls (aheadP (ports.take i)) ⟨qid,qhost,qpart,qkind,qout,qvl,qsub,qudp,qsize,qdepth,qfresh⟩ = 20 := by rw [portP,if_neg hM2,if_neg (by rw [HR4,h];decide),if_neg (by rw [hho];simp at h2;simp [h2]),h3]
    rw [← hr,e,if_neg (by decide)]
  have G8 : Hid (R4 = false → (qhost == y) = true → ∀ v,findVx vls qvl = some v → (if (if endJ qout qhost qsub v.host v.subs v.to = 0 then kindJ qkind qdepth qfresh qsize qout v.smax else endJ qout qhost qsub v.host v.subs v.to) = 0 then (if (ports.take i).any (fun q => decide (q.host = qhost) && decide (q.out = qout) && decide (q.vl = qvl) && decide (q.udp = qudp)) = true then (21 : Int) else 0) else (if endJ qout qhost qsub v.host v.subs v.to = 0 then kindJ qkind qdepth qfresh qsize qout v.smax else endJ qout qhost qsub v.host v.subs v.to)) = R) := fun h h2 v h3 => by
    have e : portP parts vls (aheadP (ports.take i)) ⟨qid,qhost,qpart,qkind,qout,qvl,qsub,qudp,qsize,qdepth,qfresh⟩ = if endJ qout qhost qsub v.host v.subs v.to = 0 then kindJ qkind qdepth qfresh qsize qout v.smax else endJ qout qhost qsub v.host v.subs v.to := by rw [portP,if_neg hM2,if_neg (by rw [HR4,h];decide),if_neg (by rw [hho];simp at h2;simp [h2]),h3]
    rw [← hr,e]
  clear hr HR hM2 hho hpe hM
  go_upto_region 4 with (fail)
  by_cases hiz : i = 0
  · have e0 : R4 = false := by rw [← HR4,HAH0.out hiz];exact decide_eq_false (by omega)
    refine rport4_zero CB XB (R := R4) e0 hiz (fun _ _ _ _ _ h => h) ?_
    intro wd hwd z59 z60 z61 z62 z63 z64 z65 z66 z67 z68 z69 z70 z71
    clear hiz
    have CBX := Lib.hid (lies_below CB.out hwd (lies_lt CB.out))
    have XBX := Lib.hid (lies_below XB.out hwd (lies_lt XB.out))
    have BX : Hid (Below w.heap.size w wd) := BB.out.trans (hwd.mono BB.out.size)
    clear BB hwd CB XB
    have CB := CBX
    have XB := XBX
    have BB := BX
    clear BX CBX XBX
    obtain ⟨c0,c1,c2,c3,c4,c5⟩ := cells_6 CB.out
    obtain ⟨p0,p1,p2,p3,p4,p5,p6,p7,p8,p9,p10⟩ := cells_11 XB.out
    cases hR4 : R4
    case true =>
      have HT : Hid (R = 25) := G4.out hR4
      go_wp2
      go_returns
      rw [HT.out]
      exact ⟨rfl,BB.out⟩
    go_upto_region 7 with (first
      | (go_at_call 93;(with_reducible refine (HVL.out _ BB.out qvl).mono ?_);rintro e w14 ⟨rfl,hb2⟩
         (have CBX := Lib.hid (lies_below CB.out hb2 (lies_lt CB.out)))
         (have XBX := Lib.hid (lies_below XB.out hb2 (lies_lt XB.out)))
         (have BX := Lib.hid (BB.out.trans (hb2.mono BB.out.size)))
         (clear hb2 BB CB XB c0 c1 c2 c3 c4 c5 p0 p1 p2 p3 p4 p5 p6 p7 p8 p9 p10)
         (have CB := CBX)
         (have XB := XBX)
         (have BB := BX)
         (clear BX CBX XBX)
         (obtain ⟨c0,c1,c2,c3,c4,c5⟩ := cells_6 CB.out)
         (obtain ⟨p0,p1,p2,p3,p4,p5,p6,p7,p8,p9,p10⟩ := cells_11 XB.out)))
    have VB : Hid ((w14.alloc (.cells #[.int .i64 ((findVx vls qvl).getD vz).id,.int .i64 ((findVx vls qvl).getD vz).host,.int .i64 ((findVx vls qvl).getD vz).bag,.int .i64 ((findVx vls qvl).getD vz).smax,.bool ((findVx vls qvl).getD vz).high,.int .i64 ((findVx vls qvl).getD vz).subs,.int .i64 ((findVx vls qvl).getD vz).skew,.slice ((findVx vls qvl).getD vz).toA ((findVx vls qvl).getD vz).to.length ((findVx vls qvl).getD vz).toc] 60)).heap[w14.heap.size]? = some (.cells #[.int .i64 ((findVx vls qvl).getD vz).id,.int .i64 ((findVx vls qvl).getD vz).host,.int .i64 ((findVx vls qvl).getD vz).bag,.int .i64 ((findVx vls qvl).getD vz).smax,.bool ((findVx vls qvl).getD vz).high,.int .i64 ((findVx vls qvl).getD vz).subs,.int .i64 ((findVx vls qvl).getD vz).skew,.slice ((findVx vls qvl).getD vz).toA ((findVx vls qvl).getD vz).to.length ((findVx vls qvl).getD vz).toc] 60)) := heap_alloc_new w14 _
    have CBX := Lib.hid (lies_alloc (o := .cells #[.int .i64 ((findVx vls qvl).getD vz).id,.int .i64 ((findVx vls qvl).getD vz).host,.int .i64 ((findVx vls qvl).getD vz).bag,.int .i64 ((findVx vls qvl).getD vz).smax,.bool ((findVx vls qvl).getD vz).high,.int .i64 ((findVx vls qvl).getD vz).subs,.int .i64 ((findVx vls qvl).getD vz).skew,.slice ((findVx vls qvl).getD vz).toA ((findVx vls qvl).getD vz).to.length ((findVx vls qvl).getD vz).toc] 60) CB.out)
    have XBX := Lib.hid (lies_alloc (o := .cells #[.int .i64 ((findVx vls qvl).getD vz).id,.int .i64 ((findVx vls qvl).getD vz).host,.int .i64 ((findVx vls qvl).getD vz).bag,.int .i64 ((findVx vls qvl).getD vz).smax,.bool ((findVx vls qvl).getD vz).high,.int .i64 ((findVx vls qvl).getD vz).subs,.int .i64 ((findVx vls qvl).getD vz).skew,.slice ((findVx vls qvl).getD vz).toA ((findVx vls qvl).getD vz).to.length ((findVx vls qvl).getD vz).toc] 60) XB.out)
    have BX : Hid (Below w.heap.size w (w14.alloc (.cells #[.int .i64 ((findVx vls qvl).getD vz).id,.int .i64 ((findVx vls qvl).getD vz).host,.int .i64 ((findVx vls qvl).getD vz).bag,.int .i64 ((findVx vls qvl).getD vz).smax,.bool ((findVx vls qvl).getD vz).high,.int .i64 ((findVx vls qvl).getD vz).subs,.int .i64 ((findVx vls qvl).getD vz).skew,.slice ((findVx vls qvl).getD vz).toA ((findVx vls qvl).getD vz).to.length ((findVx vls qvl).getD vz).toc] 60))) := BB.out.alloc BB.out.size _
    clear BB CB XB c0 c1 c2 c3 c4 c5 p0 p1 p2 p3 p4 p5 p6 p7 p8 p9 p10
    have CB := CBX
    have XB := XBX
    have BB := BX
    clear BX CBX XBX
    generalize w14.alloc (.cells #[.int .i64 ((findVx vls qvl).getD vz).id,.int .i64 ((findVx vls qvl).getD vz).host,.int .i64 ((findVx vls qvl).getD vz).bag,.int .i64 ((findVx vls qvl).getD vz).smax,.bool ((findVx vls qvl).getD vz).high,.int .i64 ((findVx vls qvl).getD vz).subs,.int .i64 ((findVx vls qvl).getD vz).skew,.slice ((findVx vls qvl).getD vz).toA ((findVx vls qvl).getD vz).to.length ((findVx vls qvl).getD vz).toc] 60) = W14 at BB CB XB VB ⊢
    obtain ⟨c0,c1,c2,c3,c4,c5⟩ := cells_6 CB.out
    obtain ⟨p0,p1,p2,p3,p4,p5,p6,p7,p8,p9,p10⟩ := cells_11 XB.out
    generalize w14.heap.size = vb at VB ⊢
    clear c0 c1 c2 c3 c4 c5 p0 p1 p2 p3 p4 p5 p6 p7 p8 p9 p10
    have hpat2 := Lib.hid ((BB.out.cell hpw).trans hpat)
    have hplt : Hid (tb < W14.heap.size) := Nat.lt_of_lt_of_le hpw BB.out.size
    cases hy : (qhost == y)
    · refine rport7_no CB XB hpat2 hplt (by omega) hjl2 (R := true) hy rfl (fun _ _ _ _ _ h => h) ?_
      intro we hwe z80 z81 z82 z83 z84 z85 z86 z87 z88 z89 z90 z91
      have HT : Hid (R = 20) := G7.out hR4 hy
      have BB := Lib.hid (BB.out.trans (hwe.mono BB.out.size))
      go_wp2
      go_returns
      rw [HT.out]
      exact ⟨rfl,BB.out⟩
    cases hf : findVx vls qvl with
    | none =>
      have his : (none : Option Vx).isSome = false := rfl
      rw [his]
      refine rport7_yes CB XB hpat2 hplt (by omega) hjl2 (R := true) hy rfl (fun _ _ _ _ _ h => h) ?_
      intro we hwe z80 z81 z82 z83 z84 z85 z86 z87 z88 z89 z90 z91
      have HT : Hid (R = 20) := G7n.out hR4 hy hf
      have BB := Lib.hid (BB.out.trans (hwe.mono BB.out.size))
      go_wp2
      go_returns
      rw [HT.out]
      exact ⟨rfl,BB.out⟩
    | some v =>
      have his : (some v).isSome = true := rfl
      rw [his]
      refine rport7_yes CB XB hpat2 hplt (by omega) hjl2 (R := false) hy rfl (fun _ _ _ _ _ h => h) ?_
      intro we hwe z80 z81 z82 z83 z84 z85 z86 z87 z88 z89 z90 z91
      have CBX := Lib.hid (lies_below CB.out hwe (lies_lt CB.out))
      have XBX := Lib.hid (lies_below XB.out hwe (lies_lt XB.out))
      have VBX := Lib.hid (lies_below VB.out hwe (lies_lt VB.out))
      have BX : Hid (Below w.heap.size w we) := BB.out.trans (hwe.mono BB.out.size)
      clear BB hwe CB XB VB
      have CB := CBX
      have XB := XBX
      have VB := VBX
      have BB := BX
      clear BX CBX XBX VBX
      have HR := Lib.hid (G8.out hR4 hy v hf)
      have hvm := List.mem_of_find?_eq_some hf
      obtain ⟨u1,u2,u3,u4,u5⟩ := HZ.out v hvm
      have HVI : Hid (IntsAt we v.toA v.to) := by
        obtain ⟨kv,hkv,ev⟩ := List.mem_iff_getElem.1 hvm
        obtain ⟨_,_,_,_,_,hh⟩ := HVA.out.get hkv
        rw [ev] at hh
        exact IntsAt.below hh BB.out
      have hgd : (findVx vls qvl).getD vz = v := by rw [hf];rfl
      rw [hgd] at VB
      clear hgd his hpat2 hplt G4 G7 G7n G8 hf hvm HVA HZ HPA
      obtain ⟨vid,vhost,vbag,vsmax,vhigh,vsubs,vskew,tA,tc,tol⟩ := v
      simp only at VB HR HVI u1 u2 u3 u4 u5
      have H46 : Hid (∀ w',Below we.heap.size we w' → Calls Tryz.prog 94 #[.slice tA tol.length tc,.int .i64 qhost] w' fun e w2 => e = .returned (.bool (tol.contains qhost)) ∧ w' = w2) := fun w' hb => has_any tA tc tol qhost w' (IntsAt.below HVI.out hb) (by unfold maxLen;omega)
      have H53 : Hid (∀ w',Calls Tryz.prog 95 #[.int .i64 vsmax] w' fun e w2 => e = .returned (.int .i64 (vsmax - 47)) ∧ Below w'.heap.size w' w2) := fun w' => refLargest_any vsmax w' (by omega) (by omega)
      generalize htol : tol.length = tl at VB H46
      go_upto_region 9 with (fail)
      refine rport9 XB VB H46 (cb := w.heap.size) (fun _ _ _ _ _ h => h) ?_
      intro wf hwf z93 z94 z95 z96 z97 z98 z99 z100 z101 z102 z103 z104 z105 z106 z107 z108 z109 z110 z111 z112 z113
      have CBX := Lib.hid (lies_below CB.out hwf (lies_lt CB.out))
      have XBX := Lib.hid (lies_below XB.out hwf (lies_lt XB.out))
      have VBX := Lib.hid (lies_below VB.out hwf (lies_lt VB.out))
      have BX : Hid (Below w.heap.size w wf) := BB.out.trans (hwf.mono BB.out.size)
      clear BB hwf CB XB VB
      have CB := CBX
      have XB := XBX
      have VB := VBX
      have BB := BX
      clear BX CBX XBX VBX
      cases h9 : ((qout && !(vhost == qhost)) || (!qout && !tol.contains qhost))
      case true =>
        have HT : Hid (R = 20) := by
          show _ = _
          rw [← HR.out,end20 h9];rfl
        go_wp2
        go_returns
        rw [HT.out]
        exact ⟨rfl,BB.out⟩
      go_upto_region 11 with (fail)
      refine rport11 XB VB (fun _ _ _ _ _ h => h) ?_
      intro wg hwg z115 z116 z117 z118 z119 z120 z121 z122 z123 z124 z125 z126 z127 z128 z129 z130 z131 z132 z133 z134 z135 z136 z137
      have CBX := Lib.hid (lies_below CB.out hwg (lies_lt CB.out))
      have XBX := Lib.hid (lies_below XB.out hwg (lies_lt XB.out))
      have VBX := Lib.hid (lies_below VB.out hwg (lies_lt VB.out))
      have BX : Hid (Below w.heap.size w wg) := BB.out.trans (hwg.mono BB.out.size)
      clear BB hwg CB XB VB
      have CB := CBX
      have XB := XBX
      have VB := VBX
      have BB := BX
      clear BX CBX XBX VBX
      cases h11 : (decide (qsub < 0) || ((qout && decide (vsubs ≤ qsub)) || (!qout && !(qsub == 0))))
      case true =>
        have HT : Hid (R = 1) := by
          show _ = _
          rw [← HR.out,end1 h9 h11];rfl
        go_wp2
        go_returns
        rw [HT.out]
        exact ⟨rfl,BB.out⟩
      have hend := end0 h9 h11
      have hr := HR.out
      rw [hend,if_pos rfl] at hr
      clear hend HR h9 h11
      go_upto_region 13 with (fail)
      refine rport13 XB (fun _ _ _ _ _ h => h) ?_
      intro wh hwh z139 z140 z141 z142 z143 z144 z145 z146 z147 z148 z149 z150 z151 z152 z153 z154 z155
      have CBX := Lib.hid (lies_below CB.out hwh (lies_lt CB.out))
      have XBX := Lib.hid (lies_below XB.out hwh (lies_lt XB.out))
      have VBX := Lib.hid (lies_below VB.out hwh (lies_lt VB.out))
      have BX : Hid (Below w.heap.size w wh) := BB.out.trans (hwh.mono BB.out.size)
      clear BB hwh CB XB VB
      have CB := CBX
      have XB := XBX
      have VB := VBX
      have BB := BX
      clear BX CBX XBX VBX
      cases h13 : ((qkind == 2) && (decide (qdepth < 1) || (decide (64 < qdepth) || !(qfresh == 0))))
      case true =>
        have HT : Hid (R = 1) := by
          show _ = _
          rw [← hr,kind13 hkind.1 h13];rfl
        go_wp2
        go_returns
        rw [HT.out]
        exact ⟨rfl,BB.out⟩
      obtain ⟨p0,p1,p2,p3,p4,p5,p6,p7,p8,p9,p10⟩ := cells_11 XB.out
      rcases hkind.1 with hk1 | hk2
      · have k1 : (qkind == 1) = true := by rw [hk1];rfl
        go_upto_region 16 with (fail)
        clear p0 p1 p2 p3 p4 p5 p6 p7 p8 p9 p10
        refine rport16 XB (fun _ _ _ _ _ h => h) ?_
        intro wi hwi z160 z161 z162 z163 z164 z165 z166 z167 z168 z169 z170 z171 z172 z173 z174 z175 z176 z177 z178 z179 z180 z181 z182 z183 z184 z185
        have CBX := Lib.hid (lies_below CB.out hwi (lies_lt CB.out))
        have XBX := Lib.hid (lies_below XB.out hwi (lies_lt XB.out))
        have VBX := Lib.hid (lies_below VB.out hwi (lies_lt VB.out))
        have BX : Hid (Below w.heap.size w wi) := BB.out.trans (hwi.mono BB.out.size)
        clear BB hwi CB XB VB
        have CB := CBX
        have XB := XBX
        have VB := VBX
        have BB := BX
        clear BX CBX XBX VBX
        cases h16 : (!(qdepth == 0) || ((qout && !(qfresh == 0)) || (!qout && (decide (qfresh < 1) || decide (1099511627776 < qfresh)))))
        case true =>
          have HT : Hid (R = 1) := by
            show _ = _
            rw [← hr,kind16 hk1 h16];rfl
          go_wp2
          go_returns
          rw [HT.out]
          exact ⟨rfl,BB.out⟩
        go_upto_region 18 with (fail)
        refine rport18 XB VB H53 rfl (fun _ _ _ _ _ h => h) ?_
        intro wj hwj z187 z188 z189 z190 z191
        have CBX := Lib.hid (lies_below CB.out hwj (lies_lt CB.out))
        have XBX := Lib.hid (lies_below XB.out hwj (lies_lt XB.out))
        have VBX := Lib.hid (lies_below VB.out hwj (lies_lt VB.out))
        have BX : Hid (Below w.heap.size w wj) := BB.out.trans (hwj.mono BB.out.size)
        clear BB hwj CB XB VB
        have CB := CBX
        have XB := XBX
        have VB := VBX
        have BB := BX
        clear BX CBX XBX VBX
        cases h18 : decide (vsmax - 47 < qsize)
        case true =>
          have HT : Hid (R = 11) := by
            show _ = _
            rw [← hr,kind18 hk1 h16 h18];rfl
          go_wp2
          go_returns
          rw [HT.out]
          exact ⟨rfl,BB.out⟩
        have HR : Hid ((if (ports.take i).any (fun q => decide (q.host = qhost) && decide (q.out = qout) && decide (q.vl = qvl) && decide (q.udp = qudp)) = true then (21 : Int) else 0) = R) := by
          show _ = _
          rw [← hr,kind1 hk1 h16 h18];rfl
        clear hr h16 h18 k1 VB H46 H53 HVI hk1
        obtain ⟨p0,p1,p2,p3,p4,p5,p6,p7,p8,p9,p10⟩ := cells_11 XB.out
        go_upto_region 21 with (fail)
        clear p0 p1 p2 p3 p4 p5 p6 p7 p8 p9 p10
        go_loopw [8] (fun v8 wr => ∃ k : Nat,k ≤ i ∧ v8 = .int .i64 k ∧ Hid ((ports.take k).any (fun q => decide (q.host = qhost) && decide (q.out = qout) && decide (q.vl = qvl) && decide (q.udp = qudp)) = false) ∧ wr.heap[w.heap.size]? = some (.cells #[.int .i64 hosts,.slice (some ⟨tb,tf,none⟩) pl pc,.int .i64 major,.slice wA wl wk,.slice vA vl vc,.slice (some ⟨b,off,none⟩) ql qc] 28) ∧ wr.heap[xb]? = some (.cells #[.int .i64 qid,.int .i64 qhost,.int .i64 qpart,.int .i64 qkind,.bool qout,.int .i64 qvl,.int .i64 qsub,.int .i64 qudp,.int .i64 qsize,.int .i64 qdepth,.int .i64 qfresh] 62) ∧ Below w.heap.size w wr) (fun v8 _ => i - (intOf v8).toNat)
        case atStart => exact ⟨0,Nat.zero_le _,rfl,rfl,CB.out,XB.out,BB.out⟩
        case round =>
          obtain ⟨k,hk,rfl,hany,hC,hX,hB⟩ := hrel
          have CB2 := Lib.hid hC;have XB2 := Lib.hid hX;have BB2 := Lib.hid hB
          clear hC hX hB CB XB BB
          have CB := CB2
          have XB := XB2
          have BB := BB2
          clear CB2 XB2 BB2
          by_cases hki : k < i
          · have j1 : decide ((k : Int) < (i : Int)) = true := decide_eq_true (by omega)
            have j1' : decide (k < i) = true := decide_eq_true hki
            have hkl : k < ports.length := by omega
            have hkq : (k : Int) < (ql : Int) := by omega
            have hk0 : 0 ≤ (k : Int) := by omega
            obtain ⟨b',off',eb,hbw',hatk⟩ := HQA.out.get hkl
            injection eb with eb;injection eb with eb e3 _;subst eb;subst e3
            have hatk := hatk.below BB.out hbw'
            have hst : (ports.take (k + 1)).any (fun q => decide (q.host = qhost) && decide (q.out = qout) && decide (q.vl = qvl) && decide (q.udp = qudp)) = ((ports[k].host == qhost) && ((ports[k].out == qout) && ((ports[k].vl == qvl) && (ports[k].udp == qudp)))) := by
              rw [List.take_succ_eq_append_getElem hkl,List.any_append,hany.out,twin_eq]
              (try simp)
            have hall : ((ports[k].host == qhost) && ((ports[k].out == qout) && ((ports[k].vl == qvl) && (ports[k].udp == qudp)))) = true → (ports.take i).any (fun q => decide (q.host = qhost) && decide (q.out = qout) && decide (q.vl = qvl) && decide (q.udp = qudp)) = true := fun h => by
              rw [twin_eq] at h
              rw [List.any_eq_true]
              exact ⟨ports[k],List.mem_take_iff_getElem.2 ⟨k,by omega,rfl⟩,h⟩
            generalize ports[k] = y at hatk hst hall
            obtain ⟨yid,yhost,ypart,ykind,yout,yvl,ysub,yudp,ysize,ydepth,yfresh⟩ := y
            simp only [PxAt] at hatk
            simp only at hst hall
            obtain ⟨a0,a1,a2,a3,a4,a5,a6,a7,a8,a9,a10⟩ := hatk
            obtain ⟨c0,c1,c2,c3,c4,c5⟩ := cells_6 CB.out
            go_upto_region 24 with (fail)
            clear a0 a1 a2 a3 a4 a5 a6 a7 a8 a9 a10
            have YB : Hid ((wr.alloc (.cells #[.int .i64 yid,.int .i64 yhost,.int .i64 ypart,.int .i64 ykind,.bool yout,.int .i64 yvl,.int .i64 ysub,.int .i64 yudp,.int .i64 ysize,.int .i64 ydepth,.int .i64 yfresh] 62)).heap[wr.heap.size]? = some (.cells #[.int .i64 yid,.int .i64 yhost,.int .i64 ypart,.int .i64 ykind,.bool yout,.int .i64 yvl,.int .i64 ysub,.int .i64 yudp,.int .i64 ysize,.int .i64 ydepth,.int .i64 yfresh] 62)) := heap_alloc_new wr _
            have CX := Lib.hid (lies_alloc (o := .cells #[.int .i64 yid,.int .i64 yhost,.int .i64 ypart,.int .i64 ykind,.bool yout,.int .i64 yvl,.int .i64 ysub,.int .i64 yudp,.int .i64 ysize,.int .i64 ydepth,.int .i64 yfresh] 62) CB.out)
            have XX := Lib.hid (lies_alloc (o := .cells #[.int .i64 yid,.int .i64 yhost,.int .i64 ypart,.int .i64 ykind,.bool yout,.int .i64 yvl,.int .i64 ysub,.int .i64 yudp,.int .i64 ysize,.int .i64 ydepth,.int .i64 yfresh] 62) XB.out)
            have BX : Hid (Below w.heap.size w (wr.alloc (.cells #[.int .i64 yid,.int .i64 yhost,.int .i64 ypart,.int .i64 ykind,.bool yout,.int .i64 yvl,.int .i64 ysub,.int .i64 yudp,.int .i64 ysize,.int .i64 ydepth,.int .i64 yfresh] 62))) := BB.out.alloc BB.out.size _
            clear CB XB BB c0 c1 c2 c3 c4 c5 j1 j1'
            generalize wr.alloc (.cells #[.int .i64 yid,.int .i64 yhost,.int .i64 ypart,.int .i64 ykind,.bool yout,.int .i64 yvl,.int .i64 ysub,.int .i64 yudp,.int .i64 ysize,.int .i64 ydepth,.int .i64 yfresh] 62) = Wy at YB CX XX BX ⊢
            refine rport24 XX YB (fun _ _ _ _ _ h => h) ?_
            intro wd hwd z203 z204 z205 z206 z207 z208 z209 z210 z211 z212 z213 z214 z215 z216 z217 z218 z219 z220 z221 z222 z223 z224 z225 z226 z227
            have CY := Lib.hid (lies_below CX.out hwd (lies_lt CX.out))
            have XY := Lib.hid (lies_below XX.out hwd (lies_lt XX.out))
            have BY : Hid (Below w.heap.size w wd) := BX.out.trans (hwd.mono BX.out.size)
            clear CX XX BX YB hwd
            generalize ((yhost == qhost) && ((yout == qout) && ((yvl == qvl) && (yudp == qudp)))) = RT at hst hall ⊢
            cases RT
            · have hst := Lib.hid hst
              clear hall
              go_wp2
              go_roundw
              case rel => exact ⟨k + 1,by omega,by go_num,hst,CY.out,XY.out,BY.out⟩
              case measure => simp [intOf];omega
            · have HT : Hid (R = 21) := by
                show _ = _
                rw [← HR.out,if_pos (hall rfl)]
              clear hall hst
              go_wp2
              go_returns
              rw [HT.out]
              exact ⟨rfl,BY.out⟩
          · have j1 : decide ((k : Int) < (i : Int)) = false := decide_eq_false (by omega)
            have j1' : decide (k < i) = false := decide_eq_false hki
            have hki2 : k = i := by omega
            have HT : Hid (R = 0) := by
              show _ = _
              have := hany.out
              rw [hki2] at this
              rw [← HR.out,this];rfl
            go_wp2
            go_returns
            rw [HT.out]
            exact ⟨rfl,BB.out⟩
      · have k1 : (qkind == 1) = false := by rw [hk2];rfl
        have HR : Hid ((if (ports.take i).any (fun q => decide (q.host = qhost) && decide (q.out = qout) && decide (q.vl = qvl) && decide (q.udp = qudp)) = true then (21 : Int) else 0) = R) := by
          show _ = _
          rw [← hr,kind2 hk2 h13];rfl
        clear hr VB H46 H53 HVI hk2
        go_upto_region 21 with (fail)
        clear p0 p1 p2 p3 p4 p5 p6 p7 p8 p9 p10
        go_loopw [8] (fun v8 wr => ∃ k : Nat,k ≤ i ∧ v8 = .int .i64 k ∧ Hid ((ports.take k).any (fun q => decide (q.host = qhost) && decide (q.out = qout) && decide (q.vl = qvl) && decide (q.udp = qudp)) = false) ∧ wr.heap[w.heap.size]? = some (.cells #[.int .i64 hosts,.slice (some ⟨tb,tf,none⟩) pl pc,.int .i64 major,.slice wA wl wk,.slice vA vl vc,.slice (some ⟨b,off,none⟩) ql qc] 28) ∧ wr.heap[xb]? = some (.cells #[.int .i64 qid,.int .i64 qhost,.int .i64 qpart,.int .i64 qkind,.bool qout,.int .i64 qvl,.int .i64 qsub,.int .i64 qudp,.int .i64 qsize,.int .i64 qdepth,.int .i64 qfresh] 62) ∧ Below w.heap.size w wr) (fun v8 _ => i - (intOf v8).toNat)
        case atStart => exact ⟨0,Nat.zero_le _,rfl,rfl,CB.out,XB.out,BB.out⟩
        case round =>
          obtain ⟨k,hk,rfl,hany,hC,hX,hB⟩ := hrel
          have CB2 := Lib.hid hC;have XB2 := Lib.hid hX;have BB2 := Lib.hid hB
          clear hC hX hB CB XB BB
          have CB := CB2
          have XB := XB2
          have BB := BB2
          clear CB2 XB2 BB2
          by_cases hki : k < i
          · have j1 : decide ((k : Int) < (i : Int)) = true := decide_eq_true (by omega)
            have j1' : decide (k < i) = true := decide_eq_true hki
            have hkl : k < ports.length := by omega
            have hkq : (k : Int) < (ql : Int) := by omega
            have hk0 : 0 ≤ (k : Int) := by omega
            obtain ⟨b',off',eb,hbw',hatk⟩ := HQA.out.get hkl
            injection eb with eb;injection eb with eb e3 _;subst eb;subst e3
            have hatk := hatk.below BB.out hbw'
            have hst : (ports.take (k + 1)).any (fun q => decide (q.host = qhost) && decide (q.out = qout) && decide (q.vl = qvl) && decide (q.udp = qudp)) = ((ports[k].host == qhost) && ((ports[k].out == qout) && ((ports[k].vl == qvl) && (ports[k].udp == qudp)))) := by
              rw [List.take_succ_eq_append_getElem hkl,List.any_append,hany.out,twin_eq]
              (try simp)
            have hall : ((ports[k].host == qhost) && ((ports[k].out == qout) && ((ports[k].vl == qvl) && (ports[k].udp == qudp)))) = true → (ports.take i).any (fun q => decide (q.host = qhost) && decide (q.out = qout) && decide (q.vl = qvl) && decide (q.udp = qudp)) = true := fun h => by
              rw [twin_eq] at h
              rw [List.any_eq_true]
              exact ⟨ports[k],List.mem_take_iff_getElem.2 ⟨k,by omega,rfl⟩,h⟩
            generalize ports[k] = y at hatk hst hall
            obtain ⟨yid,yhost,ypart,ykind,yout,yvl,ysub,yudp,ysize,ydepth,yfresh⟩ := y
            simp only [PxAt] at hatk
            simp only at hst hall
            obtain ⟨a0,a1,a2,a3,a4,a5,a6,a7,a8,a9,a10⟩ := hatk
            obtain ⟨c0,c1,c2,c3,c4,c5⟩ := cells_6 CB.out
            go_upto_region 24 with (fail)
            clear a0 a1 a2 a3 a4 a5 a6 a7 a8 a9 a10
            have YB : Hid ((wr.alloc (.cells #[.int .i64 yid,.int .i64 yhost,.int .i64 ypart,.int .i64 ykind,.bool yout,.int .i64 yvl,.int .i64 ysub,.int .i64 yudp,.int .i64 ysize,.int .i64 ydepth,.int .i64 yfresh] 62)).heap[wr.heap.size]? = some (.cells #[.int .i64 yid,.int .i64 yhost,.int .i64 ypart,.int .i64 ykind,.bool yout,.int .i64 yvl,.int .i64 ysub,.int .i64 yudp,.int .i64 ysize,.int .i64 ydepth,.int .i64 yfresh] 62)) := heap_alloc_new wr _
            have CX := Lib.hid (lies_alloc (o := .cells #[.int .i64 yid,.int .i64 yhost,.int .i64 ypart,.int .i64 ykind,.bool yout,.int .i64 yvl,.int .i64 ysub,.int .i64 yudp,.int .i64 ysize,.int .i64 ydepth,.int .i64 yfresh] 62) CB.out)
            have XX := Lib.hid (lies_alloc (o := .cells #[.int .i64 yid,.int .i64 yhost,.int .i64 ypart,.int .i64 ykind,.bool yout,.int .i64 yvl,.int .i64 ysub,.int .i64 yudp,.int .i64 ysize,.int .i64 ydepth,.int .i64 yfresh] 62) XB.out)
            have BX : Hid (Below w.heap.size w (wr.alloc (.cells #[.int .i64 yid,.int .i64 yhost,.int .i64 ypart,.int .i64 ykind,.bool yout,.int .i64 yvl,.int .i64 ysub,.int .i64 yudp,.int .i64 ysize,.int .i64 ydepth,.int .i64 yfresh] 62))) := BB.out.alloc BB.out.size _
            clear CB XB BB c0 c1 c2 c3 c4 c5 j1 j1'
            generalize wr.alloc (.cells #[.int .i64 yid,.int .i64 yhost,.int .i64 ypart,.int .i64 ykind,.bool yout,.int .i64 yvl,.int .i64 ysub,.int .i64 yudp,.int .i64 ysize,.int .i64 ydepth,.int .i64 yfresh] 62) = Wy at YB CX XX BX ⊢
            refine rport24 XX YB (fun _ _ _ _ _ h => h) ?_
            intro wd hwd z203 z204 z205 z206 z207 z208 z209 z210 z211 z212 z213 z214 z215 z216 z217 z218 z219 z220 z221 z222 z223 z224 z225 z226 z227
            have CY := Lib.hid (lies_below CX.out hwd (lies_lt CX.out))
            have XY := Lib.hid (lies_below XX.out hwd (lies_lt XX.out))
            have BY : Hid (Below w.heap.size w wd) := BX.out.trans (hwd.mono BX.out.size)
            clear CX XX BX YB hwd
            generalize ((yhost == qhost) && ((yout == qout) && ((yvl == qvl) && (yudp == qudp)))) = RT at hst hall ⊢
            cases RT
            · have hst := Lib.hid hst
              clear hall
              go_wp2
              go_roundw
              case rel => exact ⟨k + 1,by omega,by go_num,hst,CY.out,XY.out,BY.out⟩
              case measure => simp [intOf];omega
            · have HT : Hid (R = 21) := by
                show _ = _
                rw [← HR.out,if_pos (hall rfl)]
              clear hall hst
              go_wp2
              go_returns
              rw [HT.out]
              exact ⟨rfl,BY.out⟩
          · have j1 : decide ((k : Int) < (i : Int)) = false := decide_eq_false (by omega)
            have j1' : decide (k < i) = false := decide_eq_false hki
            have hki2 : k = i := by omega
            have HT : Hid (R = 0) := by
              show _ = _
              have := hany.out
              rw [hki2] at this
              rw [← HR.out,this];rfl
            go_wp2
            go_returns
            rw [HT.out]
            exact ⟨rfl,BB.out⟩
  · obtain ⟨j, hij⟩ : ∃ j,i = j + 1 := ⟨i - 1,by omega⟩
    obtain ⟨uid,hu,hcu,hbu⟩ := HPREV.out j hij
    have hcu := Lib.hid ((BB.out.cell (p := ⟨b,off + j * 11,none⟩) hbu).trans hcu)
    have hlu : Hid (b < wc.heap.size) := Nat.lt_of_lt_of_le hbu BB.out.size
    refine rport4_pos CB XB hcu hlu (R := R4) (by rw [← HR4,hu]) hij (by omega) (decide_eq_true (by omega)) (decide_eq_true (by omega)) ((IntWalk.i64_in _ (by omega)).trans (by omega)) (fun _ _ _ _ _ h => h) ?_
    intro wd hwd z59 z60 z61 z62 z63 z64 z65 z66 z67 z68 z69 z70 z71
    clear hcu hlu
    have CBX := Lib.hid (lies_below CB.out hwd (lies_lt CB.out))
    have XBX := Lib.hid (lies_below XB.out hwd (lies_lt XB.out))
    have BX : Hid (Below w.heap.size w wd) := BB.out.trans (hwd.mono BB.out.size)
    clear BB hwd CB XB
    have CB := CBX
    have XB := XBX
    have BB := BX
    clear BX CBX XBX
    obtain ⟨c0,c1,c2,c3,c4,c5⟩ := cells_6 CB.out
    obtain ⟨p0,p1,p2,p3,p4,p5,p6,p7,p8,p9,p10⟩ := cells_11 XB.out
    cases hR4 : R4
    case true =>
      have HT : Hid (R = 25) := G4.out hR4
      go_wp2
      go_returns
      rw [HT.out]
      exact ⟨rfl,BB.out⟩
    go_upto_region 7 with (first
      | (go_at_call 93;(with_reducible refine (HVL.out _ BB.out qvl).mono ?_);rintro e w14 ⟨rfl,hb2⟩
         (have CBX := Lib.hid (lies_below CB.out hb2 (lies_lt CB.out)))
         (have XBX := Lib.hid (lies_below XB.out hb2 (lies_lt XB.out)))
         (have BX := Lib.hid (BB.out.trans (hb2.mono BB.out.size)))
         (clear hb2 BB CB XB c0 c1 c2 c3 c4 c5 p0 p1 p2 p3 p4 p5 p6 p7 p8 p9 p10)
         (have CB := CBX)
         (have XB := XBX)
         (have BB := BX)
         (clear BX CBX XBX)
         (obtain ⟨c0,c1,c2,c3,c4,c5⟩ := cells_6 CB.out)
         (obtain ⟨p0,p1,p2,p3,p4,p5,p6,p7,p8,p9,p10⟩ := cells_11 XB.out)))
    have VB : Hid ((w14.alloc (.cells #[.int .i64 ((findVx vls qvl).getD vz).id,.int .i64 ((findVx vls qvl).getD vz).host,.int .i64 ((findVx vls qvl).getD vz).bag,.int .i64 ((findVx vls qvl).getD vz).smax,.bool ((findVx vls qvl).getD vz).high,.int .i64 ((findVx vls qvl).getD vz).subs,.int .i64 ((findVx vls qvl).getD vz).skew,.slice ((findVx vls qvl).getD vz).toA ((findVx vls qvl).getD vz).to.length ((findVx vls qvl).getD vz).toc] 60)).heap[w14.heap.size]? = some (.cells #[.int .i64 ((findVx vls qvl).getD vz).id,.int .i64 ((findVx vls qvl).getD vz).host,.int .i64 ((findVx vls qvl).getD vz).bag,.int .i64 ((findVx vls qvl).getD vz).smax,.bool ((findVx vls qvl).getD vz).high,.int .i64 ((findVx vls qvl).getD vz).subs,.int .i64 ((findVx vls qvl).getD vz).skew,.slice ((findVx vls qvl).getD vz).toA ((findVx vls qvl).getD vz).to.length ((findVx vls qvl).getD vz).toc] 60)) := heap_alloc_new w14 _
    have CBX := Lib.hid (lies_alloc (o := .cells #[.int .i64 ((findVx vls qvl).getD vz).id,.int .i64 ((findVx vls qvl).getD vz).host,.int .i64 ((findVx vls qvl).getD vz).bag,.int .i64 ((findVx vls qvl).getD vz).smax,.bool ((findVx vls qvl).getD vz).high,.int .i64 ((findVx vls qvl).getD vz).subs,.int .i64 ((findVx vls qvl).getD vz).skew,.slice ((findVx vls qvl).getD vz).toA ((findVx vls qvl).getD vz).to.length ((findVx vls qvl).getD vz).toc] 60) CB.out)
    have XBX := Lib.hid (lies_alloc (o := .cells #[.int .i64 ((findVx vls qvl).getD vz).id,.int .i64 ((findVx vls qvl).getD vz).host,.int .i64 ((findVx vls qvl).getD vz).bag,.int .i64 ((findVx vls qvl).getD vz).smax,.bool ((findVx vls qvl).getD vz).high,.int .i64 ((findVx vls qvl).getD vz).subs,.int .i64 ((findVx vls qvl).getD vz).skew,.slice ((findVx vls qvl).getD vz).toA ((findVx vls qvl).getD vz).to.length ((findVx vls qvl).getD vz).toc] 60) XB.out)
    have BX : Hid (Below w.heap.size w (w14.alloc (.cells #[.int .i64 ((findVx vls qvl).getD vz).id,.int .i64 ((findVx vls qvl).getD vz).host,.int .i64 ((findVx vls qvl).getD vz).bag,.int .i64 ((findVx vls qvl).getD vz).smax,.bool ((findVx vls qvl).getD vz).high,.int .i64 ((findVx vls qvl).getD vz).subs,.int .i64 ((findVx vls qvl).getD vz).skew,.slice ((findVx vls qvl).getD vz).toA ((findVx vls qvl).getD vz).to.length ((findVx vls qvl).getD vz).toc] 60))) := BB.out.alloc BB.out.size _
    clear BB CB XB c0 c1 c2 c3 c4 c5 p0 p1 p2 p3 p4 p5 p6 p7 p8 p9 p10
    have CB := CBX
    have XB := XBX
    have BB := BX
    clear BX CBX XBX
    generalize w14.alloc (.cells #[.int .i64 ((findVx vls qvl).getD vz).id,.int .i64 ((findVx vls qvl).getD vz).host,.int .i64 ((findVx vls qvl).getD vz).bag,.int .i64 ((findVx vls qvl).getD vz).smax,.bool ((findVx vls qvl).getD vz).high,.int .i64 ((findVx vls qvl).getD vz).subs,.int .i64 ((findVx vls qvl).getD vz).skew,.slice ((findVx vls qvl).getD vz).toA ((findVx vls qvl).getD vz).to.length ((findVx vls qvl).getD vz).toc] 60) = W14 at BB CB XB VB ⊢
    obtain ⟨c0,c1,c2,c3,c4,c5⟩ := cells_6 CB.out
    obtain ⟨p0,p1,p2,p3,p4,p5,p6,p7,p8,p9,p10⟩ := cells_11 XB.out
    generalize w14.heap.size = vb at VB ⊢
    clear c0 c1 c2 c3 c4 c5 p0 p1 p2 p3 p4 p5 p6 p7 p8 p9 p10
    have hpat2 := Lib.hid ((BB.out.cell hpw).trans hpat)
    have hplt : Hid (tb < W14.heap.size) := Nat.lt_of_lt_of_le hpw BB.out.size
    cases hy : (qhost == y)
    · refine rport7_no CB XB hpat2 hplt (by omega) hjl2 (R := true) hy rfl (fun _ _ _ _ _ h => h) ?_
      intro we hwe z80 z81 z82 z83 z84 z85 z86 z87 z88 z89 z90 z91
      have HT : Hid (R = 20) := G7.out hR4 hy
      have BB := Lib.hid (BB.out.trans (hwe.mono BB.out.size))
      go_wp2
      go_returns
      rw [HT.out]
      exact ⟨rfl,BB.out⟩
    cases hf : findVx vls qvl with
    | none =>
      have his : (none : Option Vx).isSome = false := rfl
      rw [his]
      refine rport7_yes CB XB hpat2 hplt (by omega) hjl2 (R := true) hy rfl (fun _ _ _ _ _ h => h) ?_
      intro we hwe z80 z81 z82 z83 z84 z85 z86 z87 z88 z89 z90 z91
      have HT : Hid (R = 20) := G7n.out hR4 hy hf
      have BB := Lib.hid (BB.out.trans (hwe.mono BB.out.size))
      go_wp2
      go_returns
      rw [HT.out]
      exact ⟨rfl,BB.out⟩
    | some v =>
      have his : (some v).isSome = true := rfl
      rw [his]
      refine rport7_yes CB XB hpat2 hplt (by omega) hjl2 (R := false) hy rfl (fun _ _ _ _ _ h => h) ?_
      intro we hwe z80 z81 z82 z83 z84 z85 z86 z87 z88 z89 z90 z91
      have CBX := Lib.hid (lies_below CB.out hwe (lies_lt CB.out))
      have XBX := Lib.hid (lies_below XB.out hwe (lies_lt XB.out))
      have VBX := Lib.hid (lies_below VB.out hwe (lies_lt VB.out))
      have BX : Hid (Below w.heap.size w we) := BB.out.trans (hwe.mono BB.out.size)
      clear BB hwe CB XB VB
      have CB := CBX
      have XB := XBX
      have VB := VBX
      have BB := BX
      clear BX CBX XBX VBX
      have HR := Lib.hid (G8.out hR4 hy v hf)
      have hvm := List.mem_of_find?_eq_some hf
      obtain ⟨u1,u2,u3,u4,u5⟩ := HZ.out v hvm
      have HVI : Hid (IntsAt we v.toA v.to) := by
        obtain ⟨kv,hkv,ev⟩ := List.mem_iff_getElem.1 hvm
        obtain ⟨_,_,_,_,_,hh⟩ := HVA.out.get hkv
        rw [ev] at hh
        exact IntsAt.below hh BB.out
      have hgd : (findVx vls qvl).getD vz = v := by rw [hf];rfl
      rw [hgd] at VB
      clear hgd his hpat2 hplt G4 G7 G7n G8 hf hvm HVA HZ HPA
      obtain ⟨vid,vhost,vbag,vsmax,vhigh,vsubs,vskew,tA,tc,tol⟩ := v
      simp only at VB HR HVI u1 u2 u3 u4 u5
      have H46 : Hid (∀ w',Below we.heap.size we w' → Calls Tryz.prog 94 #[.slice tA tol.length tc,.int .i64 qhost] w' fun e w2 => e = .returned (.bool (tol.contains qhost)) ∧ w' = w2) := fun w' hb => has_any tA tc tol qhost w' (IntsAt.below HVI.out hb) (by unfold maxLen;omega)
      have H53 : Hid (∀ w',Calls Tryz.prog 95 #[.int .i64 vsmax] w' fun e w2 => e = .returned (.int .i64 (vsmax - 47)) ∧ Below w'.heap.size w' w2) := fun w' => refLargest_any vsmax w' (by omega) (by omega)
      generalize htol : tol.length = tl at VB H46
      go_upto_region 9 with (fail)
      refine rport9 XB VB H46 (cb := w.heap.size) (fun _ _ _ _ _ h => h) ?_
      intro wf hwf z93 z94 z95 z96 z97 z98 z99 z100 z101 z102 z103 z104 z105 z106 z107 z108 z109 z110 z111 z112 z113
      have CBX := Lib.hid (lies_below CB.out hwf (lies_lt CB.out))
      have XBX := Lib.hid (lies_below XB.out hwf (lies_lt XB.out))
      have VBX := Lib.hid (lies_below VB.out hwf (lies_lt VB.out))
      have BX : Hid (Below w.heap.size w wf) := BB.out.trans (hwf.mono BB.out.size)
      clear BB hwf CB XB VB
      have CB := CBX
      have XB := XBX
      have VB := VBX
      have BB := BX
      clear BX CBX XBX VBX
      cases h9 : ((qout && !(vhost == qhost)) || (!qout && !tol.contains qhost))
      case true =>
        have HT : Hid (R = 20) := by
          show _ = _
          rw [← HR.out,end20 h9];rfl
        go_wp2
        go_returns
        rw [HT.out]
        exact ⟨rfl,BB.out⟩
      go_upto_region 11 with (fail)
      refine rport11 XB VB (fun _ _ _ _ _ h => h) ?_
      intro wg hwg z115 z116 z117 z118 z119 z120 z121 z122 z123 z124 z125 z126 z127 z128 z129 z130 z131 z132 z133 z134 z135 z136 z137
      have CBX := Lib.hid (lies_below CB.out hwg (lies_lt CB.out))
      have XBX := Lib.hid (lies_below XB.out hwg (lies_lt XB.out))
      have VBX := Lib.hid (lies_below VB.out hwg (lies_lt VB.out))
      have BX : Hid (Below w.heap.size w wg) := BB.out.trans (hwg.mono BB.out.size)
      clear BB hwg CB XB VB
      have CB := CBX
      have XB := XBX
      have VB := VBX
      have BB := BX
      clear BX CBX XBX VBX
      cases h11 : (decide (qsub < 0) || ((qout && decide (vsubs ≤ qsub)) || (!qout && !(qsub == 0))))
      case true =>
        have HT : Hid (R = 1) := by
          show _ = _
          rw [← HR.out,end1 h9 h11];rfl
        go_wp2
        go_returns
        rw [HT.out]
        exact ⟨rfl,BB.out⟩
      have hend := end0 h9 h11
      have hr := HR.out
      rw [hend,if_pos rfl] at hr
      clear hend HR h9 h11
      go_upto_region 13 with (fail)
      refine rport13 XB (fun _ _ _ _ _ h => h) ?_
      intro wh hwh z139 z140 z141 z142 z143 z144 z145 z146 z147 z148 z149 z150 z151 z152 z153 z154 z155
      have CBX := Lib.hid (lies_below CB.out hwh (lies_lt CB.out))
      have XBX := Lib.hid (lies_below XB.out hwh (lies_lt XB.out))
      have VBX := Lib.hid (lies_below VB.out hwh (lies_lt VB.out))
      have BX : Hid (Below w.heap.size w wh) := BB.out.trans (hwh.mono BB.out.size)
      clear BB hwh CB XB VB
      have CB := CBX
      have XB := XBX
      have VB := VBX
      have BB := BX
      clear BX CBX XBX VBX
      cases h13 : ((qkind == 2) && (decide (qdepth < 1) || (decide (64 < qdepth) || !(qfresh == 0))))
      case true =>
        have HT : Hid (R = 1) := by
          show _ = _
          rw [← hr,kind13 hkind.1 h13];rfl
        go_wp2
        go_returns
        rw [HT.out]
        exact ⟨rfl,BB.out⟩
      obtain ⟨p0,p1,p2,p3,p4,p5,p6,p7,p8,p9,p10⟩ := cells_11 XB.out
      rcases hkind.1 with hk1 | hk2
      · have k1 : (qkind == 1) = true := by rw [hk1];rfl
        go_upto_region 16 with (fail)
        clear p0 p1 p2 p3 p4 p5 p6 p7 p8 p9 p10
        refine rport16 XB (fun _ _ _ _ _ h => h) ?_
        intro wi hwi z160 z161 z162 z163 z164 z165 z166 z167 z168 z169 z170 z171 z172 z173 z174 z175 z176 z177 z178 z179 z180 z181 z182 z183 z184 z185
        have CBX := Lib.hid (lies_below CB.out hwi (lies_lt CB.out))
        have XBX := Lib.hid (lies_below XB.out hwi (lies_lt XB.out))
        have VBX := Lib.hid (lies_below VB.out hwi (lies_lt VB.out))
        have BX : Hid (Below w.heap.size w wi) := BB.out.trans (hwi.mono BB.out.size)
        clear BB hwi CB XB VB
        have CB := CBX
        have XB := XBX
        have VB := VBX
        have BB := BX
        clear BX CBX XBX VBX
        cases h16 : (!(qdepth == 0) || ((qout && !(qfresh == 0)) || (!qout && (decide (qfresh < 1) || decide (1099511627776 < qfresh)))))
        case true =>
          have HT : Hid (R = 1) := by
            show _ = _
            rw [← hr,kind16 hk1 h16];rfl
          go_wp2
          go_returns
          rw [HT.out]
          exact ⟨rfl,BB.out⟩
        go_upto_region 18 with (fail)
        refine rport18 XB VB H53 rfl (fun _ _ _ _ _ h => h) ?_
        intro wj hwj z187 z188 z189 z190 z191
        have CBX := Lib.hid (lies_below CB.out hwj (lies_lt CB.out))
        have XBX := Lib.hid (lies_below XB.out hwj (lies_lt XB.out))
        have VBX := Lib.hid (lies_below VB.out hwj (lies_lt VB.out))
        have BX : Hid (Below w.heap.size w wj) := BB.out.trans (hwj.mono BB.out.size)
        clear BB hwj CB XB VB
        have CB := CBX
        have XB := XBX
        have VB := VBX
        have BB := BX
        clear BX CBX XBX VBX
        cases h18 : decide (vsmax - 47 < qsize)
        case true =>
          have HT : Hid (R = 11) := by
            show _ = _
            rw [← hr,kind18 hk1 h16 h18];rfl
          go_wp2
          go_returns
          rw [HT.out]
          exact ⟨rfl,BB.out⟩
        have HR : Hid ((if (ports.take i).any (fun q => decide (q.host = qhost) && decide (q.out = qout) && decide (q.vl = qvl) && decide (q.udp = qudp)) = true then (21 : Int) else 0) = R) := by
          show _ = _
          rw [← hr,kind1 hk1 h16 h18];rfl
        clear hr h16 h18 k1 VB H46 H53 HVI hk1
        obtain ⟨p0,p1,p2,p3,p4,p5,p6,p7,p8,p9,p10⟩ := cells_11 XB.out
        go_upto_region 21 with (fail)
        clear p0 p1 p2 p3 p4 p5 p6 p7 p8 p9 p10
        go_loopw [8] (fun v8 wr => ∃ k : Nat,k ≤ i ∧ v8 = .int .i64 k ∧ Hid ((ports.take k).any (fun q => decide (q.host = qhost) && decide (q.out = qout) && decide (q.vl = qvl) && decide (q.udp = qudp)) = false) ∧ wr.heap[w.heap.size]? = some (.cells #[.int .i64 hosts,.slice (some ⟨tb,tf,none⟩) pl pc,.int .i64 major,.slice wA wl wk,.slice vA vl vc,.slice (some ⟨b,off,none⟩) ql qc] 28) ∧ wr.heap[xb]? = some (.cells #[.int .i64 qid,.int .i64 qhost,.int .i64 qpart,.int .i64 qkind,.bool qout,.int .i64 qvl,.int .i64 qsub,.int .i64 qudp,.int .i64 qsize,.int .i64 qdepth,.int .i64 qfresh] 62) ∧ Below w.heap.size w wr) (fun v8 _ => i - (intOf v8).toNat)
        case atStart => exact ⟨0,Nat.zero_le _,rfl,rfl,CB.out,XB.out,BB.out⟩
        case round =>
          obtain ⟨k,hk,rfl,hany,hC,hX,hB⟩ := hrel
          have CB2 := Lib.hid hC;have XB2 := Lib.hid hX;have BB2 := Lib.hid hB
          clear hC hX hB CB XB BB
          have CB := CB2
          have XB := XB2
          have BB := BB2
          clear CB2 XB2 BB2
          by_cases hki : k < i
          · have j1 : decide ((k : Int) < (i : Int)) = true := decide_eq_true (by omega)
            have j1' : decide (k < i) = true := decide_eq_true hki
            have hkl : k < ports.length := by omega
            have hkq : (k : Int) < (ql : Int) := by omega
            have hk0 : 0 ≤ (k : Int) := by omega
            obtain ⟨b',off',eb,hbw',hatk⟩ := HQA.out.get hkl
            injection eb with eb;injection eb with eb e3 _;subst eb;subst e3
            have hatk := hatk.below BB.out hbw'
            have hst : (ports.take (k + 1)).any (fun q => decide (q.host = qhost) && decide (q.out = qout) && decide (q.vl = qvl) && decide (q.udp = qudp)) = ((ports[k].host == qhost) && ((ports[k].out == qout) && ((ports[k].vl == qvl) && (ports[k].udp == qudp)))) := by
              rw [List.take_succ_eq_append_getElem hkl,List.any_append,hany.out,twin_eq]
              (try simp)
            have hall : ((ports[k].host == qhost) && ((ports[k].out == qout) && ((ports[k].vl == qvl) && (ports[k].udp == qudp)))) = true → (ports.take i).any (fun q => decide (q.host = qhost) && decide (q.out = qout) && decide (q.vl = qvl) && decide (q.udp = qudp)) = true := fun h => by
              rw [twin_eq] at h
              rw [List.any_eq_true]
              exact ⟨ports[k],List.mem_take_iff_getElem.2 ⟨k,by omega,rfl⟩,h⟩
            generalize ports[k] = y at hatk hst hall
            obtain ⟨yid,yhost,ypart,ykind,yout,yvl,ysub,yudp,ysize,ydepth,yfresh⟩ := y
            simp only [PxAt] at hatk
            simp only at hst hall
            obtain ⟨a0,a1,a2,a3,a4,a5,a6,a7,a8,a9,a10⟩ := hatk
            obtain ⟨c0,c1,c2,c3,c4,c5⟩ := cells_6 CB.out
            go_upto_region 24 with (fail)
            clear a0 a1 a2 a3 a4 a5 a6 a7 a8 a9 a10
            have YB : Hid ((wr.alloc (.cells #[.int .i64 yid,.int .i64 yhost,.int .i64 ypart,.int .i64 ykind,.bool yout,.int .i64 yvl,.int .i64 ysub,.int .i64 yudp,.int .i64 ysize,.int .i64 ydepth,.int .i64 yfresh] 62)).heap[wr.heap.size]? = some (.cells #[.int .i64 yid,.int .i64 yhost,.int .i64 ypart,.int .i64 ykind,.bool yout,.int .i64 yvl,.int .i64 ysub,.int .i64 yudp,.int .i64 ysize,.int .i64 ydepth,.int .i64 yfresh] 62)) := heap_alloc_new wr _
            have CX := Lib.hid (lies_alloc (o := .cells #[.int .i64 yid,.int .i64 yhost,.int .i64 ypart,.int .i64 ykind,.bool yout,.int .i64 yvl,.int .i64 ysub,.int .i64 yudp,.int .i64 ysize,.int .i64 ydepth,.int .i64 yfresh] 62) CB.out)
            have XX := Lib.hid (lies_alloc (o := .cells #[.int .i64 yid,.int .i64 yhost,.int .i64 ypart,.int .i64 ykind,.bool yout,.int .i64 yvl,.int .i64 ysub,.int .i64 yudp,.int .i64 ysize,.int .i64 ydepth,.int .i64 yfresh] 62) XB.out)
            have BX : Hid (Below w.heap.size w (wr.alloc (.cells #[.int .i64 yid,.int .i64 yhost,.int .i64 ypart,.int .i64 ykind,.bool yout,.int .i64 yvl,.int .i64 ysub,.int .i64 yudp,.int .i64 ysize,.int .i64 ydepth,.int .i64 yfresh] 62))) := BB.out.alloc BB.out.size _
            clear CB XB BB c0 c1 c2 c3 c4 c5 j1 j1'
            generalize wr.alloc (.cells #[.int .i64 yid,.int .i64 yhost,.int .i64 ypart,.int .i64 ykind,.bool yout,.int .i64 yvl,.int .i64 ysub,.int .i64 yudp,.int .i64 ysize,.int .i64 ydepth,.int .i64 yfresh] 62) = Wy at YB CX XX BX ⊢
            refine rport24 XX YB (fun _ _ _ _ _ h => h) ?_
            intro wd hwd z203 z204 z205 z206 z207 z208 z209 z210 z211 z212 z213 z214 z215 z216 z217 z218 z219 z220 z221 z222 z223 z224 z225 z226 z227
            have CY := Lib.hid (lies_below CX.out hwd (lies_lt CX.out))
            have XY := Lib.hid (lies_below XX.out hwd (lies_lt XX.out))
            have BY : Hid (Below w.heap.size w wd) := BX.out.trans (hwd.mono BX.out.size)
            clear CX XX BX YB hwd
            generalize ((yhost == qhost) && ((yout == qout) && ((yvl == qvl) && (yudp == qudp)))) = RT at hst hall ⊢
            cases RT
            · have hst := Lib.hid hst
              clear hall
              go_wp2
              go_roundw
              case rel => exact ⟨k + 1,by omega,by go_num,hst,CY.out,XY.out,BY.out⟩
              case measure => simp [intOf];omega
            · have HT : Hid (R = 21) := by
                show _ = _
                rw [← HR.out,if_pos (hall rfl)]
              clear hall hst
              go_wp2
              go_returns
              rw [HT.out]
              exact ⟨rfl,BY.out⟩
          · have j1 : decide ((k : Int) < (i : Int)) = false := decide_eq_false (by omega)
            have j1' : decide (k < i) = false := decide_eq_false hki
            have hki2 : k = i := by omega
            have HT : Hid (R = 0) := by
              show _ = _
              have := hany.out
              rw [hki2] at this
              rw [← HR.out,this];rfl
            go_wp2
            go_returns
            rw [HT.out]
            exact ⟨rfl,BB.out⟩
      · have k1 : (qkind == 1) = false := by rw [hk2];rfl
        have HR : Hid ((if (ports.take i).any (fun q => decide (q.host = qhost) && decide (q.out = qout) && decide (q.vl = qvl) && decide (q.udp = qudp)) = true then (21 : Int) else 0) = R) := by
          show _ = _
          rw [← hr,kind2 hk2 h13];rfl
        clear hr VB H46 H53 HVI hk2
        go_upto_region 21 with (fail)
        clear p0 p1 p2 p3 p4 p5 p6 p7 p8 p9 p10
        go_loopw [8] (fun v8 wr => ∃ k : Nat,k ≤ i ∧ v8 = .int .i64 k ∧ Hid ((ports.take k).any (fun q => decide (q.host = qhost) && decide (q.out = qout) && decide (q.vl = qvl) && decide (q.udp = qudp)) = false) ∧ wr.heap[w.heap.size]? = some (.cells #[.int .i64 hosts,.slice (some ⟨tb,tf,none⟩) pl pc,.int .i64 major,.slice wA wl wk,.slice vA vl vc,.slice (some ⟨b,off,none⟩) ql qc] 28) ∧ wr.heap[xb]? = some (.cells #[.int .i64 qid,.int .i64 qhost,.int .i64 qpart,.int .i64 qkind,.bool qout,.int .i64 qvl,.int .i64 qsub,.int .i64 qudp,.int .i64 qsize,.int .i64 qdepth,.int .i64 qfresh] 62) ∧ Below w.heap.size w wr) (fun v8 _ => i - (intOf v8).toNat)
        case atStart => exact ⟨0,Nat.zero_le _,rfl,rfl,CB.out,XB.out,BB.out⟩
        case round =>
          obtain ⟨k,hk,rfl,hany,hC,hX,hB⟩ := hrel
          have CB2 := Lib.hid hC;have XB2 := Lib.hid hX;have BB2 := Lib.hid hB
          clear hC hX hB CB XB BB
          have CB := CB2
          have XB := XB2
          have BB := BB2
          clear CB2 XB2 BB2
          by_cases hki : k < i
          · have j1 : decide ((k : Int) < (i : Int)) = true := decide_eq_true (by omega)
            have j1' : decide (k < i) = true := decide_eq_true hki
            have hkl : k < ports.length := by omega
            have hkq : (k : Int) < (ql : Int) := by omega
            have hk0 : 0 ≤ (k : Int) := by omega
            obtain ⟨b',off',eb,hbw',hatk⟩ := HQA.out.get hkl
            injection eb with eb;injection eb with eb e3 _;subst eb;subst e3
            have hatk := hatk.below BB.out hbw'
            have hst : (ports.take (k + 1)).any (fun q => decide (q.host = qhost) && decide (q.out = qout) && decide (q.vl = qvl) && decide (q.udp = qudp)) = ((ports[k].host == qhost) && ((ports[k].out == qout) && ((ports[k].vl == qvl) && (ports[k].udp == qudp)))) := by
              rw [List.take_succ_eq_append_getElem hkl,List.any_append,hany.out,twin_eq]
              (try simp)
            have hall : ((ports[k].host == qhost) && ((ports[k].out == qout) && ((ports[k].vl == qvl) && (ports[k].udp == qudp)))) = true → (ports.take i).any (fun q => decide (q.host = qhost) && decide (q.out = qout) && decide (q.vl = qvl) && decide (q.udp = qudp)) = true := fun h => by
              rw [twin_eq] at h
              rw [List.any_eq_true]
              exact ⟨ports[k],List.mem_take_iff_getElem.2 ⟨k,by omega,rfl⟩,h⟩
            generalize ports[k] = y at hatk hst hall
            obtain ⟨yid,yhost,ypart,ykind,yout,yvl,ysub,yudp,ysize,ydepth,yfresh⟩ := y
            simp only [PxAt] at hatk
            simp only at hst hall
            obtain ⟨a0,a1,a2,a3,a4,a5,a6,a7,a8,a9,a10⟩ := hatk
            obtain ⟨c0,c1,c2,c3,c4,c5⟩ := cells_6 CB.out
            go_upto_region 24 with (fail)
            clear a0 a1 a2 a3 a4 a5 a6 a7 a8 a9 a10
            have YB : Hid ((wr.alloc (.cells #[.int .i64 yid,.int .i64 yhost,.int .i64 ypart,.int .i64 ykind,.bool yout,.int .i64 yvl,.int .i64 ysub,.int .i64 yudp,.int .i64 ysize,.int .i64 ydepth,.int .i64 yfresh] 62)).heap[wr.heap.size]? = some (.cells #[.int .i64 yid,.int .i64 yhost,.int .i64 ypart,.int .i64 ykind,.bool yout,.int .i64 yvl,.int .i64 ysub,.int .i64 yudp,.int .i64 ysize,.int .i64 ydepth,.int .i64 yfresh] 62)) := heap_alloc_new wr _
            have CX := Lib.hid (lies_alloc (o := .cells #[.int .i64 yid,.int .i64 yhost,.int .i64 ypart,.int .i64 ykind,.bool yout,.int .i64 yvl,.int .i64 ysub,.int .i64 yudp,.int .i64 ysize,.int .i64 ydepth,.int .i64 yfresh] 62) CB.out)
            have XX := Lib.hid (lies_alloc (o := .cells #[.int .i64 yid,.int .i64 yhost,.int .i64 ypart,.int .i64 ykind,.bool yout,.int .i64 yvl,.int .i64 ysub,.int .i64 yudp,.int .i64 ysize,.int .i64 ydepth,.int .i64 yfresh] 62) XB.out)
            have BX : Hid (Below w.heap.size w (wr.alloc (.cells #[.int .i64 yid,.int .i64 yhost,.int .i64 ypart,.int .i64 ykind,.bool yout,.int .i64 yvl,.int .i64 ysub,.int .i64 yudp,.int .i64 ysize,.int .i64 ydepth,.int .i64 yfresh] 62))) := BB.out.alloc BB.out.size _
            clear CB XB BB c0 c1 c2 c3 c4 c5 j1 j1'
            generalize wr.alloc (.cells #[.int .i64 yid,.int .i64 yhost,.int .i64 ypart,.int .i64 ykind,.bool yout,.int .i64 yvl,.int .i64 ysub,.int .i64 yudp,.int .i64 ysize,.int .i64 ydepth,.int .i64 yfresh] 62) = Wy at YB CX XX BX ⊢
            refine rport24 XX YB (fun _ _ _ _ _ h => h) ?_
            intro wd hwd z203 z204 z205 z206 z207 z208 z209 z210 z211 z212 z213 z214 z215 z216 z217 z218 z219 z220 z221 z222 z223 z224 z225 z226 z227
            have CY := Lib.hid (lies_below CX.out hwd (lies_lt CX.out))
            have XY := Lib.hid (lies_below XX.out hwd (lies_lt XX.out))
            have BY : Hid (Below w.heap.size w wd) := BX.out.trans (hwd.mono BX.out.size)
            clear CX XX BX YB hwd
            generalize ((yhost == qhost) && ((yout == qout) && ((yvl == qvl) && (yudp == qudp)))) = RT at hst hall ⊢
            cases RT
            · have hst := Lib.hid hst
              clear hall
              go_wp2
              go_roundw
              case rel => exact ⟨k + 1,by omega,by go_num,hst,CY.out,XY.out,BY.out⟩
              case measure => simp [intOf];omega
            · have HT : Hid (R = 21) := by
                show _ = _
                rw [← HR.out,if_pos (hall rfl)]
              clear hall hst
              go_wp2
              go_returns
              rw [HT.out]
              exact ⟨rfl,BY.out⟩
          · have j1 : decide ((k : Int) < (i : Int)) = false := decide_eq_false (by omega)
            have j1' : decide (k < i) = false := decide_eq_false hki
            have hki2 : k = i := by omega
            have HT : Hid (R = 0) := by
              show _ = _
              have := hany.out
              rw [hki2] at this
              rw [← HR.out,this];rfl
            go_wp2
            go_returns
            rw [HT.out]
            exact ⟨rfl,BB.out⟩
end Go.Proofs.YtdgkanamceeheaaGreat
