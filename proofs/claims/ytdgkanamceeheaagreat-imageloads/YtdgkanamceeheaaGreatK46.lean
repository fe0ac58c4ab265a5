/- The program writes a network. -/
import Derived.Test.YtdgkanamceeheaaGreatK45
set_option linter.unusedVariables false
set_option maxRecDepth 100000
set_option linter.unusedVariables false
namespace Go.Proofs.YtdgkanamceeheaaGreat.Im
open Go.RowKit
theorem list_u16_wl (b : Nat) (l : List UInt8) (A : Option Addr) (m cap : Nat) (xs : List Int) (W0 w : World) (hW : WL w b l) (hx : IntsAt W0 A xs) (hB : Below W0.heap.size W0 w) (hb : W0.heap.size ≤ b) (hall : ∀ x ∈ xs,PitotImg.fits 2 x) (hm : xs.length = m) (hlen : m < 65536) (hll : l.length ≤ 600000) :
    Calls Tryz.prog 62 #[.pointer (some ⟨b,0,none⟩),.slice A m cap,.func (.func 61) #[.pointer (some ⟨b,0,none⟩)] #[]] w fun e w' => e = .returned (.tuple #[]) ∧ WL w' b (l ++ PitotImg.manyW (PitotImg.w 2) xs) ∧ w.grownBy w' (some b) :=
  (list_u16 b _ l A m cap xs W0 w hW hx hB hb hall hm hlen (by omega)).mono fun e w' ⟨h1,h2,h3⟩ => ⟨h1,wl_of h2 (by rw [List.length_append,manyW_len2];omega),h3⟩
theorem text_wl (b : Nat) (l : List UInt8) (s : ByteArray) (w : World) (h : WL w b l) (h1 : l.length ≤ 1000000) (h2 : s.size ≤ 1000000) (h3 : 0 < s.size) :
    Calls Tryz.prog 60 #[.pointer (some ⟨b,0,none⟩),.string s] w fun e w' => e = .returned (.tuple #[]) ∧ WL w' b (l ++ s.data.toList) ∧ w.grownBy w' (some b) :=
  (Bi.text_any b _ (some l) s w h (fun l' e => by cases e;exact h1) h2).mono fun e w' ⟨g1,g2,g3⟩ => ⟨g1,wl_of (n := l.length + 1) g2 (by
    have h4 : s.data.toList.length = s.size := by simp
    show l.length + 1 ≤ (l ++ s.data.toList).length
    rw [List.length_append];omega),g3⟩
theorem alloc_at {w : World} {o : Obj} {k : Nat} (hk : w.heap.size = k) : (w.alloc o).heap[k]? = some o := by subst hk;exact heap_alloc_new w o
set_option maxHeartbeats 8000000 in
theorem write_any (c : Cx) (b : Nat) (W0 w : World) (hc : c.Held W0) (hB : Below W0.heap.size W0 w) (hb : W0.heap.size ≤ b) (hW : WL w b []) (hf : PitotImg.cfOk c.pl) (hll : (PitotImg.magic ++ PitotImg.cfW c.pl).length ≤ 600000) :
    Calls Tryz.prog 25 #[.pointer (some ⟨b,0,none⟩),c.val] w fun e w' => e = .returned (.tuple #[]) ∧ WL w' b (PitotImg.magic ++ PitotImg.cfW c.pl) ∧ w.grownBy w' (some b) := by
  obtain ⟨hf1,⟨hf2,hf2l⟩,hf3,⟨hf4,hf4l⟩,⟨hf5,hf5l⟩,⟨hf6,hf6l⟩⟩ := hf
  have hc1 : IntsAt W0 c.partsA c.parts := hc.1
  have hc2 : WnsAt W0 c.winsA c.wins := hc.2.1
  have hc3 : VxsAt W0 c.vlsA c.vls := hc.2.2.1
  have hc4 : PxsAt W0 c.portsA c.ports := hc.2.2.2
  obtain ⟨hosts,pA,pc,parts,major,wA,wk,wins,vA,vc,vls,qA,qc,ports⟩ := c
  simp only at hc1 hc2 hc3 hc4
  have hf1 : PitotImg.fits 2 hosts := hf1
  have hf2 : ∀ t ∈ parts,PitotImg.fits 2 t := hf2
  have hf2l : parts.length < 65536 := hf2l
  have hf3 : PitotImg.fits 4 major := hf3
  have hf4 : ∀ x ∈ wins,PitotImg.fits 2 x.part ∧ PitotImg.fits 4 x.beg ∧ PitotImg.fits 4 x.long := fun x hx => hf4 _ (List.mem_map_of_mem hx)
  have hf4l : wins.length < 65536 := by have : (wins.map Wn.pl).length < 65536 := hf4l;simpa using this
  have hf5 : ∀ x ∈ vls,PitotImg.vlOk x.pl := fun x hx => hf5 _ (List.mem_map_of_mem hx)
  have hf5l : vls.length < 65536 := by have : (vls.map Vx.pl).length < 65536 := hf5l;simpa using this
  have hf6 : ∀ x ∈ ports,PitotImg.prtOk x.pl := fun x hx => hf6 _ (List.mem_map_of_mem hx)
  have hf6l : ports.length < 65536 := by have : (ports.map Px.pl).length < 65536 := hf6l;simpa using this
  obtain ⟨EP,HEP⟩ : ∃ E,PitotImg.manyW (PitotImg.w 2) parts = E := ⟨_,rfl⟩
  obtain ⟨EW,HEW⟩ : ∃ E,PitotImg.manyW (fun x : Wn => PitotImg.winW x.pl) wins = E := ⟨_,rfl⟩
  obtain ⟨EV,HEV⟩ : ∃ E,PitotImg.manyW (fun x : Vx => PitotImg.vlW x.pl) vls = E := ⟨_,rfl⟩
  obtain ⟨EQ,HEQ⟩ : ∃ E,PitotImg.manyW (fun x : Px => PitotImg.prtW x.pl) ports = E := ⟨_,rfl⟩
  have hcf : PitotImg.magic ++ PitotImg.cfW (Cx.pl ⟨hosts,pA,pc,parts,major,wA,wk,wins,vA,vc,vls,qA,qc,ports⟩) = PitotImg.magic ++ PitotImg.w 2 hosts ++ EP ++ PitotImg.w 4 major ++ EW ++ EV ++ EQ := by
    rw [← HEP,← HEW,← HEV,← HEQ]
    simp only [PitotImg.cfW,Cx.pl,PitotImg.manyW,List.flatMap_map,List.length_map,List.append_assoc]
  rw [hcf] at hll ⊢
  have hmg : PitotImg.magic.length = 6 := rfl
  simp only [List.length_append,PitotImg.w_length,hmg] at hll
  have HU := Lib.hid (fun (l : List UInt8) (w : World) (h : WL w b l) (hll : l.length ≤ 900000) => u16_wl b l hosts w h hf1 hll)
  have HU4 := Lib.hid (fun (l : List UInt8) (w : World) (h : WL w b l) (hll : l.length ≤ 900000) => u32_wl b l major w h hf3 hll)
  have HL1 := Lib.hid (fun (l : List UInt8) (w : World) (hW : WL w b l) (hB : Below W0.heap.size W0 w) (hll : l.length ≤ 600000) => list_u16_wl b l pA parts.length pc parts W0 w hW hc1 hB hb hf2 rfl hf2l hll)
  have HL2 := Lib.hid (fun (kb : Nat) (l : List UInt8) (w : World) (hW : WL w b l) (hB : Below W0.heap.size W0 w) (hK : w.heap[kb]? = some (.cells #[.pointer (some ⟨b,0,none⟩)] 68)) (hne : kb ≠ b) (hll : (l ++ PitotImg.manyW (fun x : Wn => PitotImg.winW x.pl) wins).length ≤ 600000) => listlW b kb l wA wins.length wk wins W0 w hW hc2 hB hb rfl hf4l hll (fun i h l' w' hg hw hl => cW_any b kb l' wins[i] w' hw (lies_grown hK hg hne) (hf4 _ (List.getElem_mem h)) hl))
  have HL3 := Lib.hid (fun (kb : Nat) (l : List UInt8) (w : World) (hW : WL w b l) (hB : Below W0.heap.size W0 w) (hK : w.heap[kb]? = some (.cells #[.pointer (some ⟨b,0,none⟩)] 68)) (hne : kb ≠ b) (hll : (l ++ PitotImg.manyW (fun x : Vx => PitotImg.vlW x.pl) vls).length ≤ 600000) => listlV b kb l vA vls.length vc vls W0 w hW hc3 hB hb rfl hf5l hll (fun i h l' w' hg hw hl => cV_any b kb l' vls[i] W0 w' hw (lies_grown hK hg hne) (by obtain ⟨_,_,_,_,_,h⟩ := hc3.get h;exact h) (hB.trans (grown_below hg hb hB.size)) hb (hf5 _ (List.getElem_mem h)) hl))
  have HL4 := Lib.hid (fun (kb : Nat) (l : List UInt8) (w : World) (hW : WL w b l) (hB : Below W0.heap.size W0 w) (hK : w.heap[kb]? = some (.cells #[.pointer (some ⟨b,0,none⟩)] 68)) (hne : kb ≠ b) (hll : (l ++ PitotImg.manyW (fun x : Px => PitotImg.prtW x.pl) ports).length ≤ 600000) => listlP b kb l qA ports.length qc ports W0 w hW hc4 hB hb rfl hf6l hll (fun i h l' w' hg hw hl => cP_any b kb l' ports[i] w' hw (lies_grown hK hg hne) (hf6 _ (List.getElem_mem h)) hl))
  rw [HEP] at HL1;rw [HEW] at HL2;rw [HEV] at HL3;rw [HEQ] at HL4
  clear HEP HEW HEV HEQ hcf hc hc1 hc2 hc3 hc4 hf1 hf2 hf2l hf3 hf4 hf4l hf5 hf5l hf6 hf6l
  show Calls Tryz.prog 25 #[.pointer (some ⟨b,0,none⟩),.agg #[.int .i64 hosts,.slice pA parts.length pc,.int .i64 major,.slice wA wins.length wk,.slice vA vls.length vc,.slice qA ports.length qc]] w _
  generalize wins.length = wl,parts.length = pl,vls.length = vl,ports.length = ql at HL1 HL2 HL3 HL4 ⊢
  have HT := Lib.hid (fun (w : World) (h : WL w b []) => text_wl b [] ⟨#[65,70,68,88,0,1]⟩ w h (by simp) (by decide) (by decide))
  have HLB := Lib.hid (fun w' (hg : w.grownBy w' (some b)) => hB.trans (grown_below hg hb hB.size))
  have HK0 : Hid (((w.alloc (.cells #[.pointer (some ⟨b,0,none⟩)] 68)).alloc (.cells #[.int .i64 hosts,.slice pA pl pc,.int .i64 major,.slice wA wl wk,.slice vA vl vc,.slice qA ql qc] 28)).heap[w.heap.size]? = some (.cells #[.pointer (some ⟨b,0,none⟩)] 68)) := lies_alloc (heap_alloc_new w _) _
  have HC0 : Hid (((w.alloc (.cells #[.pointer (some ⟨b,0,none⟩)] 68)).alloc (.cells #[.int .i64 hosts,.slice pA pl pc,.int .i64 major,.slice wA wl wk,.slice vA vl vc,.slice qA ql qc] 28)).heap[w.heap.size + 1]? = some (.cells #[.int .i64 hosts,.slice pA pl pc,.int .i64 major,.slice wA wl wk,.slice vA vl vc,.slice qA ql qc] 28)) := alloc_at (by simp)
  have HW0 : Hid (WL ((w.alloc (.cells #[.pointer (some ⟨b,0,none⟩)] 68)).alloc (.cells #[.int .i64 hosts,.slice pA pl pc,.int .i64 major,.slice wA wl wk,.slice vA vl vc,.slice qA ql qc] 28)) b []) := wl_alloc (wl_alloc hW _) _
  have HG0 : Hid (w.grownBy ((w.alloc (.cells #[.pointer (some ⟨b,0,none⟩)] 68)).alloc (.cells #[.int .i64 hosts,.slice pA pl pc,.int .i64 major,.slice wA wl wk,.slice vA vl vc,.slice qA ql qc] 28)) (some b)) := Bi.grown_trans (Bi.grown_alloc _) (Bi.grown_alloc _)
  have HNE : Hid (w.heap.size ≠ b) := by have := wr_lt hW;show _ ≠ _;omega
  have HNC : Hid (w.heap.size + 1 ≠ b) := by have := wr_lt hW;show _ ≠ _;omega
  clear hW hB
  go_enter Tryz.func25,Tryz.ntmps25
  go_upto_region 1 with (fail)
  have HK := HK0;have HC := HC0;have HW := HW0;have HG := HG0
  clear HK0 HC0 HW0 HG0
  obtain ⟨W1,hW1⟩ : ∃ W,(w.alloc (.cells #[.pointer (some ⟨b,0,none⟩)] 68)).alloc (.cells #[.int .i64 hosts,.slice pA pl pc,.int .i64 major,.slice wA wl wk,.slice vA vl vc,.slice qA ql qc] 28) = W := ⟨_,rfl⟩
  rw [hW1] at HW HK HC HG ⊢
  clear hW1
  generalize w.heap.size + 1 = cb at HC HNC ⊢
  generalize w.heap.size = kb at HK HNE ⊢
  have k0 := lies_cell HK.out 0
  obtain ⟨c0,c1,c2,c3,c4,c5⟩ := cells_6 HC.out
  go_upto_region 2 with (first
    | (go_at_call 60;(with_reducible refine (HT.out _ HW.out).mono ?_);rintro e w2 ⟨rfl,hw2,hg2⟩
       (have HCX := Lib.hid (lies_grown HC.out hg2 HNC.out))
       (have HKX := Lib.hid (lies_grown HK.out hg2 HNE.out))
       (have HGX := Lib.hid (Bi.grown_trans HG.out hg2))
       (have HWX := Lib.hid hw2)
       (clear hw2 hg2 HC HK HG HW k0 c0 c1 c2 c3 c4 c5)
       (have HC := HCX)
       (have HK := HKX)
       (have HG := HGX)
       (have HW := HWX)
       (clear HCX HKX HGX HWX)
       (have k0 := lies_cell HK.out 0)
       (obtain ⟨c0,c1,c2,c3,c4,c5⟩ := cells_6 HC.out)))
  have HW2 : Hid (WL _ b PitotImg.magic) := HW.out
  clear HW
  have HW := HW2
  clear HW2
  obtain ⟨M,HM⟩ : ∃ M,PitotImg.magic = M := ⟨_,rfl⟩
  rw [HM] at HW hmg
  have HM := Lib.hid HM
  go_wp2_with (first
    | (go_at_call 61;(with_reducible refine (HU.out _ _ HW.out (by (try simp only [List.length_append,PitotImg.w_length]);omega)).mono ?_);rintro e w2 ⟨rfl,hw2,hg2⟩
       (have HCX := Lib.hid (lies_grown HC.out hg2 HNC.out))
       (have HKX := Lib.hid (lies_grown HK.out hg2 HNE.out))
       (have HGX := Lib.hid (Bi.grown_trans HG.out hg2))
       (have HWX := Lib.hid hw2)
       (clear hw2 hg2 HC HK HG HW k0 c0 c1 c2 c3 c4 c5)
       (have HC := HCX)
       (have HK := HKX)
       (have HG := HGX)
       (have HW := HWX)
       (clear HCX HKX HGX HWX)
       (have k0 := lies_cell HK.out 0)
       (obtain ⟨c0,c1,c2,c3,c4,c5⟩ := cells_6 HC.out))
    | (go_at_call 63;(with_reducible refine (HU4.out _ _ HW.out (by (try simp only [List.length_append,PitotImg.w_length]);omega)).mono ?_);rintro e w2 ⟨rfl,hw2,hg2⟩
       (have HCX := Lib.hid (lies_grown HC.out hg2 HNC.out))
       (have HKX := Lib.hid (lies_grown HK.out hg2 HNE.out))
       (have HGX := Lib.hid (Bi.grown_trans HG.out hg2))
       (have HWX := Lib.hid hw2)
       (clear hw2 hg2 HC HK HG HW k0 c0 c1 c2 c3 c4 c5)
       (have HC := HCX)
       (have HK := HKX)
       (have HG := HGX)
       (have HW := HWX)
       (clear HCX HKX HGX HWX)
       (have k0 := lies_cell HK.out 0)
       (obtain ⟨c0,c1,c2,c3,c4,c5⟩ := cells_6 HC.out))
    | (go_at_call 62;(with_reducible refine (HL1.out _ _ HW.out (HLB.out _ HG.out) (by (try simp only [List.length_append,PitotImg.w_length]);omega)).mono ?_);rintro e w2 ⟨rfl,hw2,hg2⟩
       (have HCX := Lib.hid (lies_grown HC.out hg2 HNC.out))
       (have HKX := Lib.hid (lies_grown HK.out hg2 HNE.out))
       (have HGX := Lib.hid (Bi.grown_trans HG.out hg2))
       (have HWX := Lib.hid hw2)
       (clear hw2 hg2 HC HK HG HW k0 c0 c1 c2 c3 c4 c5)
       (have HC := HCX)
       (have HK := HKX)
       (have HG := HGX)
       (have HW := HWX)
       (clear HCX HKX HGX HWX)
       (have k0 := lies_cell HK.out 0)
       (obtain ⟨c0,c1,c2,c3,c4,c5⟩ := cells_6 HC.out))
    | (go_at_call 64;(with_reducible refine (HL2.out kb _ _ HW.out (HLB.out _ HG.out) HK.out HNE.out (by (try simp only [List.length_append,PitotImg.w_length]);omega)).mono ?_);rintro e w2 ⟨rfl,hw2,hg2⟩
       (have HCX := Lib.hid (lies_grown HC.out hg2 HNC.out))
       (have HKX := Lib.hid (lies_grown HK.out hg2 HNE.out))
       (have HGX := Lib.hid (Bi.grown_trans HG.out hg2))
       (have HWX := Lib.hid hw2)
       (clear hw2 hg2 HC HK HG HW k0 c0 c1 c2 c3 c4 c5)
       (have HC := HCX)
       (have HK := HKX)
       (have HG := HGX)
       (have HW := HWX)
       (clear HCX HKX HGX HWX)
       (have k0 := lies_cell HK.out 0)
       (obtain ⟨c0,c1,c2,c3,c4,c5⟩ := cells_6 HC.out))
    | (go_at_call 67;(with_reducible refine (HL3.out kb _ _ HW.out (HLB.out _ HG.out) HK.out HNE.out (by (try simp only [List.length_append,PitotImg.w_length]);omega)).mono ?_);rintro e w2 ⟨rfl,hw2,hg2⟩
       (have HCX := Lib.hid (lies_grown HC.out hg2 HNC.out))
       (have HKX := Lib.hid (lies_grown HK.out hg2 HNE.out))
       (have HGX := Lib.hid (Bi.grown_trans HG.out hg2))
       (have HWX := Lib.hid hw2)
       (clear hw2 hg2 HC HK HG HW k0 c0 c1 c2 c3 c4 c5)
       (have HC := HCX)
       (have HK := HKX)
       (have HG := HGX)
       (have HW := HWX)
       (clear HCX HKX HGX HWX)
       (have k0 := lies_cell HK.out 0)
       (obtain ⟨c0,c1,c2,c3,c4,c5⟩ := cells_6 HC.out))
    | (go_at_call 70;(with_reducible refine (HL4.out kb _ _ HW.out (HLB.out _ HG.out) HK.out HNE.out (by (try simp only [List.length_append,PitotImg.w_length]);omega)).mono ?_);rintro e w2 ⟨rfl,hw2,hg2⟩
       (have HCX := Lib.hid (lies_grown HC.out hg2 HNC.out))
       (have HKX := Lib.hid (lies_grown HK.out hg2 HNE.out))
       (have HGX := Lib.hid (Bi.grown_trans HG.out hg2))
       (have HWX := Lib.hid hw2)
       (clear hw2 hg2 HC HK HG HW k0 c0 c1 c2 c3 c4 c5)
       (have HC := HCX)
       (have HK := HKX)
       (have HG := HGX)
       (have HW := HWX)
       (clear HCX HKX HGX HWX)
       (have k0 := lies_cell HK.out 0)
       (obtain ⟨c0,c1,c2,c3,c4,c5⟩ := cells_6 HC.out)))
  go_returns
  rw [HM.out]
  exact ⟨rfl,HW.out,HG.out⟩
theorem long_one (x : Px) (w : World) : Calls Tryz.prog 24 #[x.val] w fun e w' => e = .returned (.bool (decide (4294967295 < x.id))) ∧ Below w.heap.size w w' := by
  have H := Lib.hid ((Below.refl _ w).alloc (Nat.le_refl _) (.cells #[.int .i64 x.id,.int .i64 x.host,.int .i64 x.part,.int .i64 x.kind,.bool x.out,.int .i64 x.vl,.int .i64 x.sub,.int .i64 x.udp,.int .i64 x.size,.int .i64 x.depth,.int .i64 x.fresh] 62))
  go_enter Tryz.func24,Tryz.ntmps24
  go_wp2
  go_returns
  exact ⟨rfl,H.out⟩
set_option maxHeartbeats 2000000 in
theorem long_idx (qA : Option Addr) (m qc : Nat) (qs : List Px) (W : World) (hQ : PxsAt W qA qs) (hm : qs.length = m) (hl : m ≤ 1000000) : Calls Tryz.prog 59 #[.slice qA m qc,.func (.func 24) #[] #[]] W fun e w' => (∃ r : Int,e = .returned (.int .i64 r) ∧ (decide (0 ≤ r) = qs.any (fun x => decide (4294967295 < x.id)))) ∧ Below W.heap.size W w' := by
  have HF := Lib.hid (fun (x : Px) (w : World) => long_one x w)
  have HV := Lib.hid hQ
  have Hm := Lib.hid hm
  obtain ⟨R,HR⟩ : ∃ R,Hid (qs.any (fun x => decide (4294967295 < x.id)) = R) := ⟨_,rfl⟩
  rw [HR.out]
  clear hQ hm
  go_enter Tryz.func59,Tryz.ntmps59
  go_wp2
  go_loopw [8] (fun v8 wr => ∃ k : Nat,k ≤ m ∧ v8 = .int .i64 k ∧ Hid ((qs.drop k).any (fun x => decide (4294967295 < x.id)) = R) ∧ Below W.heap.size W wr) (fun v8 _ => m - (intOf v8).toNat)
  case atStart => exact ⟨0,Nat.zero_le _,rfl,HR,Below.refl _ _⟩
  case round =>
    obtain ⟨k,hk,rfl,ht,hB⟩ := hrel
    have HB := Lib.hid hB;clear hB
    by_cases hkm : k < m
    · have hkl : k < qs.length := by rw [Hm.out];exact hkm
      have e1 : decide ((k : Int) < (m : Int)) = true := decide_eq_true (by omega)
      have e1' : decide (k < m) = true := decide_eq_true hkm
      obtain ⟨b,off,rfl,hb,hat⟩ := HV.out.get hkl
      have hat := hat.below HB.out hb
      have hs : (qs.drop k).any (fun x => decide (4294967295 < x.id)) = ((fun x : Px => decide (4294967295 < x.id)) qs[k] || (qs.drop (k + 1)).any (fun x => decide (4294967295 < x.id))) := by rw [List.drop_eq_getElem_cons hkl,List.any_cons]
      generalize qs[k] = x at hat hs
      have HC := HF.out x wr
      obtain ⟨a0,a1,a2,a3,a4,a5,a6,a7,a8,a9,a10⟩ := hat
      simp only at hs
      cases hx : decide (4294967295 < x.id)
      · rw [hx] at HC hs
        have HC := Lib.hid HC
        have HT2 : Hid ((qs.drop (k + 1)).any (fun x => decide (4294967295 < x.id)) = R) := by show _ = _;rw [← ht.out,hs];rfl
        clear hs hx ht
        go_wp2_with (go_at_call 24;(with_reducible refine (HC.out).mono ?_);rintro e w2 ⟨rfl,hb2⟩)
        have HB2 := Lib.hid (HB.out.trans (hb2.mono HB.out.size))
        clear hb2
        go_roundw
        case rel => exact ⟨k + 1,by omega,by go_num,HT2,HB2.out⟩
        case measure => simp [intOf];omega
      · rw [hx] at HC hs
        have HC := Lib.hid HC
        have HT2 : Hid (R = true) := by show _ = _;rw [← ht.out,hs];rfl
        clear hs hx ht
        go_wp2_with (go_at_call 24;(with_reducible refine (HC.out).mono ?_);rintro e w2 ⟨rfl,hb2⟩)
        go_returns
        rw [HT2.out]
        exact ⟨⟨_,rfl,decide_eq_true (by omega)⟩,HB.out.trans (hb2.mono HB.out.size)⟩
    · have e1 : decide ((k : Int) < (m : Int)) = false := decide_eq_false (by omega)
      have e1' : decide (k < m) = false := decide_eq_false hkm
      have HT2 : Hid (R = false) := by show _ = _;rw [← ht.out,List.drop_of_length_le (by rw [Hm.out];omega)];rfl
      clear ht
      go_wp2
      go_returns
      rw [HT2.out]
      exact ⟨⟨_,rfl,rfl⟩,HB.out⟩
theorem long_any (qA : Option Addr) (m qc : Nat) (qs : List Px) (W : World) (hQ : PxsAt W qA qs) (hm : qs.length = m) (hl : m ≤ 1000000) : Calls Tryz.prog 23 #[.slice qA m qc,.func (.func 24) #[] #[]] W fun e w' => e = .returned (.bool (qs.any (fun x => decide (4294967295 < x.id)))) ∧ Below W.heap.size W w' := by
  have H := Lib.hid (long_idx qA m qc qs W hQ hm hl)
  clear hQ hm
  go_enter Tryz.func23,Tryz.ntmps23
  go_wp2_with (go_at_call 59;(with_reducible refine (H.out).mono ?_);rintro e w2 ⟨⟨r,rfl,hr⟩,hb2⟩)
  go_returns
  exact ⟨by rw [← hr];rfl,hb2⟩
end Go.Proofs.YtdgkanamceeheaaGreat.Im
