/- Merged: Xe, Cv, Cw, Cp, Cs, Pb. -/
import Derived.Test.YtdphapjeohkbjaaM3
import Derived.Test.YtdphapjeohkbjaaM2
import Derived.Deep.RegionHeld3
import Derived.Deep.Cut
import Derived.Deep.CutBlock
import Derived.IntWalk
import Derived.Deep.AppendLies
import Derived.Deep.AppendSrc
set_option linter.unusedVariables false
/- The program writes a network. -/
set_option maxRecDepth 100000
set_option linter.unusedVariables false
namespace Go.Proofs.Ytdphapjeohkbjaa.Im
open Go.RowKit

theorem list_u16_wl (b : Nat) (l : List UInt8) (A : Option Addr) (m cap : Nat) (xs : List Int) (W0 w : World) (hW : WL w b l) (hx : IntsAt W0 A xs) (hB : Below W0.heap.size W0 w) (hb : W0.heap.size ≤ b) (hall : ∀ x ∈ xs, PitotImg.fits 2 x) (hm : xs.length = m) (hlen : m < 65536) (hll : l.length ≤ 600000) :
    Calls Try.prog 30 #[.pointer (some ⟨b, 0, none⟩), .slice A m cap, .func (.func 29) #[.pointer (some ⟨b, 0, none⟩)] #[]] w fun e w' => e = .returned (.tuple #[]) ∧ WL w' b (l ++ PitotImg.manyW (PitotImg.w 2) xs) ∧ w.grownBy w' (some b) :=
  (list_u16 b _ l A m cap xs W0 w hW hx hB hb hall hm hlen (by omega)).mono fun e w' ⟨h1, h2, h3⟩ => ⟨h1, wl_of h2 (by rw [List.length_append, manyW_len2]; omega), h3⟩
theorem text_wl (b : Nat) (l : List UInt8) (s : ByteArray) (w : World) (h : WL w b l) (h1 : l.length ≤ 1000000) (h2 : s.size ≤ 1000000) (h3 : 0 < s.size) :
    Calls Try.prog 28 #[.pointer (some ⟨b, 0, none⟩), .string s] w fun e w' => e = .returned (.tuple #[]) ∧ WL w' b (l ++ s.data.toList) ∧ w.grownBy w' (some b) :=
  (Bi.text_any b _ (some l) s w h (fun l' e => by cases e; exact h1) h2).mono fun e w' ⟨g1, g2, g3⟩ => ⟨g1, wl_of (n := l.length + 1) g2 (by
    have h4 : s.data.toList.length = s.size := by simp
    show l.length + 1 ≤ (l ++ s.data.toList).length
    rw [List.length_append]; omega), g3⟩
theorem alloc_at {w : World} {o : Obj} {k : Nat} (hk : w.heap.size = k) : (w.alloc o).heap[k]? = some o := by subst hk; exact heap_alloc_new w o
set_option maxHeartbeats 8000000 in
theorem write_any (c : Cx) (b : Nat) (W0 w : World) (hc : c.Held W0) (hB : Below W0.heap.size W0 w) (hb : W0.heap.size ≤ b) (hW : WL w b []) (hf : PitotImg.cfOk c.pl) (hll : (PitotImg.magic ++ PitotImg.cfW c.pl).length ≤ 600000) :
    Calls Try.prog 11 #[.pointer (some ⟨b, 0, none⟩), c.val] w fun e w' => e = .returned (.tuple #[]) ∧ WL w' b (PitotImg.magic ++ PitotImg.cfW c.pl) ∧ w.grownBy w' (some b) := by
  obtain ⟨hf1, ⟨hf2, hf2l⟩, hf3, ⟨hf4, hf4l⟩, ⟨hf5, hf5l⟩, ⟨hf6, hf6l⟩⟩ := hf
  have hc1 : IntsAt W0 c.partsA c.parts := hc.1
  have hc2 : WnsAt W0 c.winsA c.wins := hc.2.1
  have hc3 : VxsAt W0 c.vlsA c.vls := hc.2.2.1
  have hc4 : PxsAt W0 c.portsA c.ports := hc.2.2.2
  obtain ⟨hosts, pA, pc, parts, major, wA, wk, wins, vA, vc, vls, qA, qc, ports⟩ := c
  simp only at hc1 hc2 hc3 hc4
  have hf1 : PitotImg.fits 2 hosts := hf1
  have hf2 : ∀ t ∈ parts, PitotImg.fits 2 t := hf2
  have hf2l : parts.length < 65536 := hf2l
  have hf3 : PitotImg.fits 4 major := hf3
  have hf4 : ∀ x ∈ wins, PitotImg.fits 2 x.part ∧ PitotImg.fits 4 x.beg ∧ PitotImg.fits 4 x.long := fun x hx => hf4 _ (List.mem_map_of_mem hx)
  have hf4l : wins.length < 65536 := by have : (wins.map Wn.pl).length < 65536 := hf4l; simpa using this
  have hf5 : ∀ x ∈ vls, PitotImg.vlOk x.pl := fun x hx => hf5 _ (List.mem_map_of_mem hx)
  have hf5l : vls.length < 65536 := by have : (vls.map Vx.pl).length < 65536 := hf5l; simpa using this
  have hf6 : ∀ x ∈ ports, PitotImg.prtOk x.pl := fun x hx => hf6 _ (List.mem_map_of_mem hx)
  have hf6l : ports.length < 65536 := by have : (ports.map Px.pl).length < 65536 := hf6l; simpa using this
  obtain ⟨EP, HEP⟩ : ∃ E, PitotImg.manyW (PitotImg.w 2) parts = E := ⟨_, rfl⟩
  obtain ⟨EW, HEW⟩ : ∃ E, PitotImg.manyW (fun x : Wn => PitotImg.winW x.pl) wins = E := ⟨_, rfl⟩
  obtain ⟨EV, HEV⟩ : ∃ E, PitotImg.manyW (fun x : Vx => PitotImg.vlW x.pl) vls = E := ⟨_, rfl⟩
  obtain ⟨EQ, HEQ⟩ : ∃ E, PitotImg.manyW (fun x : Px => PitotImg.prtW x.pl) ports = E := ⟨_, rfl⟩
  have hcf : PitotImg.magic ++ PitotImg.cfW (Cx.pl ⟨hosts, pA, pc, parts, major, wA, wk, wins, vA, vc, vls, qA, qc, ports⟩) = PitotImg.magic ++ PitotImg.w 2 hosts ++ EP ++ PitotImg.w 4 major ++ EW ++ EV ++ EQ := by
    rw [← HEP, ← HEW, ← HEV, ← HEQ]
    simp only [PitotImg.cfW, Cx.pl, PitotImg.manyW, List.flatMap_map, List.length_map, List.append_assoc]
  rw [hcf] at hll ⊢
  have hmg : PitotImg.magic.length = 6 := rfl
  simp only [List.length_append, PitotImg.w_length, hmg] at hll
  have HU := Lib.hid (fun (l : List UInt8) (w : World) (h : WL w b l) (hll : l.length ≤ 900000) => u16_wl b l hosts w h hf1 hll)
  have HU4 := Lib.hid (fun (l : List UInt8) (w : World) (h : WL w b l) (hll : l.length ≤ 900000) => u32_wl b l major w h hf3 hll)
  have HL1 := Lib.hid (fun (l : List UInt8) (w : World) (hW : WL w b l) (hB : Below W0.heap.size W0 w) (hll : l.length ≤ 600000) => list_u16_wl b l pA parts.length pc parts W0 w hW hc1 hB hb hf2 rfl hf2l hll)
  have HL2 := Lib.hid (fun (kb : Nat) (l : List UInt8) (w : World) (hW : WL w b l) (hB : Below W0.heap.size W0 w) (hK : w.heap[kb]? = some (.cells #[.pointer (some ⟨b, 0, none⟩)] 43)) (hne : kb ≠ b) (hll : (l ++ PitotImg.manyW (fun x : Wn => PitotImg.winW x.pl) wins).length ≤ 600000) => listlW b kb l wA wins.length wk wins W0 w hW hc2 hB hb rfl hf4l hll (fun i h l' w' hg hw hl => cW_any b kb l' wins[i] w' hw (lies_grown hK hg hne) (hf4 _ (List.getElem_mem h)) hl))
  have HL3 := Lib.hid (fun (kb : Nat) (l : List UInt8) (w : World) (hW : WL w b l) (hB : Below W0.heap.size W0 w) (hK : w.heap[kb]? = some (.cells #[.pointer (some ⟨b, 0, none⟩)] 43)) (hne : kb ≠ b) (hll : (l ++ PitotImg.manyW (fun x : Vx => PitotImg.vlW x.pl) vls).length ≤ 600000) => listlV b kb l vA vls.length vc vls W0 w hW hc3 hB hb rfl hf5l hll (fun i h l' w' hg hw hl => cV_any b kb l' vls[i] W0 w' hw (lies_grown hK hg hne) (by obtain ⟨_, _, _, _, _, h⟩ := hc3.get h; exact h) (hB.trans (grown_below hg hb hB.size)) hb (hf5 _ (List.getElem_mem h)) hl))
  have HL4 := Lib.hid (fun (kb : Nat) (l : List UInt8) (w : World) (hW : WL w b l) (hB : Below W0.heap.size W0 w) (hK : w.heap[kb]? = some (.cells #[.pointer (some ⟨b, 0, none⟩)] 43)) (hne : kb ≠ b) (hll : (l ++ PitotImg.manyW (fun x : Px => PitotImg.prtW x.pl) ports).length ≤ 600000) => listlP b kb l qA ports.length qc ports W0 w hW hc4 hB hb rfl hf6l hll (fun i h l' w' hg hw hl => cP_any b kb l' ports[i] w' hw (lies_grown hK hg hne) (hf6 _ (List.getElem_mem h)) hl))
  rw [HEP] at HL1; rw [HEW] at HL2; rw [HEV] at HL3; rw [HEQ] at HL4
  clear HEP HEW HEV HEQ hcf hc hc1 hc2 hc3 hc4 hf1 hf2 hf2l hf3 hf4 hf4l hf5 hf5l hf6 hf6l
  show Calls Try.prog 11 #[.pointer (some ⟨b, 0, none⟩), .agg #[.int .i64 hosts, .slice pA parts.length pc, .int .i64 major, .slice wA wins.length wk, .slice vA vls.length vc, .slice qA ports.length qc]] w _
  generalize wins.length = wl, parts.length = pl, vls.length = vl, ports.length = ql at HL1 HL2 HL3 HL4 ⊢
  have HT := Lib.hid (fun (w : World) (h : WL w b []) => text_wl b [] ⟨#[65, 70, 68, 88, 0, 1]⟩ w h (by simp) (by decide) (by decide))
  have HLB := Lib.hid (fun w' (hg : w.grownBy w' (some b)) => hB.trans (grown_below hg hb hB.size))
  have HK0 : Hid (((w.alloc (.cells #[.pointer (some ⟨b, 0, none⟩)] 43)).alloc (.cells #[.int .i64 hosts, .slice pA pl pc, .int .i64 major, .slice wA wl wk, .slice vA vl vc, .slice qA ql qc] 27)).heap[w.heap.size]? = some (.cells #[.pointer (some ⟨b, 0, none⟩)] 43)) := lies_alloc (heap_alloc_new w _) _
  have HC0 : Hid (((w.alloc (.cells #[.pointer (some ⟨b, 0, none⟩)] 43)).alloc (.cells #[.int .i64 hosts, .slice pA pl pc, .int .i64 major, .slice wA wl wk, .slice vA vl vc, .slice qA ql qc] 27)).heap[w.heap.size + 1]? = some (.cells #[.int .i64 hosts, .slice pA pl pc, .int .i64 major, .slice wA wl wk, .slice vA vl vc, .slice qA ql qc] 27)) := alloc_at (by simp)
  have HW0 : Hid (WL ((w.alloc (.cells #[.pointer (some ⟨b, 0, none⟩)] 43)).alloc (.cells #[.int .i64 hosts, .slice pA pl pc, .int .i64 major, .slice wA wl wk, .slice vA vl vc, .slice qA ql qc] 27)) b []) := wl_alloc (wl_alloc hW _) _
  have HG0 : Hid (w.grownBy ((w.alloc (.cells #[.pointer (some ⟨b, 0, none⟩)] 43)).alloc (.cells #[.int .i64 hosts, .slice pA pl pc, .int .i64 major, .slice wA wl wk, .slice vA vl vc, .slice qA ql qc] 27)) (some b)) := Bi.grown_trans (Bi.grown_alloc _) (Bi.grown_alloc _)
  have HNE : Hid (w.heap.size ≠ b) := by have := wr_lt hW; show _ ≠ _; omega
  have HNC : Hid (w.heap.size + 1 ≠ b) := by have := wr_lt hW; show _ ≠ _; omega
  clear hW hB
  go_enter Try.func11, Try.ntmps11
  go_upto_region 1 with (fail)
  have HK := HK0; have HC := HC0; have HW := HW0; have HG := HG0
  clear HK0 HC0 HW0 HG0
  obtain ⟨W1, hW1⟩ : ∃ W, (w.alloc (.cells #[.pointer (some ⟨b, 0, none⟩)] 43)).alloc (.cells #[.int .i64 hosts, .slice pA pl pc, .int .i64 major, .slice wA wl wk, .slice vA vl vc, .slice qA ql qc] 27) = W := ⟨_, rfl⟩
  rw [hW1] at HW HK HC HG ⊢
  clear hW1
  generalize w.heap.size + 1 = cb at HC HNC ⊢
  generalize w.heap.size = kb at HK HNE ⊢
  have k0 := lies_cell HK.out 0
  obtain ⟨c0, c1, c2, c3, c4, c5⟩ := cells_6 HC.out
  go_upto_region 2 with (first
    | (go_at_call 28; (with_reducible refine (HT.out _ HW.out).mono ?_); rintro e w2 ⟨rfl, hw2, hg2⟩
       (have HCX := Lib.hid (lies_grown HC.out hg2 HNC.out))
       (have HKX := Lib.hid (lies_grown HK.out hg2 HNE.out))
       (have HGX := Lib.hid (Bi.grown_trans HG.out hg2))
       (have HWX := Lib.hid hw2)
       (clear hw2 hg2 HC HK HG HW k0 c0 c1 c2 c3 c4 c5)
       (have HC := HCX)
       (have HK := HKX)
       (have HG := HGX)
       (have HW := HWX)
       (clear HCX HKX HGX HWX)
       (have k0 := lies_cell HK.out 0)
       (obtain ⟨c0, c1, c2, c3, c4, c5⟩ := cells_6 HC.out)))
  have HW2 : Hid (WL _ b PitotImg.magic) := HW.out
  clear HW
  have HW := HW2
  clear HW2
  obtain ⟨M, HM⟩ : ∃ M, PitotImg.magic = M := ⟨_, rfl⟩
  rw [HM] at HW hmg
  have HM := Lib.hid HM
  go_wp2_with (first
    | (go_at_call 29; (with_reducible refine (HU.out _ _ HW.out (by (try simp only [List.length_append, PitotImg.w_length]); omega)).mono ?_); rintro e w2 ⟨rfl, hw2, hg2⟩
       (have HCX := Lib.hid (lies_grown HC.out hg2 HNC.out))
       (have HKX := Lib.hid (lies_grown HK.out hg2 HNE.out))
       (have HGX := Lib.hid (Bi.grown_trans HG.out hg2))
       (have HWX := Lib.hid hw2)
       (clear hw2 hg2 HC HK HG HW k0 c0 c1 c2 c3 c4 c5)
       (have HC := HCX)
       (have HK := HKX)
       (have HG := HGX)
       (have HW := HWX)
       (clear HCX HKX HGX HWX)
       (have k0 := lies_cell HK.out 0)
       (obtain ⟨c0, c1, c2, c3, c4, c5⟩ := cells_6 HC.out))
    | (go_at_call 31; (with_reducible refine (HU4.out _ _ HW.out (by (try simp only [List.length_append, PitotImg.w_length]); omega)).mono ?_); rintro e w2 ⟨rfl, hw2, hg2⟩
       (have HCX := Lib.hid (lies_grown HC.out hg2 HNC.out))
       (have HKX := Lib.hid (lies_grown HK.out hg2 HNE.out))
       (have HGX := Lib.hid (Bi.grown_trans HG.out hg2))
       (have HWX := Lib.hid hw2)
       (clear hw2 hg2 HC HK HG HW k0 c0 c1 c2 c3 c4 c5)
       (have HC := HCX)
       (have HK := HKX)
       (have HG := HGX)
       (have HW := HWX)
       (clear HCX HKX HGX HWX)
       (have k0 := lies_cell HK.out 0)
       (obtain ⟨c0, c1, c2, c3, c4, c5⟩ := cells_6 HC.out))
    | (go_at_call 30; (with_reducible refine (HL1.out _ _ HW.out (HLB.out _ HG.out) (by (try simp only [List.length_append, PitotImg.w_length]); omega)).mono ?_); rintro e w2 ⟨rfl, hw2, hg2⟩
       (have HCX := Lib.hid (lies_grown HC.out hg2 HNC.out))
       (have HKX := Lib.hid (lies_grown HK.out hg2 HNE.out))
       (have HGX := Lib.hid (Bi.grown_trans HG.out hg2))
       (have HWX := Lib.hid hw2)
       (clear hw2 hg2 HC HK HG HW k0 c0 c1 c2 c3 c4 c5)
       (have HC := HCX)
       (have HK := HKX)
       (have HG := HGX)
       (have HW := HWX)
       (clear HCX HKX HGX HWX)
       (have k0 := lies_cell HK.out 0)
       (obtain ⟨c0, c1, c2, c3, c4, c5⟩ := cells_6 HC.out))
    | (go_at_call 32; (with_reducible refine (HL2.out kb _ _ HW.out (HLB.out _ HG.out) HK.out HNE.out (by (try simp only [List.length_append, PitotImg.w_length]); omega)).mono ?_); rintro e w2 ⟨rfl, hw2, hg2⟩
       (have HCX := Lib.hid (lies_grown HC.out hg2 HNC.out))
       (have HKX := Lib.hid (lies_grown HK.out hg2 HNE.out))
       (have HGX := Lib.hid (Bi.grown_trans HG.out hg2))
       (have HWX := Lib.hid hw2)
       (clear hw2 hg2 HC HK HG HW k0 c0 c1 c2 c3 c4 c5)
       (have HC := HCX)
       (have HK := HKX)
       (have HG := HGX)
       (have HW := HWX)
       (clear HCX HKX HGX HWX)
       (have k0 := lies_cell HK.out 0)
       (obtain ⟨c0, c1, c2, c3, c4, c5⟩ := cells_6 HC.out))
    | (go_at_call 35; (with_reducible refine (HL3.out kb _ _ HW.out (HLB.out _ HG.out) HK.out HNE.out (by (try simp only [List.length_append, PitotImg.w_length]); omega)).mono ?_); rintro e w2 ⟨rfl, hw2, hg2⟩
       (have HCX := Lib.hid (lies_grown HC.out hg2 HNC.out))
       (have HKX := Lib.hid (lies_grown HK.out hg2 HNE.out))
       (have HGX := Lib.hid (Bi.grown_trans HG.out hg2))
       (have HWX := Lib.hid hw2)
       (clear hw2 hg2 HC HK HG HW k0 c0 c1 c2 c3 c4 c5)
       (have HC := HCX)
       (have HK := HKX)
       (have HG := HGX)
       (have HW := HWX)
       (clear HCX HKX HGX HWX)
       (have k0 := lies_cell HK.out 0)
       (obtain ⟨c0, c1, c2, c3, c4, c5⟩ := cells_6 HC.out))
    | (go_at_call 38; (with_reducible refine (HL4.out kb _ _ HW.out (HLB.out _ HG.out) HK.out HNE.out (by (try simp only [List.length_append, PitotImg.w_length]); omega)).mono ?_); rintro e w2 ⟨rfl, hw2, hg2⟩
       (have HCX := Lib.hid (lies_grown HC.out hg2 HNC.out))
       (have HKX := Lib.hid (lies_grown HK.out hg2 HNE.out))
       (have HGX := Lib.hid (Bi.grown_trans HG.out hg2))
       (have HWX := Lib.hid hw2)
       (clear hw2 hg2 HC HK HG HW k0 c0 c1 c2 c3 c4 c5)
       (have HC := HCX)
       (have HK := HKX)
       (have HG := HGX)
       (have HW := HWX)
       (clear HCX HKX HGX HWX)
       (have k0 := lies_cell HK.out 0)
       (obtain ⟨c0, c1, c2, c3, c4, c5⟩ := cells_6 HC.out)))
  go_returns
  rw [HM.out]
  exact ⟨rfl, HW.out, HG.out⟩
theorem long_one (x : Px) (w : World) : Calls Try.prog 10 #[x.val] w fun e w' => e = .returned (.bool (decide (4294967295 < x.id))) ∧ Below w.heap.size w w' := by
  have H := Lib.hid ((Below.refl _ w).alloc (Nat.le_refl _) (.cells #[.int .i64 x.id, .int .i64 x.host, .int .i64 x.part, .int .i64 x.kind, .bool x.out, .int .i64 x.vl, .int .i64 x.sub, .int .i64 x.udp, .int .i64 x.size, .int .i64 x.depth, .int .i64 x.fresh] 41))
  go_enter Try.func10, Try.ntmps10
  go_wp2
  go_returns
  exact ⟨rfl, H.out⟩
set_option maxHeartbeats 2000000 in
theorem long_idx (qA : Option Addr) (m qc : Nat) (qs : List Px) (W : World) (hQ : PxsAt W qA qs) (hm : qs.length = m) (hl : m ≤ 1000000) : Calls Try.prog 27 #[.slice qA m qc, .func (.func 10) #[] #[]] W fun e w' => (∃ r : Int, e = .returned (.int .i64 r) ∧ (decide (0 ≤ r) = qs.any (fun x => decide (4294967295 < x.id)))) ∧ Below W.heap.size W w' := by
  have HF := Lib.hid (fun (x : Px) (w : World) => long_one x w)
  have HV := Lib.hid hQ
  have Hm := Lib.hid hm
  obtain ⟨R, HR⟩ : ∃ R, Hid (qs.any (fun x => decide (4294967295 < x.id)) = R) := ⟨_, rfl⟩
  rw [HR.out]
  clear hQ hm
  go_enter Try.func27, Try.ntmps27
  go_wp2
  go_loopw [8] (fun v8 wr => ∃ k : Nat, k ≤ m ∧ v8 = .int .i64 k ∧ Hid ((qs.drop k).any (fun x => decide (4294967295 < x.id)) = R) ∧ Below W.heap.size W wr) (fun v8 _ => m - (intOf v8).toNat)
  case atStart => exact ⟨0, Nat.zero_le _, rfl, HR, Below.refl _ _⟩
  case round =>
    obtain ⟨k, hk, rfl, ht, hB⟩ := hrel
    have HB := Lib.hid hB; clear hB
    by_cases hkm : k < m
    · have hkl : k < qs.length := by rw [Hm.out]; exact hkm
      have e1 : decide ((k : Int) < (m : Int)) = true := decide_eq_true (by omega)
      have e1' : decide (k < m) = true := decide_eq_true hkm
      obtain ⟨b, off, rfl, hb, hat⟩ := HV.out.get hkl
      have hat := hat.below HB.out hb
      have hs : (qs.drop k).any (fun x => decide (4294967295 < x.id)) = ((fun x : Px => decide (4294967295 < x.id)) qs[k] || (qs.drop (k + 1)).any (fun x => decide (4294967295 < x.id))) := by rw [List.drop_eq_getElem_cons hkl, List.any_cons]
      generalize qs[k] = x at hat hs
      have HC := HF.out x wr
      obtain ⟨a0, a1, a2, a3, a4, a5, a6, a7, a8, a9, a10⟩ := hat
      simp only at hs
      cases hx : decide (4294967295 < x.id)
      · rw [hx] at HC hs
        have HC := Lib.hid HC
        have HT2 : Hid ((qs.drop (k + 1)).any (fun x => decide (4294967295 < x.id)) = R) := by show _ = _; rw [← ht.out, hs]; rfl
        clear hs hx ht
        go_wp2_with (go_at_call 10; (with_reducible refine (HC.out).mono ?_); rintro e w2 ⟨rfl, hb2⟩)
        have HB2 := Lib.hid (HB.out.trans (hb2.mono HB.out.size))
        clear hb2
        go_roundw
        case rel => exact ⟨k + 1, by omega, by go_num, HT2, HB2.out⟩
        case measure => simp [intOf]; omega
      · rw [hx] at HC hs
        have HC := Lib.hid HC
        have HT2 : Hid (R = true) := by show _ = _; rw [← ht.out, hs]; rfl
        clear hs hx ht
        go_wp2_with (go_at_call 10; (with_reducible refine (HC.out).mono ?_); rintro e w2 ⟨rfl, hb2⟩)
        go_returns
        rw [HT2.out]
        exact ⟨⟨_, rfl, decide_eq_true (by omega)⟩, HB.out.trans (hb2.mono HB.out.size)⟩
    · have e1 : decide ((k : Int) < (m : Int)) = false := decide_eq_false (by omega)
      have e1' : decide (k < m) = false := decide_eq_false hkm
      have HT2 : Hid (R = false) := by show _ = _; rw [← ht.out, List.drop_of_length_le (by rw [Hm.out]; omega)]; rfl
      clear ht
      go_wp2
      go_returns
      rw [HT2.out]
      exact ⟨⟨_, rfl, rfl⟩, HB.out⟩
theorem long_any (qA : Option Addr) (m qc : Nat) (qs : List Px) (W : World) (hQ : PxsAt W qA qs) (hm : qs.length = m) (hl : m ≤ 1000000) : Calls Try.prog 9 #[.slice qA m qc, .func (.func 10) #[] #[]] W fun e w' => e = .returned (.bool (qs.any (fun x => decide (4294967295 < x.id)))) ∧ Below W.heap.size W w' := by
  have H := Lib.hid (long_idx qA m qc qs W hQ hm hl)
  clear hQ hm
  go_enter Try.func9, Try.ntmps9
  go_wp2_with (go_at_call 27; (with_reducible refine (H.out).mono ?_); rintro e w2 ⟨⟨r, rfl, hr⟩, hb2⟩)
  go_returns
  exact ⟨by rw [← hr]; rfl, hb2⟩
end Go.Proofs.Ytdphapjeohkbjaa.Im
/- The document's VL and Port. -/
set_option maxRecDepth 100000
namespace Go.Proofs.Ytdphapjeohkbjaa
open Go.RowKit

abbrev Vx.obj (x : Vx) : Obj := .cells #[.int .i64 x.id, .int .i64 x.host, .int .i64 x.bag, .int .i64 x.smax, .bool x.high, .int .i64 x.subs, .int .i64 x.skew, .slice x.toA x.to.length x.toc] 34
abbrev Px.obj (x : Px) : Obj := .cells #[.int .i64 x.id, .int .i64 x.host, .int .i64 x.part, .int .i64 x.kind, .bool x.out, .int .i64 x.vl, .int .i64 x.sub, .int .i64 x.udp, .int .i64 x.size, .int .i64 x.depth, .int .i64 x.fresh] 41
theorem zero_Vx (w : World) : (zeroValue 34).run Try.prog w = .ok (.agg #[.int .i64 0, .int .i64 0, .int .i64 0, .int .i64 0, .bool false, .int .i64 0, .int .i64 0, .slice none 0 0]) w := by kernel_rfl
theorem zero_Px (w : World) : (zeroValue 41).run Try.prog w = .ok (.agg #[.int .i64 0, .int .i64 0, .int .i64 0, .int .i64 0, .bool false, .int .i64 0, .int .i64 0, .int .i64 0, .int .i64 0, .int .i64 0, .int .i64 0]) w := by kernel_rfl
abbrev vz : Vx := ⟨0, 0, 0, 0, false, 0, 0, none, 0, []⟩
def findVx (l : List Vx) (id : Int) : Option Vx := l.find? fun v => decide (v.id = id)
theorem findVx_pl (l : List Vx) (id : Int) : (l.map Vx.pl).find? (fun v => decide (v.id = id)) = (findVx l id).map Vx.pl := by
  rw [findVx, List.find?_map]; rfl
set_option maxHeartbeats 2000000 in
theorem vl_any (c : Cx) (id : Int) (w : World) (hc : c.Held w) (hl : c.vls.length ≤ maxLen) : Calls Try.prog 67 #[c.val, .int .i64 id] w fun e w' => e = .returned (.tuple #[((findVx c.vls id).getD vz).val, .bool (findVx c.vls id).isSome]) ∧ Below w.heap.size w w' := by
  unfold maxLen at hl
  have HV : Hid (VxsAt w c.vlsA c.vls) := hc.2.2.1
  obtain ⟨R, HR⟩ : ∃ R, Hid (findVx c.vls id = R) := ⟨_, rfl⟩
  rw [HR.out]
  clear hc
  obtain ⟨hosts, pA, pc, parts, major, wA, wc, wins, vA, vc, vls, qA, qc, ports⟩ := c
  simp only at HV HR hl ⊢
  obtain ⟨m, Hm⟩ : ∃ m, Hid (vls.length = m) := ⟨_, rfl⟩
  show Calls Try.prog 67 #[.agg #[.int .i64 hosts, .slice pA parts.length pc, .int .i64 major, .slice wA wins.length wc, .slice vA vls.length vc, .slice qA ports.length qc], .int .i64 id] w _
  rw [Hm.out] at hl ⊢
  have k1 : Below w.heap.size w (w.alloc (.cells #[.int .i64 hosts, .slice pA parts.length pc, .int .i64 major, .slice wA wins.length wc, .slice vA m vc, .slice qA ports.length qc] 27)) := (Below.refl _ w).alloc (Nat.le_refl _) _
  have kb : Hid (∀ o, Below w.heap.size w ((w.alloc (.cells #[.int .i64 hosts, .slice pA parts.length pc, .int .i64 major, .slice wA wins.length wc, .slice vA m vc, .slice qA ports.length qc] 27)).alloc o)) := fun o => k1.alloc k1.size o
  clear k1
  go_enter Try.func67, Try.ntmps67
  go_wp2
  go_loop [6] (fun v6 => ∃ k : Nat, k ≤ m ∧ v6 = .int .i64 k ∧ Hid (findVx (vls.drop k) id = R)) (fun v6 => m - (intOf v6).toNat)
  case atStart => exact ⟨0, Nat.zero_le _, rfl, HR.out⟩
  case round =>
    obtain ⟨k, hk, rfl, ht⟩ := hrel
    by_cases hkm : k < m
    · have hkl : k < vls.length := by rw [Hm.out]; exact hkm
      have e1 : decide ((k : Int) < (m : Int)) = true := decide_eq_true (by omega)
      have e1' : decide (k < m) = true := decide_eq_true hkm
      obtain ⟨b, off, rfl, hb, hat, _⟩ := HV.out.get hkl
      have hd : findVx (vls.drop k) id = if vls[k].id = id then some vls[k] else findVx (vls.drop (k + 1)) id := by
        rw [List.drop_eq_getElem_cons hkl, findVx, List.find?_cons]
        by_cases e : vls[k].id = id
        · rw [decide_eq_true e, if_pos e]
        · rw [decide_eq_false e, if_neg e]; rfl
      generalize vls[k] = x at hat hd
      have hat := hat.below (kb.out (.cells #[.int .i64 0, .int .i64 0, .int .i64 0, .int .i64 0, .bool false, .int .i64 0, .int .i64 0, .slice none 0 0] 34)) hb
      obtain ⟨a0, a1, a2, a3, a4, a5, a6, a7⟩ := hat
      by_cases e : x.id = id
      · have e2 : (x.id == id) = true := by simpa using e
        have HT : Hid (R = some x) := by show _ = _; rw [← ht.out, hd, if_pos e]
        clear hd e
        go_wp2
        (try simp only [Exit.inBlock, Exit.then])
        refine bodyPost_ret (v := .tuple #[x.val, .bool true]) (by simp [results, Try.results67, go_sem]; try rfl) rfl ?_
        rw [HT.out]
        exact ⟨rfl, kb.out _⟩
      · have e2 : (x.id == id) = false := by simpa using e
        have HT : Hid (findVx (vls.drop (k + 1)) id = R) := by show _ = _; rw [← ht.out, hd, if_neg e]
        clear hd e
        go_wp2
        go_round
        case rel => exact ⟨k + 1, by omega, by go_num, HT⟩
        case measure => simp [intOf]; omega
    · have e1 : decide ((k : Int) < (m : Int)) = false := decide_eq_false (by omega)
      have e1' : decide (k < m) = false := decide_eq_false hkm
      have HT : Hid (R = none) := by show _ = _; rw [← ht.out, List.drop_of_length_le (by rw [Hm.out]; omega)]; rfl
      have hz := zero_Vx
      go_wp2
      (try simp only [Exit.inBlock, Exit.then])
      refine bodyPost_ret (v := .tuple #[vz.val, .bool false]) (by simp [results, Try.results67, go_sem]; try rfl) rfl ?_
      rw [HT.out]
      exact ⟨rfl, kb.out _⟩
abbrev pz : Px := ⟨0, 0, 0, 0, false, 0, 0, 0, 0, 0, 0⟩
def findPx (l : List Px) (id : Int) : Option Px := l.find? fun v => decide (v.id = id)
theorem findPx_pl (l : List Px) (id : Int) : (l.map Px.pl).find? (fun v => decide (v.id = id)) = (findPx l id).map Px.pl := by
  rw [findPx, List.find?_map]; rfl
end Go.Proofs.Ytdphapjeohkbjaa
/- The document's win: the condition (trial). -/
set_option maxRecDepth 100000
namespace Go.Proofs.Ytdphapjeohkbjaa
open Go.RowKit

theorem isPart_host {parts : List Int} {n : Int} : isPart parts n = (PitotConf.hostOf parts n).isSome := by
  unfold isPart PitotConf.hostOf
  by_cases h : 0 ≤ n
  · rw [if_pos h, decide_eq_true h, Bool.true_and]
    by_cases h2 : n < (parts.length : Int)
    · rw [decide_eq_true h2, List.getElem?_eq_getElem (by omega)]; rfl
    · rw [decide_eq_false h2, List.getElem?_eq_none (by omega)]; rfl
  · rw [if_neg h, decide_eq_false h]; rfl
set_option maxHeartbeats 2000000 in
theorem win_bad (c : Cx) (i : Nat) (x : Wn) (w : World) (hc : c.Held w) (hi : i < c.wins.length) (hx : c.wins[i] = x) (hmaj : c.major ≤ 1073741824) (hpl : c.parts.length ≤ maxLen)
    (h : 256 ≤ i ∨ isPart c.parts x.part = false ∨ x.beg < 0 ∨ x.long < 1 ∨ c.major < x.beg ∨ c.major - x.beg < x.long) : Calls Try.prog 46 #[c.val, .int .i64 i] w fun e w' => e = .returned (.int .i64 1) ∧ Below w.heap.size w w' := by
  obtain ⟨hosts, pA, pc, parts, major, wA, wc, wins, vA, vc, vls, qA, qc, ports⟩ := c
  obtain ⟨n, Hn⟩ : ∃ n, Hid (wins.length = n) := ⟨_, rfl⟩
  simp only at hc hi hx hmaj hpl ⊢
  have HW : Hid (WnsAt w wA wins) := hc.2.1
  have HPT : Hid (IntsAt w pA parts) := hc.1
  clear hc
  show Calls Try.prog 46 #[.agg #[.int .i64 hosts, .slice pA parts.length pc, .int .i64 major, .slice wA wins.length wc, .slice vA vls.length vc, .slice qA ports.length qc], .int .i64 i] w _
  rw [Hn.out] at hi ⊢
  have hil : i < wins.length := by rw [Hn.out]; exact hi
  obtain ⟨b, off, rfl, hb, hat⟩ := HW.out.get hil
  rw [hx] at hat
  have HXI := Lib.hid hx; clear hx
  have k1 : Below w.heap.size w (w.alloc (.cells #[.int .i64 hosts, .slice pA parts.length pc, .int .i64 major, .slice (some ⟨b, off, none⟩) n wc, .slice vA vls.length vc, .slice qA ports.length qc] 27)) := (Below.refl _ w).alloc (Nat.le_refl _) _
  have hat := hat.below k1 hb
  obtain ⟨a0, a1, a2⟩ := hat
  have hiI : (i : Int) < (n : Int) := by omega
  have HPA := Lib.hid (fun w => part_any ⟨hosts, pA, pc, parts, major, some ⟨b, off, none⟩, wc, wins, vA, vc, vls, qA, qc, ports⟩ x.part w)
  obtain ⟨P, HPP⟩ : ∃ P, Hid (isPart parts x.part = P) := ⟨_, rfl⟩
  have hP : ∀ w, Calls Try.prog 66 #[.agg #[.int .i64 hosts, .slice pA parts.length pc, .int .i64 major, .slice (some ⟨b, off, none⟩) n wc, .slice vA vls.length vc, .slice qA ports.length qc], .int .i64 x.part] w fun e w' => e = .returned (.bool P) ∧ Below w.heap.size w w' := fun w => by
    have := HPA.out w
    rw [show isPart parts x.part = P from HPP.out] at this
    rw [← Hn.out]
    exact this
  have HP := Lib.hid hP
  clear hP HPA
  rw [show isPart parts x.part = P from HPP.out] at h
  have h := Lib.hid h
  go_enter Try.func46, Try.ntmps46
  go_upto_region 2 with (fail)
  have CB : Hid (((w.alloc (.cells #[.int .i64 hosts, .slice pA parts.length pc, .int .i64 major, .slice (some ⟨b, off, none⟩) n wc, .slice vA vls.length vc, .slice qA ports.length qc] 27)).alloc (.cells #[.int .i64 x.part, .int .i64 x.beg, .int .i64 x.long] 54)).heap[w.heap.size]? = some (.cells #[.int .i64 hosts, .slice pA parts.length pc, .int .i64 major, .slice (some ⟨b, off, none⟩) n wc, .slice vA vls.length vc, .slice qA ports.length qc] 27)) := lies_alloc (heap_alloc_new w _) _
  have XB : Hid (((w.alloc (.cells #[.int .i64 hosts, .slice pA parts.length pc, .int .i64 major, .slice (some ⟨b, off, none⟩) n wc, .slice vA vls.length vc, .slice qA ports.length qc] 27)).alloc (.cells #[.int .i64 x.part, .int .i64 x.beg, .int .i64 x.long] 54)).heap[w.heap.size + 1]? = some (.cells #[.int .i64 x.part, .int .i64 x.beg, .int .i64 x.long] 54)) := by
    have := heap_alloc_new (w.alloc (.cells #[.int .i64 hosts, .slice pA parts.length pc, .int .i64 major, .slice (some ⟨b, off, none⟩) n wc, .slice vA vls.length vc, .slice qA ports.length qc] 27)) (.cells #[.int .i64 x.part, .int .i64 x.beg, .int .i64 x.long] 54)
    rw [World.size_alloc] at this
    exact this
  have BB : Hid (Below w.heap.size w ((w.alloc (.cells #[.int .i64 hosts, .slice pA parts.length pc, .int .i64 major, .slice (some ⟨b, off, none⟩) n wc, .slice vA vls.length vc, .slice qA ports.length qc] 27)).alloc (.cells #[.int .i64 x.part, .int .i64 x.beg, .int .i64 x.long] 54))) := k1.alloc k1.size _
  clear a0 a1 a2 k1
  generalize (w.alloc (.cells #[.int .i64 hosts, .slice pA parts.length pc, .int .i64 major, .slice (some ⟨b, off, none⟩) n wc, .slice vA vls.length vc, .slice qA ports.length qc] 27)).alloc (.cells #[.int .i64 x.part, .int .i64 x.beg, .int .i64 x.long] 54) = W1 at CB XB BB ⊢
  obtain ⟨c0, c1, c2, c3, c4, c5⟩ := cells_6 CB.out
  obtain ⟨x0, x1, x2⟩ := cells_3 XB.out
  by_cases g1 : 256 ≤ i
  · have f1 : decide (256 ≤ (i : Int)) = true := decide_eq_true (by omega)
    have f1' : decide (256 ≤ i) = true := decide_eq_true g1
    go_wp2
    go_returns
    exact ⟨rfl, BB.out⟩
  · have f1 : decide (256 ≤ (i : Int)) = false := decide_eq_false (by omega)
    have f1' : decide (256 ≤ i) = false := decide_eq_false g1
    cases P
    · go_wp2_with (first
        | (go_at_call 66; (with_reducible refine (HP.out _).mono ?_); rintro e w2 ⟨rfl, hb2⟩
           (have C2 := Lib.hid (lies_below CB.out hb2 (lies_lt CB.out)))
           (have X2 := Lib.hid (lies_below XB.out hb2 (lies_lt XB.out)))
           (have B2 := Lib.hid (BB.out.trans (hb2.mono BB.out.size)))
           (clear hb2 c0 c1 c2 c3 c4 c5 x0 x1 x2)
           (obtain ⟨c0, c1, c2, c3, c4, c5⟩ := cells_6 C2.out)
           (obtain ⟨x0, x1, x2⟩ := cells_3 X2.out)))
      go_returns
      exact ⟨rfl, B2.out⟩
    · by_cases g2 : x.beg < 0
      · have f2 : decide (x.beg < 0) = true := decide_eq_true g2
        go_wp2_with (first
          | (go_at_call 66; (with_reducible refine (HP.out _).mono ?_); rintro e w2 ⟨rfl, hb2⟩
             (have C2 := Lib.hid (lies_below CB.out hb2 (lies_lt CB.out)))
             (have X2 := Lib.hid (lies_below XB.out hb2 (lies_lt XB.out)))
             (have B2 := Lib.hid (BB.out.trans (hb2.mono BB.out.size)))
             (clear hb2 c0 c1 c2 c3 c4 c5 x0 x1 x2)
             (obtain ⟨c0, c1, c2, c3, c4, c5⟩ := cells_6 C2.out)
             (obtain ⟨x0, x1, x2⟩ := cells_3 X2.out)))
        go_returns
        exact ⟨rfl, B2.out⟩
      · have f2 : decide (x.beg < 0) = false := decide_eq_false g2
        by_cases g3 : x.long < 1
        · have f3 : decide (x.long < 1) = true := decide_eq_true g3
          go_wp2_with (first
            | (go_at_call 66; (with_reducible refine (HP.out _).mono ?_); rintro e w2 ⟨rfl, hb2⟩
               (have C2 := Lib.hid (lies_below CB.out hb2 (lies_lt CB.out)))
               (have X2 := Lib.hid (lies_below XB.out hb2 (lies_lt XB.out)))
               (have B2 := Lib.hid (BB.out.trans (hb2.mono BB.out.size)))
               (clear hb2 c0 c1 c2 c3 c4 c5 x0 x1 x2)
               (obtain ⟨c0, c1, c2, c3, c4, c5⟩ := cells_6 C2.out)
               (obtain ⟨x0, x1, x2⟩ := cells_3 X2.out)))
          go_returns
          exact ⟨rfl, B2.out⟩
        · have f3 : decide (x.long < 1) = false := decide_eq_false g3
          by_cases g4 : major < x.beg
          · have f4 : decide (major < x.beg) = true := decide_eq_true g4
            go_wp2_with (first
              | (go_at_call 66; (with_reducible refine (HP.out _).mono ?_); rintro e w2 ⟨rfl, hb2⟩
                 (have C2 := Lib.hid (lies_below CB.out hb2 (lies_lt CB.out)))
                 (have X2 := Lib.hid (lies_below XB.out hb2 (lies_lt XB.out)))
                 (have B2 := Lib.hid (BB.out.trans (hb2.mono BB.out.size)))
                 (clear hb2 c0 c1 c2 c3 c4 c5 x0 x1 x2)
                 (obtain ⟨c0, c1, c2, c3, c4, c5⟩ := cells_6 C2.out)
                 (obtain ⟨x0, x1, x2⟩ := cells_3 X2.out)))
            go_returns
            exact ⟨rfl, B2.out⟩
          · have f4 : decide (major < x.beg) = false := decide_eq_false g4
            have f5 : decide (major - x.beg < x.long) = true := decide_eq_true (by have := h.out; simp only [Bool.true_eq_false, false_or] at this; omega)
            go_wp2_with (first
              | (go_at_call 66; (with_reducible refine (HP.out _).mono ?_); rintro e w2 ⟨rfl, hb2⟩
                 (have C2 := Lib.hid (lies_below CB.out hb2 (lies_lt CB.out)))
                 (have X2 := Lib.hid (lies_below XB.out hb2 (lies_lt XB.out)))
                 (have B2 := Lib.hid (BB.out.trans (hb2.mono BB.out.size)))
                 (clear hb2 c0 c1 c2 c3 c4 c5 x0 x1 x2)
                 (obtain ⟨c0, c1, c2, c3, c4, c5⟩ := cells_6 C2.out)
                 (obtain ⟨x0, x1, x2⟩ := cells_3 X2.out)))
            go_returns
            exact ⟨rfl, B2.out⟩
set_option maxHeartbeats 4000000 in
theorem win_good (c : Cx) (i : Nat) (x : Wn) (w : World) (hc : c.Held w) (hi : i < c.wins.length) (hx : c.wins[i] = x) (hmaj : c.major ≤ 1073741824) (hpl : c.parts.length ≤ maxLen) (hwl : c.wins.length ≤ maxLen)
    (h1 : i < 256) (h2 : isPart c.parts x.part = true) (h3 : 0 ≤ x.beg) (h4 : 1 ≤ x.long) (h5 : x.beg + x.long ≤ c.major)
    (hprev : ∀ k (hk : k < i), isPart c.parts (c.wins[k]'(by omega)).part = true ∧ 0 ≤ (c.wins[k]'(by omega)).beg ∧ 1 ≤ (c.wins[k]'(by omega)).long ∧ (c.wins[k]'(by omega)).beg + (c.wins[k]'(by omega)).long ≤ 1073741824) :
    Calls Try.prog 46 #[c.val, .int .i64 i] w fun e w' => e = .returned (.int .i64 (if x.beg < PitotConf.endOf c.parts (PitotConf.hostOf c.parts x.part) ((c.wins.take i).map Wn.pl) 0 then 25 else 0)) ∧ Below w.heap.size w w' := by
  obtain ⟨E, HE⟩ : ∃ E, Hid (PitotConf.endOf c.parts (PitotConf.hostOf c.parts x.part) ((c.wins.take i).map Wn.pl) 0 = E) := ⟨_, rfl⟩
  rw [HE.out]
  obtain ⟨px, hpx⟩ : ∃ px : Nat, x.part = (px : Int) := ⟨x.part.toNat, by simp [isPart] at h2; omega⟩
  have hpx2 : px < c.parts.length := by rw [hpx] at h2; simp [isPart] at h2; exact h2
  have HPR := Lib.hid hprev; clear hprev
  have HPX := Lib.hid hpx; clear hpx
  obtain ⟨hosts, pA, pc, parts, major, wA, wc, wins, vA, vc, vls, qA, qc, ports⟩ := c
  obtain ⟨n, Hn⟩ : ∃ n, Hid (wins.length = n) := ⟨_, rfl⟩
  simp only at hc hi hx hmaj hpl hwl h2 h5 hpx2 HE HPR ⊢
  have HW : Hid (WnsAt w wA wins) := hc.2.1
  have HPT : Hid (IntsAt w pA parts) := hc.1
  clear hc
  show Calls Try.prog 46 #[.agg #[.int .i64 hosts, .slice pA parts.length pc, .int .i64 major, .slice wA wins.length wc, .slice vA vls.length vc, .slice qA ports.length qc], .int .i64 i] w _
  rw [Hn.out] at hi hwl ⊢
  have hil : i < wins.length := by rw [Hn.out]; exact hi
  obtain ⟨b, off, rfl, hb, hat⟩ := HW.out.get hil
  rw [hx] at hat
  have HXI := Lib.hid hx; clear hx
  have k1 : Below w.heap.size w (w.alloc (.cells #[.int .i64 hosts, .slice pA parts.length pc, .int .i64 major, .slice (some ⟨b, off, none⟩) n wc, .slice vA vls.length vc, .slice qA ports.length qc] 27)) := (Below.refl _ w).alloc (Nat.le_refl _) _
  have hat := hat.below k1 hb
  obtain ⟨a0, a1, a2⟩ := hat
  have hiI : (i : Int) < (n : Int) := by omega
  obtain ⟨bp, op, rfl, hbp, hp2⟩ := HPT.out.get hpx2
  obtain ⟨m, Hm⟩ : ∃ m, Hid (parts.length = m) := ⟨_, rfl⟩
  have HPA := Lib.hid (fun w => part_any ⟨hosts, some ⟨bp, op, none⟩, pc, parts, major, some ⟨b, off, none⟩, wc, wins, vA, vc, vls, qA, qc, ports⟩ x.part w)
  have hP : ∀ w, Calls Try.prog 66 #[.agg #[.int .i64 hosts, .slice (some ⟨bp, op, none⟩) m pc, .int .i64 major, .slice (some ⟨b, off, none⟩) n wc, .slice vA vls.length vc, .slice qA ports.length qc], .int .i64 x.part] w fun e w' => e = .returned (.bool true) ∧ Below w.heap.size w w' := fun w => by
    have := HPA.out w
    rw [show isPart parts x.part = true from h2] at this
    rw [← Hn.out, ← Hm.out]
    exact this
  have HP := Lib.hid hP
  clear hP HPA
  unfold maxLen at hpl hwl
  rw [Hm.out] at hpl
  have k1 : Below w.heap.size w (w.alloc (.cells #[.int .i64 hosts, .slice (some ⟨bp, op, none⟩) m pc, .int .i64 major, .slice (some ⟨b, off, none⟩) n wc, .slice vA vls.length vc, .slice qA ports.length qc] 27)) := (Below.refl _ w).alloc (Nat.le_refl _) _
  show Calls Try.prog 46 #[.agg #[.int .i64 hosts, .slice (some ⟨bp, op, none⟩) parts.length pc, .int .i64 major, .slice (some ⟨b, off, none⟩) n wc, .slice vA vls.length vc, .slice qA ports.length qc], .int .i64 i] w _
  rw [Hm.out]
  rw [Hm.out] at a0 a1 a2
  have H2 := Lib.hid h2; clear h2
  go_enter Try.func46, Try.ntmps46
  go_upto_region 2 with (fail)
  have CB : Hid (((w.alloc (.cells #[.int .i64 hosts, .slice (some ⟨bp, op, none⟩) m pc, .int .i64 major, .slice (some ⟨b, off, none⟩) n wc, .slice vA vls.length vc, .slice qA ports.length qc] 27)).alloc (.cells #[.int .i64 x.part, .int .i64 x.beg, .int .i64 x.long] 54)).heap[w.heap.size]? = some (.cells #[.int .i64 hosts, .slice (some ⟨bp, op, none⟩) m pc, .int .i64 major, .slice (some ⟨b, off, none⟩) n wc, .slice vA vls.length vc, .slice qA ports.length qc] 27)) := lies_alloc (heap_alloc_new w _) _
  have XB : Hid (((w.alloc (.cells #[.int .i64 hosts, .slice (some ⟨bp, op, none⟩) m pc, .int .i64 major, .slice (some ⟨b, off, none⟩) n wc, .slice vA vls.length vc, .slice qA ports.length qc] 27)).alloc (.cells #[.int .i64 x.part, .int .i64 x.beg, .int .i64 x.long] 54)).heap[w.heap.size + 1]? = some (.cells #[.int .i64 x.part, .int .i64 x.beg, .int .i64 x.long] 54)) := by
    have := heap_alloc_new (w.alloc (.cells #[.int .i64 hosts, .slice (some ⟨bp, op, none⟩) m pc, .int .i64 major, .slice (some ⟨b, off, none⟩) n wc, .slice vA vls.length vc, .slice qA ports.length qc] 27)) (.cells #[.int .i64 x.part, .int .i64 x.beg, .int .i64 x.long] 54)
    rw [World.size_alloc] at this
    exact this
  have BB : Hid (Below w.heap.size w ((w.alloc (.cells #[.int .i64 hosts, .slice (some ⟨bp, op, none⟩) m pc, .int .i64 major, .slice (some ⟨b, off, none⟩) n wc, .slice vA vls.length vc, .slice qA ports.length qc] 27)).alloc (.cells #[.int .i64 x.part, .int .i64 x.beg, .int .i64 x.long] 54))) := k1.alloc k1.size _
  clear a0 a1 a2 k1
  generalize (w.alloc (.cells #[.int .i64 hosts, .slice (some ⟨bp, op, none⟩) m pc, .int .i64 major, .slice (some ⟨b, off, none⟩) n wc, .slice vA vls.length vc, .slice qA ports.length qc] 27)).alloc (.cells #[.int .i64 x.part, .int .i64 x.beg, .int .i64 x.long] 54) = W1 at CB XB BB ⊢
  obtain ⟨c0, c1, c2, c3, c4, c5⟩ := cells_6 CB.out
  obtain ⟨x0, x1, x2⟩ := cells_3 XB.out
  have f1 : decide (256 ≤ (i : Int)) = false := decide_eq_false (by omega)
  have f1' : decide (256 ≤ i) = false := decide_eq_false (by omega)
  have f2 : decide (x.beg < 0) = false := decide_eq_false (by omega)
  have f3 : decide (x.long < 1) = false := decide_eq_false (by omega)
  have f4 : decide (major < x.beg) = false := decide_eq_false (by omega)
  have f5 : decide (major - x.beg < x.long) = false := decide_eq_false (by omega)
  have g4 : x.beg ≤ major := by omega
  go_upto_region 6 with (first
    | (go_at_call 66; (with_reducible refine (HP.out _).mono ?_); rintro e w2 ⟨rfl, hb2⟩
       (have C2 := Lib.hid (lies_below CB.out hb2 (lies_lt CB.out)))
       (have X2 := Lib.hid (lies_below XB.out hb2 (lies_lt XB.out)))
       (have B2 := Lib.hid (BB.out.trans (hb2.mono BB.out.size)))
       (clear hb2 c0 c1 c2 c3 c4 c5 x0 x1 x2)
       (obtain ⟨c0, c1, c2, c3, c4, c5⟩ := cells_6 C2.out)
       (obtain ⟨x0, x1, x2⟩ := cells_3 X2.out)))
  clear c0 c1 c2 c3 c4 c5 x0 x1 x2 f1 f1' f2 f3 f4 f5
  go_wp2
  go_loopw [6, 7] (fun v6 v7 wr => ∃ (k : Nat) (e : Int), k ≤ i ∧ v7 = .int .i64 k ∧ v6 = .int .i64 e ∧ 0 ≤ e ∧ e ≤ 1073741824 ∧ Hid (PitotConf.endOf parts (PitotConf.hostOf parts x.part) ((wins.take k).map Wn.pl) 0 = e) ∧ wr.heap[w.heap.size]? = some (.cells #[.int .i64 hosts, .slice (some ⟨bp, op, none⟩) m pc, .int .i64 major, .slice (some ⟨b, off, none⟩) n wc, .slice vA vls.length vc, .slice qA ports.length qc] 27) ∧ wr.heap[w.heap.size + 1]? = some (.cells #[.int .i64 x.part, .int .i64 x.beg, .int .i64 x.long] 54) ∧ Below w.heap.size w wr) (fun _ v7 _ => i - (intOf v7).toNat)
  case atStart => exact ⟨0, 0, Nat.zero_le _, rfl, rfl, by omega, by omega, rfl, C2.out, X2.out, B2.out⟩
  case round =>
    obtain ⟨k, e, hk, rfl, rfl, he0, he1, ht, hC, hX, hB⟩ := hrel
    have HC := Lib.hid hC; have HX := Lib.hid hX; have HBB := Lib.hid hB
    clear hC hX hB
    by_cases hki : k < i
    · have e1 : decide ((k : Int) < (i : Int)) = true := decide_eq_true (by omega)
      have e1' : decide (k < i) = true := decide_eq_true hki
      have hkl : k < wins.length := by omega
      have hkn : k < n := by rw [← Hn.out]; exact hkl
      have hknI : (k : Int) < (n : Int) := by omega
      have hk0 : 0 ≤ (k : Int) := by omega
      obtain ⟨b2, off2, e2, hb2, hat2⟩ := HW.out.get hkl
      injection e2 with e2; injection e2 with e2 e3 _; subst e2; subst e3
      have hpr := HPR.out k hki
      have hst : (wins.take (k + 1)).map Wn.pl = (wins.take k).map Wn.pl ++ [wins[k].pl] := by rw [List.take_succ_eq_append_getElem hkl, List.map_append]; rfl
      have hen := PitotConf.endOf_snoc parts (PitotConf.hostOf parts x.part) ((wins.take k).map Wn.pl) wins[k].pl 0
      rw [← hst, ht.out] at hen
      clear hst
      generalize wins[k] = y at hat2 hpr hen
      obtain ⟨q1, q2, q3, q4⟩ := hpr
      obtain ⟨pk, hpk⟩ : ∃ pk : Nat, y.part = (pk : Int) := ⟨y.part.toNat, by simp [isPart] at q1; omega⟩
      have hpk2 : pk < parts.length := by rw [hpk] at q1; simp [isPart] at q1; exact q1
      obtain ⟨bq, oq, e4, _, hp3⟩ := HPT.out.get hpk2
      injection e4 with e4; injection e4 with e4 e5 _; subst e4; subst e5
      have hhk : PitotConf.hostOf parts y.part = some parts[pk] := by rw [hpk]; unfold PitotConf.hostOf; rw [if_pos (by omega)]; simp [hpk2]
      have hhx : PitotConf.hostOf parts x.part = some parts[px] := by rw [HPX.out]; unfold PitotConf.hostOf; rw [if_pos (by omega)]; simp [hpx2]
      rw [hhk, hhx] at hen
      rw [← hhx] at hen
      have hpkm : pk < m := by rw [← Hm.out]; exact hpk2
      have hpxm : px < m := by rw [← Hm.out]; exact hpx2
      have hpkI : (pk : Int) < (m : Int) := by omega
      have hpxI : (px : Int) < (m : Int) := by omega
      have hpk0 : 0 ≤ (pk : Int) := by omega
      have hpx0 : 0 ≤ (px : Int) := by omega
      obtain ⟨U, HU⟩ : ∃ U, Hid (parts[pk] = U) := ⟨parts[pk], Lib.hid rfl⟩
      obtain ⟨V2, HV2⟩ : ∃ U, Hid (parts[px] = U) := ⟨parts[px], Lib.hid rfl⟩
      rw [HU.out] at hen
      rw [HU.out] at hp3
      rw [HV2.out] at hp2
      have HEN := Lib.hid hen; have HHX := Lib.hid hhx
      clear hen hhk hhx q1
      have HY : Hid (WnAt wr b (off + k * 3) y) := hat2.below HBB.out hb2
      have HLB : Hid (b < wr.heap.size) := Nat.lt_of_lt_of_le hb2 HBB.out.size
      have HLP : Hid (bp < wr.heap.size) := Nat.lt_of_lt_of_le hbp HBB.out.size
      have HP1 : Hid (wr.cell? ⟨bp, op + pk, none⟩ = some (.int .i64 U)) := (HBB.out.cell (p := ⟨bp, op + pk, none⟩) hbp).trans hp3
      have HP2 : Hid (wr.cell? ⟨bp, op + px, none⟩ = some (.int .i64 V2)) := (HBB.out.cell (p := ⟨bp, op + px, none⟩) hbp).trans hp2
      have HPK := Lib.hid hpk; clear hpk
      clear hat2 hp3
      have hwr : IntKind.i64.wrap (y.beg + y.long) = y.beg + y.long := IntWalk.i64_in _ (by omega)
      by_cases hUV : U = V2
      · have e6 : (U == V2) = true := by simpa using hUV
        have HT : Hid (PitotConf.endOf parts (PitotConf.hostOf parts x.part) ((wins.take (k + 1)).map Wn.pl) 0 = y.beg + y.long) := by
          show _ = _; rw [HEN.out, if_pos (by rw [hUV, ← HV2.out]; exact HHX.out.symm)]
        clear hUV
        go_upto_region 8 with (fail)
        refine wp_region_held_drew (S := fun w' => Below wr.heap.size wr w') (by kernel_rfl) ?_ (fun hHeld => ?_)
        · exact (Below.refl _ wr).drew
        refine wpAnyH_take (i := 0) (oi := { dst := some 54, op := Go.Op.fieldAddr 27 (Go.Operand.tmp 2) 1, type := 0, pos := "ref.go:54", after := #[], guard := none }) (v := ?_) rfl (by kernel_rfl) (by kernel_rfl) (by kernel_rfl) (fun _ _ _ h => h) (Or.inl ⟨by rfl, ?_⟩) (by assumption) ?_
        rotate_left
        focus ((intro w hSw; (try dsimp only at hSw); clear hSw; go_simp) <;> (with_reducible rfl))
        try simp only [Act.put, List.setIfInBounds_toArray, List.set_cons_zero, List.set_cons_succ]
        refine wpAnyH_take (i := 1) (oi := { dst := some 55, op := Go.Op.load 22 (Go.Operand.tmp 54), type := 22, pos := "ref.go:54", after := #[{ on := 0, ground := Go.Ground.data }], guard := none }) (v := ?_) rfl (by kernel_rfl) (by kernel_rfl) (by kernel_rfl) (fun _ _ _ h => h) (Or.inl ⟨by rfl, ?_⟩) (by assumption) ?_
        rotate_left
        focus ((intro w hSw; (try dsimp only at hSw); obtain ⟨c0, c1, c2, c3, c4, c5⟩ := cells_6 (lies_below HC.out hSw (lies_lt HC.out)); obtain ⟨x0, x1, x2⟩ := cells_3 (lies_below HX.out hSw (lies_lt HX.out)); obtain ⟨y0, y1, y2⟩ := HY.out.below hSw HLB.out; have p1 := (hSw.cell (p := ⟨bp, op + pk, none⟩) HLP.out).trans HP1.out; have p2 := (hSw.cell (p := ⟨bp, op + px, none⟩) HLP.out).trans HP2.out; have hq := HPK.out; have hq2 := HPX.out; rw [hq] at y0; rw [hq2] at x0; clear hq hq2; clear hSw; go_simp) <;> (with_reducible rfl))
        try simp only [Act.put, List.setIfInBounds_toArray, List.set_cons_zero, List.set_cons_succ]
        refine wpAnyH_take (i := 2) (oi := { dst := some 56, op := Go.Op.fieldAddr 27 (Go.Operand.tmp 2) 3, type := 0, pos := "ref.go:54", after := #[], guard := none }) (v := ?_) rfl (by kernel_rfl) (by kernel_rfl) (by kernel_rfl) (fun _ _ _ h => h) (Or.inl ⟨by rfl, ?_⟩) (by assumption) ?_
        rotate_left
        focus ((intro w hSw; (try dsimp only at hSw); clear hSw; go_simp) <;> (with_reducible rfl))
        try simp only [Act.put, List.setIfInBounds_toArray, List.set_cons_zero, List.set_cons_succ]
        refine wpAnyH_take (i := 3) (oi := { dst := some 57, op := Go.Op.load 23 (Go.Operand.tmp 56), type := 23, pos := "ref.go:54", after := #[{ on := 2, ground := Go.Ground.data }], guard := none }) (v := ?_) rfl (by kernel_rfl) (by kernel_rfl) (by kernel_rfl) (fun _ _ _ h => h) (Or.inl ⟨by rfl, ?_⟩) (by assumption) ?_
        rotate_left
        focus ((intro w hSw; (try dsimp only at hSw); obtain ⟨c0, c1, c2, c3, c4, c5⟩ := cells_6 (lies_below HC.out hSw (lies_lt HC.out)); obtain ⟨x0, x1, x2⟩ := cells_3 (lies_below HX.out hSw (lies_lt HX.out)); obtain ⟨y0, y1, y2⟩ := HY.out.below hSw HLB.out; have p1 := (hSw.cell (p := ⟨bp, op + pk, none⟩) HLP.out).trans HP1.out; have p2 := (hSw.cell (p := ⟨bp, op + px, none⟩) HLP.out).trans HP2.out; have hq := HPK.out; have hq2 := HPX.out; rw [hq] at y0; rw [hq2] at x0; clear hq hq2; clear hSw; go_simp) <;> (with_reducible rfl))
        try simp only [Act.put, List.setIfInBounds_toArray, List.set_cons_zero, List.set_cons_succ]
        refine wpAnyH_take (i := 4) (oi := { dst := some 58, op := Go.Op.move (Go.Operand.tmp 7), type := 3, pos := "ref.go:54", after := #[], guard := none }) (v := ?_) rfl (by kernel_rfl) (by kernel_rfl) (by kernel_rfl) (fun _ _ _ h => h) (Or.inl ⟨by rfl, ?_⟩) (by assumption) ?_
        rotate_left
        focus ((intro w hSw; (try dsimp only at hSw); clear hSw; go_simp) <;> (with_reducible rfl))
        try simp only [Act.put, List.setIfInBounds_toArray, List.set_cons_zero, List.set_cons_succ]
        refine wpAnyH_take (i := 5) (oi := { dst := some 59, op := Go.Op.indexAddr 23 (Go.Operand.tmp 57) (Go.Operand.tmp 58), type := 0, pos := "ref.go:54", after := #[{ on := 3, ground := Go.Ground.data }, { on := 4, ground := Go.Ground.data }], guard := none }) (v := ?_) rfl (by kernel_rfl) (by kernel_rfl) (by kernel_rfl) (fun _ _ _ h => h) (Or.inl ⟨by rfl, ?_⟩) (by assumption) ?_
        rotate_left
        focus ((intro w hSw; (try dsimp only at hSw); clear hSw; go_simp) <;> (with_reducible rfl))
        try simp only [Act.put, List.setIfInBounds_toArray, List.set_cons_zero, List.set_cons_succ]
        refine wpAnyH_take (i := 6) (oi := { dst := some 60, op := Go.Op.fieldAddr 54 (Go.Operand.tmp 59) 0, type := 0, pos := "ref.go:54", after := #[{ on := 5, ground := Go.Ground.data }], guard := none }) (v := ?_) rfl (by kernel_rfl) (by kernel_rfl) (by kernel_rfl) (fun _ _ _ h => h) (Or.inl ⟨by rfl, ?_⟩) (by assumption) ?_
        rotate_left
        focus ((intro w hSw; (try dsimp only at hSw); clear hSw; go_simp) <;> (with_reducible rfl))
        try simp only [Act.put, List.setIfInBounds_toArray, List.set_cons_zero, List.set_cons_succ]
        refine wpAnyH_take (i := 7) (oi := { dst := some 61, op := Go.Op.load 3 (Go.Operand.tmp 60), type := 3, pos := "ref.go:54", after := #[{ on := 6, ground := Go.Ground.data }], guard := none }) (v := ?_) rfl (by kernel_rfl) (by kernel_rfl) (by kernel_rfl) (fun _ _ _ h => h) (Or.inl ⟨by rfl, ?_⟩) (by assumption) ?_
        rotate_left
        focus ((intro w hSw; (try dsimp only at hSw); obtain ⟨c0, c1, c2, c3, c4, c5⟩ := cells_6 (lies_below HC.out hSw (lies_lt HC.out)); obtain ⟨x0, x1, x2⟩ := cells_3 (lies_below HX.out hSw (lies_lt HX.out)); obtain ⟨y0, y1, y2⟩ := HY.out.below hSw HLB.out; have p1 := (hSw.cell (p := ⟨bp, op + pk, none⟩) HLP.out).trans HP1.out; have p2 := (hSw.cell (p := ⟨bp, op + px, none⟩) HLP.out).trans HP2.out; have hq := HPK.out; have hq2 := HPX.out; rw [hq] at y0; rw [hq2] at x0; clear hq hq2; clear hSw; go_simp) <;> (with_reducible rfl))
        try simp only [Act.put, List.setIfInBounds_toArray, List.set_cons_zero, List.set_cons_succ]
        refine wpAnyH_take (i := 8) (oi := { dst := some 62, op := Go.Op.indexAddr 22 (Go.Operand.tmp 55) (Go.Operand.tmp 61), type := 0, pos := "ref.go:54", after := #[{ on := 1, ground := Go.Ground.data }, { on := 7, ground := Go.Ground.data }], guard := none }) (v := ?_) rfl (by kernel_rfl) (by kernel_rfl) (by kernel_rfl) (fun _ _ _ h => h) (Or.inl ⟨by rfl, ?_⟩) (by assumption) ?_
        rotate_left
        focus ((intro w hSw; (try dsimp only at hSw); clear hSw; go_simp) <;> (with_reducible rfl))
        try simp only [Act.put, List.setIfInBounds_toArray, List.set_cons_zero, List.set_cons_succ]
        refine wpAnyH_take (i := 9) (oi := { dst := some 63, op := Go.Op.load 3 (Go.Operand.tmp 62), type := 3, pos := "ref.go:54", after := #[{ on := 8, ground := Go.Ground.data }], guard := none }) (v := ?_) rfl (by kernel_rfl) (by kernel_rfl) (by kernel_rfl) (fun _ _ _ h => h) (Or.inl ⟨by rfl, ?_⟩) (by assumption) ?_
        rotate_left
        focus ((intro w hSw; (try dsimp only at hSw); obtain ⟨c0, c1, c2, c3, c4, c5⟩ := cells_6 (lies_below HC.out hSw (lies_lt HC.out)); obtain ⟨x0, x1, x2⟩ := cells_3 (lies_below HX.out hSw (lies_lt HX.out)); obtain ⟨y0, y1, y2⟩ := HY.out.below hSw HLB.out; have p1 := (hSw.cell (p := ⟨bp, op + pk, none⟩) HLP.out).trans HP1.out; have p2 := (hSw.cell (p := ⟨bp, op + px, none⟩) HLP.out).trans HP2.out; have hq := HPK.out; have hq2 := HPX.out; rw [hq] at y0; rw [hq2] at x0; clear hq hq2; clear hSw; go_simp) <;> (with_reducible rfl))
        try simp only [Act.put, List.setIfInBounds_toArray, List.set_cons_zero, List.set_cons_succ]
        refine wpAnyH_take (i := 10) (oi := { dst := some 64, op := Go.Op.fieldAddr 27 (Go.Operand.tmp 2) 1, type := 0, pos := "ref.go:54", after := #[], guard := none }) (v := ?_) rfl (by kernel_rfl) (by kernel_rfl) (by kernel_rfl) (fun _ _ _ h => h) (Or.inl ⟨by rfl, ?_⟩) (by assumption) ?_
        rotate_left
        focus ((intro w hSw; (try dsimp only at hSw); clear hSw; go_simp) <;> (with_reducible rfl))
        try simp only [Act.put, List.setIfInBounds_toArray, List.set_cons_zero, List.set_cons_succ]
        refine wpAnyH_take (i := 11) (oi := { dst := some 65, op := Go.Op.load 22 (Go.Operand.tmp 64), type := 22, pos := "ref.go:54", after := #[{ on := 10, ground := Go.Ground.data }], guard := none }) (v := ?_) rfl (by kernel_rfl) (by kernel_rfl) (by kernel_rfl) (fun _ _ _ h => h) (Or.inl ⟨by rfl, ?_⟩) (by assumption) ?_
        rotate_left
        focus ((intro w hSw; (try dsimp only at hSw); obtain ⟨c0, c1, c2, c3, c4, c5⟩ := cells_6 (lies_below HC.out hSw (lies_lt HC.out)); obtain ⟨x0, x1, x2⟩ := cells_3 (lies_below HX.out hSw (lies_lt HX.out)); obtain ⟨y0, y1, y2⟩ := HY.out.below hSw HLB.out; have p1 := (hSw.cell (p := ⟨bp, op + pk, none⟩) HLP.out).trans HP1.out; have p2 := (hSw.cell (p := ⟨bp, op + px, none⟩) HLP.out).trans HP2.out; have hq := HPK.out; have hq2 := HPX.out; rw [hq] at y0; rw [hq2] at x0; clear hq hq2; clear hSw; go_simp) <;> (with_reducible rfl))
        try simp only [Act.put, List.setIfInBounds_toArray, List.set_cons_zero, List.set_cons_succ]
        refine wpAnyH_take (i := 12) (oi := { dst := some 66, op := Go.Op.fieldAddr 54 (Go.Operand.tmp 5) 0, type := 0, pos := "ref.go:54", after := #[], guard := none }) (v := ?_) rfl (by kernel_rfl) (by kernel_rfl) (by kernel_rfl) (fun _ _ _ h => h) (Or.inl ⟨by rfl, ?_⟩) (by assumption) ?_
        rotate_left
        focus ((intro w hSw; (try dsimp only at hSw); clear hSw; go_simp) <;> (with_reducible rfl))
        try simp only [Act.put, List.setIfInBounds_toArray, List.set_cons_zero, List.set_cons_succ]
        refine wpAnyH_take (i := 13) (oi := { dst := some 67, op := Go.Op.load 3 (Go.Operand.tmp 66), type := 3, pos := "ref.go:54", after := #[{ on := 12, ground := Go.Ground.data }], guard := none }) (v := ?_) rfl (by kernel_rfl) (by kernel_rfl) (by kernel_rfl) (fun _ _ _ h => h) (Or.inl ⟨by rfl, ?_⟩) (by assumption) ?_
        rotate_left
        focus ((intro w hSw; (try dsimp only at hSw); obtain ⟨c0, c1, c2, c3, c4, c5⟩ := cells_6 (lies_below HC.out hSw (lies_lt HC.out)); obtain ⟨x0, x1, x2⟩ := cells_3 (lies_below HX.out hSw (lies_lt HX.out)); obtain ⟨y0, y1, y2⟩ := HY.out.below hSw HLB.out; have p1 := (hSw.cell (p := ⟨bp, op + pk, none⟩) HLP.out).trans HP1.out; have p2 := (hSw.cell (p := ⟨bp, op + px, none⟩) HLP.out).trans HP2.out; have hq := HPK.out; have hq2 := HPX.out; rw [hq] at y0; rw [hq2] at x0; clear hq hq2; clear hSw; go_simp) <;> (with_reducible rfl))
        try simp only [Act.put, List.setIfInBounds_toArray, List.set_cons_zero, List.set_cons_succ]
        refine wpAnyH_take (i := 14) (oi := { dst := some 68, op := Go.Op.indexAddr 22 (Go.Operand.tmp 65) (Go.Operand.tmp 67), type := 0, pos := "ref.go:54", after := #[{ on := 11, ground := Go.Ground.data }, { on := 13, ground := Go.Ground.data }], guard := none }) (v := ?_) rfl (by kernel_rfl) (by kernel_rfl) (by kernel_rfl) (fun _ _ _ h => h) (Or.inl ⟨by rfl, ?_⟩) (by assumption) ?_
        rotate_left
        focus ((intro w hSw; (try dsimp only at hSw); clear hSw; go_simp) <;> (with_reducible rfl))
        try simp only [Act.put, List.setIfInBounds_toArray, List.set_cons_zero, List.set_cons_succ]
        refine wpAnyH_take (i := 15) (oi := { dst := some 69, op := Go.Op.load 3 (Go.Operand.tmp 68), type := 3, pos := "ref.go:54", after := #[{ on := 14, ground := Go.Ground.data }], guard := none }) (v := ?_) rfl (by kernel_rfl) (by kernel_rfl) (by kernel_rfl) (fun _ _ _ h => h) (Or.inl ⟨by rfl, ?_⟩) (by assumption) ?_
        rotate_left
        focus ((intro w hSw; (try dsimp only at hSw); obtain ⟨c0, c1, c2, c3, c4, c5⟩ := cells_6 (lies_below HC.out hSw (lies_lt HC.out)); obtain ⟨x0, x1, x2⟩ := cells_3 (lies_below HX.out hSw (lies_lt HX.out)); obtain ⟨y0, y1, y2⟩ := HY.out.below hSw HLB.out; have p1 := (hSw.cell (p := ⟨bp, op + pk, none⟩) HLP.out).trans HP1.out; have p2 := (hSw.cell (p := ⟨bp, op + px, none⟩) HLP.out).trans HP2.out; have hq := HPK.out; have hq2 := HPX.out; rw [hq] at y0; rw [hq2] at x0; clear hq hq2; clear hSw; go_simp) <;> (with_reducible rfl))
        try simp only [Act.put, List.setIfInBounds_toArray, List.set_cons_zero, List.set_cons_succ]
        refine wpAnyH_take (i := 16) (oi := { dst := some 70, op := Go.Op.binOp Go.BinOp.eql 3 (Go.Operand.tmp 63) (Go.Operand.tmp 69) 3, type := 4, pos := "ref.go:54", after := #[{ on := 9, ground := Go.Ground.data }, { on := 15, ground := Go.Ground.data }], guard := none }) (v := ?_) rfl (by kernel_rfl) (by kernel_rfl) (by kernel_rfl) (fun _ _ _ h => h) (Or.inl ⟨by rfl, ?_⟩) (by assumption) ?_
        rotate_left
        focus ((intro w hSw; (try dsimp only at hSw); clear hSw; go_simp) <;> (with_reducible rfl))
        try simp only [Act.put, List.setIfInBounds_toArray, List.set_cons_zero, List.set_cons_succ]
        refine wpAnyH_done (by kernel_rfl) ?_ _
        clear hHeld
        go_upto_region 9 with (fail)
        have HDR : Hid (Below wr.heap.size wr wr.drew) := (Below.refl _ wr).drew
        go_upto_region 9 with (fail)
        refine wp_region_held_drew (S := fun w' => Below wr.heap.size wr w') (by kernel_rfl) ?_ (fun hHeld => ?_)
        · exact HDR.out.drew
        refine wpAnyH_take (i := 0) (oi := { dst := some 71, op := Go.Op.fieldAddr 27 (Go.Operand.tmp 2) 3, type := 0, pos := "ref.go:55", after := #[], guard := none }) (v := ?_) rfl (by kernel_rfl) (by kernel_rfl) (by kernel_rfl) (fun _ _ _ h => h) (Or.inl ⟨by rfl, ?_⟩) (by assumption) ?_
        rotate_left
        focus ((intro w hSw; (try dsimp only at hSw); clear hSw; go_simp) <;> (with_reducible rfl))
        try simp only [Act.put, List.setIfInBounds_toArray, List.set_cons_zero, List.set_cons_succ]
        refine wpAnyH_take (i := 1) (oi := { dst := some 72, op := Go.Op.load 23 (Go.Operand.tmp 71), type := 23, pos := "ref.go:55", after := #[{ on := 0, ground := Go.Ground.data }], guard := none }) (v := ?_) rfl (by kernel_rfl) (by kernel_rfl) (by kernel_rfl) (fun _ _ _ h => h) (Or.inl ⟨by rfl, ?_⟩) (by assumption) ?_
        rotate_left
        focus ((intro w hSw; (try dsimp only at hSw); obtain ⟨c0, c1, c2, c3, c4, c5⟩ := cells_6 (lies_below HC.out hSw (lies_lt HC.out)); obtain ⟨x0, x1, x2⟩ := cells_3 (lies_below HX.out hSw (lies_lt HX.out)); obtain ⟨y0, y1, y2⟩ := HY.out.below hSw HLB.out; have p1 := (hSw.cell (p := ⟨bp, op + pk, none⟩) HLP.out).trans HP1.out; have p2 := (hSw.cell (p := ⟨bp, op + px, none⟩) HLP.out).trans HP2.out; have hq := HPK.out; have hq2 := HPX.out; rw [hq] at y0; rw [hq2] at x0; clear hq hq2; clear hSw; go_simp) <;> (with_reducible rfl))
        try simp only [Act.put, List.setIfInBounds_toArray, List.set_cons_zero, List.set_cons_succ]
        refine wpAnyH_take (i := 2) (oi := { dst := some 73, op := Go.Op.move (Go.Operand.tmp 7), type := 3, pos := "ref.go:55", after := #[], guard := none }) (v := ?_) rfl (by kernel_rfl) (by kernel_rfl) (by kernel_rfl) (fun _ _ _ h => h) (Or.inl ⟨by rfl, ?_⟩) (by assumption) ?_
        rotate_left
        focus ((intro w hSw; (try dsimp only at hSw); clear hSw; go_simp) <;> (with_reducible rfl))
        try simp only [Act.put, List.setIfInBounds_toArray, List.set_cons_zero, List.set_cons_succ]
        refine wpAnyH_take (i := 3) (oi := { dst := some 74, op := Go.Op.indexAddr 23 (Go.Operand.tmp 72) (Go.Operand.tmp 73), type := 0, pos := "ref.go:55", after := #[{ on := 1, ground := Go.Ground.data }, { on := 2, ground := Go.Ground.data }], guard := none }) (v := ?_) rfl (by kernel_rfl) (by kernel_rfl) (by kernel_rfl) (fun _ _ _ h => h) (Or.inl ⟨by rfl, ?_⟩) (by assumption) ?_
        rotate_left
        focus ((intro w hSw; (try dsimp only at hSw); clear hSw; go_simp) <;> (with_reducible rfl))
        try simp only [Act.put, List.setIfInBounds_toArray, List.set_cons_zero, List.set_cons_succ]
        refine wpAnyH_take (i := 4) (oi := { dst := some 75, op := Go.Op.fieldAddr 54 (Go.Operand.tmp 74) 1, type := 0, pos := "ref.go:55", after := #[{ on := 3, ground := Go.Ground.data }], guard := none }) (v := ?_) rfl (by kernel_rfl) (by kernel_rfl) (by kernel_rfl) (fun _ _ _ h => h) (Or.inl ⟨by rfl, ?_⟩) (by assumption) ?_
        rotate_left
        focus ((intro w hSw; (try dsimp only at hSw); clear hSw; go_simp) <;> (with_reducible rfl))
        try simp only [Act.put, List.setIfInBounds_toArray, List.set_cons_zero, List.set_cons_succ]
        refine wpAnyH_take (i := 5) (oi := { dst := some 76, op := Go.Op.load 3 (Go.Operand.tmp 75), type := 3, pos := "ref.go:55", after := #[{ on := 4, ground := Go.Ground.data }], guard := none }) (v := ?_) rfl (by kernel_rfl) (by kernel_rfl) (by kernel_rfl) (fun _ _ _ h => h) (Or.inl ⟨by rfl, ?_⟩) (by assumption) ?_
        rotate_left
        focus ((intro w hSw; (try dsimp only at hSw); obtain ⟨c0, c1, c2, c3, c4, c5⟩ := cells_6 (lies_below HC.out hSw (lies_lt HC.out)); obtain ⟨x0, x1, x2⟩ := cells_3 (lies_below HX.out hSw (lies_lt HX.out)); obtain ⟨y0, y1, y2⟩ := HY.out.below hSw HLB.out; have p1 := (hSw.cell (p := ⟨bp, op + pk, none⟩) HLP.out).trans HP1.out; have p2 := (hSw.cell (p := ⟨bp, op + px, none⟩) HLP.out).trans HP2.out; have hq := HPK.out; have hq2 := HPX.out; rw [hq] at y0; rw [hq2] at x0; clear hq hq2; clear hSw; go_simp) <;> (with_reducible rfl))
        try simp only [Act.put, List.setIfInBounds_toArray, List.set_cons_zero, List.set_cons_succ]
        refine wpAnyH_take (i := 6) (oi := { dst := some 77, op := Go.Op.fieldAddr 27 (Go.Operand.tmp 2) 3, type := 0, pos := "ref.go:55", after := #[], guard := none }) (v := ?_) rfl (by kernel_rfl) (by kernel_rfl) (by kernel_rfl) (fun _ _ _ h => h) (Or.inl ⟨by rfl, ?_⟩) (by assumption) ?_
        rotate_left
        focus ((intro w hSw; (try dsimp only at hSw); clear hSw; go_simp) <;> (with_reducible rfl))
        try simp only [Act.put, List.setIfInBounds_toArray, List.set_cons_zero, List.set_cons_succ]
        refine wpAnyH_take (i := 7) (oi := { dst := some 78, op := Go.Op.load 23 (Go.Operand.tmp 77), type := 23, pos := "ref.go:55", after := #[{ on := 6, ground := Go.Ground.data }], guard := none }) (v := ?_) rfl (by kernel_rfl) (by kernel_rfl) (by kernel_rfl) (fun _ _ _ h => h) (Or.inl ⟨by rfl, ?_⟩) (by assumption) ?_
        rotate_left
        focus ((intro w hSw; (try dsimp only at hSw); obtain ⟨c0, c1, c2, c3, c4, c5⟩ := cells_6 (lies_below HC.out hSw (lies_lt HC.out)); obtain ⟨x0, x1, x2⟩ := cells_3 (lies_below HX.out hSw (lies_lt HX.out)); obtain ⟨y0, y1, y2⟩ := HY.out.below hSw HLB.out; have p1 := (hSw.cell (p := ⟨bp, op + pk, none⟩) HLP.out).trans HP1.out; have p2 := (hSw.cell (p := ⟨bp, op + px, none⟩) HLP.out).trans HP2.out; have hq := HPK.out; have hq2 := HPX.out; rw [hq] at y0; rw [hq2] at x0; clear hq hq2; clear hSw; go_simp) <;> (with_reducible rfl))
        try simp only [Act.put, List.setIfInBounds_toArray, List.set_cons_zero, List.set_cons_succ]
        refine wpAnyH_take (i := 8) (oi := { dst := some 79, op := Go.Op.move (Go.Operand.tmp 7), type := 3, pos := "ref.go:55", after := #[], guard := none }) (v := ?_) rfl (by kernel_rfl) (by kernel_rfl) (by kernel_rfl) (fun _ _ _ h => h) (Or.inl ⟨by rfl, ?_⟩) (by assumption) ?_
        rotate_left
        focus ((intro w hSw; (try dsimp only at hSw); clear hSw; go_simp) <;> (with_reducible rfl))
        try simp only [Act.put, List.setIfInBounds_toArray, List.set_cons_zero, List.set_cons_succ]
        refine wpAnyH_take (i := 9) (oi := { dst := some 80, op := Go.Op.indexAddr 23 (Go.Operand.tmp 78) (Go.Operand.tmp 79), type := 0, pos := "ref.go:55", after := #[{ on := 7, ground := Go.Ground.data }, { on := 8, ground := Go.Ground.data }], guard := none }) (v := ?_) rfl (by kernel_rfl) (by kernel_rfl) (by kernel_rfl) (fun _ _ _ h => h) (Or.inl ⟨by rfl, ?_⟩) (by assumption) ?_
        rotate_left
        focus ((intro w hSw; (try dsimp only at hSw); clear hSw; go_simp) <;> (with_reducible rfl))
        try simp only [Act.put, List.setIfInBounds_toArray, List.set_cons_zero, List.set_cons_succ]
        refine wpAnyH_take (i := 10) (oi := { dst := some 81, op := Go.Op.fieldAddr 54 (Go.Operand.tmp 80) 2, type := 0, pos := "ref.go:55", after := #[{ on := 9, ground := Go.Ground.data }], guard := none }) (v := ?_) rfl (by kernel_rfl) (by kernel_rfl) (by kernel_rfl) (fun _ _ _ h => h) (Or.inl ⟨by rfl, ?_⟩) (by assumption) ?_
        rotate_left
        focus ((intro w hSw; (try dsimp only at hSw); clear hSw; go_simp) <;> (with_reducible rfl))
        try simp only [Act.put, List.setIfInBounds_toArray, List.set_cons_zero, List.set_cons_succ]
        refine wpAnyH_take (i := 11) (oi := { dst := some 82, op := Go.Op.load 3 (Go.Operand.tmp 81), type := 3, pos := "ref.go:55", after := #[{ on := 10, ground := Go.Ground.data }], guard := none }) (v := ?_) rfl (by kernel_rfl) (by kernel_rfl) (by kernel_rfl) (fun _ _ _ h => h) (Or.inl ⟨by rfl, ?_⟩) (by assumption) ?_
        rotate_left
        focus ((intro w hSw; (try dsimp only at hSw); obtain ⟨c0, c1, c2, c3, c4, c5⟩ := cells_6 (lies_below HC.out hSw (lies_lt HC.out)); obtain ⟨x0, x1, x2⟩ := cells_3 (lies_below HX.out hSw (lies_lt HX.out)); obtain ⟨y0, y1, y2⟩ := HY.out.below hSw HLB.out; have p1 := (hSw.cell (p := ⟨bp, op + pk, none⟩) HLP.out).trans HP1.out; have p2 := (hSw.cell (p := ⟨bp, op + px, none⟩) HLP.out).trans HP2.out; have hq := HPK.out; have hq2 := HPX.out; rw [hq] at y0; rw [hq2] at x0; clear hq hq2; clear hSw; go_simp) <;> (with_reducible rfl))
        try simp only [Act.put, List.setIfInBounds_toArray, List.set_cons_zero, List.set_cons_succ]
        refine wpAnyH_take (i := 12) (oi := { dst := some 83, op := Go.Op.binOp Go.BinOp.add 3 (Go.Operand.tmp 76) (Go.Operand.tmp 82) 3, type := 3, pos := "ref.go:55", after := #[{ on := 5, ground := Go.Ground.data }, { on := 11, ground := Go.Ground.data }], guard := none }) (v := ?_) rfl (by kernel_rfl) (by kernel_rfl) (by kernel_rfl) (fun _ _ _ h => h) (Or.inl ⟨by rfl, ?_⟩) (by assumption) ?_
        rotate_left
        focus ((intro w hSw; (try dsimp only at hSw); clear hSw; go_simp) <;> (with_reducible rfl))
        try simp only [Act.put, List.setIfInBounds_toArray, List.set_cons_zero, List.set_cons_succ]
        refine wpAnyH_take (i := 13) (oi := { dst := some 6, op := Go.Op.assign (Go.Operand.tmp 83), type := 3, pos := "ref.go:55", after := #[{ on := 12, ground := Go.Ground.data }, { on := 0, ground := Go.Ground.phase }, { on := 1, ground := Go.Ground.phase }, { on := 2, ground := Go.Ground.phase }, { on := 3, ground := Go.Ground.phase }, { on := 4, ground := Go.Ground.phase }, { on := 5, ground := Go.Ground.phase }, { on := 6, ground := Go.Ground.phase }, { on := 7, ground := Go.Ground.phase }, { on := 8, ground := Go.Ground.phase }, { on := 9, ground := Go.Ground.phase }, { on := 10, ground := Go.Ground.phase }, { on := 11, ground := Go.Ground.phase }, { on := 12, ground := Go.Ground.phase }], guard := none }) (v := ?_) rfl (by kernel_rfl) (by kernel_rfl) (by kernel_rfl) (fun _ _ _ h => h) (Or.inl ⟨by rfl, ?_⟩) (by assumption) ?_
        rotate_left
        focus ((intro w hSw; (try dsimp only at hSw); clear hSw; go_simp) <;> (with_reducible rfl))
        try simp only [Act.put, List.setIfInBounds_toArray, List.set_cons_zero, List.set_cons_succ]
        refine wpAnyH_done (by kernel_rfl) ?_ _
        clear hHeld
        go_wp2
        go_roundw
        case rel => exact ⟨k + 1, y.beg + y.long, by omega, by go_num, rfl, by omega, by omega, HT, HC.out, HX.out, HBB.out.drew.drew⟩
        case measure => simp [intOf]; omega
      · have e6 : (U == V2) = false := by simpa using hUV
        have HT : Hid (PitotConf.endOf parts (PitotConf.hostOf parts x.part) ((wins.take (k + 1)).map Wn.pl) 0 = e) := by
          show _ = _; rw [HEN.out, if_neg (by rw [HHX.out, HV2.out]; simpa using hUV)]
        clear hUV
        go_upto_region 8 with (fail)
        refine wp_region_held_drew (S := fun w' => Below wr.heap.size wr w') (by kernel_rfl) ?_ (fun hHeld => ?_)
        · exact (Below.refl _ wr).drew
        refine wpAnyH_take (i := 0) (oi := { dst := some 54, op := Go.Op.fieldAddr 27 (Go.Operand.tmp 2) 1, type := 0, pos := "ref.go:54", after := #[], guard := none }) (v := ?_) rfl (by kernel_rfl) (by kernel_rfl) (by kernel_rfl) (fun _ _ _ h => h) (Or.inl ⟨by rfl, ?_⟩) (by assumption) ?_
        rotate_left
        focus ((intro w hSw; (try dsimp only at hSw); clear hSw; go_simp) <;> (with_reducible rfl))
        try simp only [Act.put, List.setIfInBounds_toArray, List.set_cons_zero, List.set_cons_succ]
        refine wpAnyH_take (i := 1) (oi := { dst := some 55, op := Go.Op.load 22 (Go.Operand.tmp 54), type := 22, pos := "ref.go:54", after := #[{ on := 0, ground := Go.Ground.data }], guard := none }) (v := ?_) rfl (by kernel_rfl) (by kernel_rfl) (by kernel_rfl) (fun _ _ _ h => h) (Or.inl ⟨by rfl, ?_⟩) (by assumption) ?_
        rotate_left
        focus ((intro w hSw; (try dsimp only at hSw); obtain ⟨c0, c1, c2, c3, c4, c5⟩ := cells_6 (lies_below HC.out hSw (lies_lt HC.out)); obtain ⟨x0, x1, x2⟩ := cells_3 (lies_below HX.out hSw (lies_lt HX.out)); obtain ⟨y0, y1, y2⟩ := HY.out.below hSw HLB.out; have p1 := (hSw.cell (p := ⟨bp, op + pk, none⟩) HLP.out).trans HP1.out; have p2 := (hSw.cell (p := ⟨bp, op + px, none⟩) HLP.out).trans HP2.out; have hq := HPK.out; have hq2 := HPX.out; rw [hq] at y0; rw [hq2] at x0; clear hq hq2; clear hSw; go_simp) <;> (with_reducible rfl))
        try simp only [Act.put, List.setIfInBounds_toArray, List.set_cons_zero, List.set_cons_succ]
        refine wpAnyH_take (i := 2) (oi := { dst := some 56, op := Go.Op.fieldAddr 27 (Go.Operand.tmp 2) 3, type := 0, pos := "ref.go:54", after := #[], guard := none }) (v := ?_) rfl (by kernel_rfl) (by kernel_rfl) (by kernel_rfl) (fun _ _ _ h => h) (Or.inl ⟨by rfl, ?_⟩) (by assumption) ?_
        rotate_left
        focus ((intro w hSw; (try dsimp only at hSw); clear hSw; go_simp) <;> (with_reducible rfl))
        try simp only [Act.put, List.setIfInBounds_toArray, List.set_cons_zero, List.set_cons_succ]
        refine wpAnyH_take (i := 3) (oi := { dst := some 57, op := Go.Op.load 23 (Go.Operand.tmp 56), type := 23, pos := "ref.go:54", after := #[{ on := 2, ground := Go.Ground.data }], guard := none }) (v := ?_) rfl (by kernel_rfl) (by kernel_rfl) (by kernel_rfl) (fun _ _ _ h => h) (Or.inl ⟨by rfl, ?_⟩) (by assumption) ?_
        rotate_left
        focus ((intro w hSw; (try dsimp only at hSw); obtain ⟨c0, c1, c2, c3, c4, c5⟩ := cells_6 (lies_below HC.out hSw (lies_lt HC.out)); obtain ⟨x0, x1, x2⟩ := cells_3 (lies_below HX.out hSw (lies_lt HX.out)); obtain ⟨y0, y1, y2⟩ := HY.out.below hSw HLB.out; have p1 := (hSw.cell (p := ⟨bp, op + pk, none⟩) HLP.out).trans HP1.out; have p2 := (hSw.cell (p := ⟨bp, op + px, none⟩) HLP.out).trans HP2.out; have hq := HPK.out; have hq2 := HPX.out; rw [hq] at y0; rw [hq2] at x0; clear hq hq2; clear hSw; go_simp) <;> (with_reducible rfl))
        try simp only [Act.put, List.setIfInBounds_toArray, List.set_cons_zero, List.set_cons_succ]
        refine wpAnyH_take (i := 4) (oi := { dst := some 58, op := Go.Op.move (Go.Operand.tmp 7), type := 3, pos := "ref.go:54", after := #[], guard := none }) (v := ?_) rfl (by kernel_rfl) (by kernel_rfl) (by kernel_rfl) (fun _ _ _ h => h) (Or.inl ⟨by rfl, ?_⟩) (by assumption) ?_
        rotate_left
        focus ((intro w hSw; (try dsimp only at hSw); clear hSw; go_simp) <;> (with_reducible rfl))
        try simp only [Act.put, List.setIfInBounds_toArray, List.set_cons_zero, List.set_cons_succ]
        refine wpAnyH_take (i := 5) (oi := { dst := some 59, op := Go.Op.indexAddr 23 (Go.Operand.tmp 57) (Go.Operand.tmp 58), type := 0, pos := "ref.go:54", after := #[{ on := 3, ground := Go.Ground.data }, { on := 4, ground := Go.Ground.data }], guard := none }) (v := ?_) rfl (by kernel_rfl) (by kernel_rfl) (by kernel_rfl) (fun _ _ _ h => h) (Or.inl ⟨by rfl, ?_⟩) (by assumption) ?_
        rotate_left
        focus ((intro w hSw; (try dsimp only at hSw); clear hSw; go_simp) <;> (with_reducible rfl))
        try simp only [Act.put, List.setIfInBounds_toArray, List.set_cons_zero, List.set_cons_succ]
        refine wpAnyH_take (i := 6) (oi := { dst := some 60, op := Go.Op.fieldAddr 54 (Go.Operand.tmp 59) 0, type := 0, pos := "ref.go:54", after := #[{ on := 5, ground := Go.Ground.data }], guard := none }) (v := ?_) rfl (by kernel_rfl) (by kernel_rfl) (by kernel_rfl) (fun _ _ _ h => h) (Or.inl ⟨by rfl, ?_⟩) (by assumption) ?_
        rotate_left
        focus ((intro w hSw; (try dsimp only at hSw); clear hSw; go_simp) <;> (with_reducible rfl))
        try simp only [Act.put, List.setIfInBounds_toArray, List.set_cons_zero, List.set_cons_succ]
        refine wpAnyH_take (i := 7) (oi := { dst := some 61, op := Go.Op.load 3 (Go.Operand.tmp 60), type := 3, pos := "ref.go:54", after := #[{ on := 6, ground := Go.Ground.data }], guard := none }) (v := ?_) rfl (by kernel_rfl) (by kernel_rfl) (by kernel_rfl) (fun _ _ _ h => h) (Or.inl ⟨by rfl, ?_⟩) (by assumption) ?_
        rotate_left
        focus ((intro w hSw; (try dsimp only at hSw); obtain ⟨c0, c1, c2, c3, c4, c5⟩ := cells_6 (lies_below HC.out hSw (lies_lt HC.out)); obtain ⟨x0, x1, x2⟩ := cells_3 (lies_below HX.out hSw (lies_lt HX.out)); obtain ⟨y0, y1, y2⟩ := HY.out.below hSw HLB.out; have p1 := (hSw.cell (p := ⟨bp, op + pk, none⟩) HLP.out).trans HP1.out; have p2 := (hSw.cell (p := ⟨bp, op + px, none⟩) HLP.out).trans HP2.out; have hq := HPK.out; have hq2 := HPX.out; rw [hq] at y0; rw [hq2] at x0; clear hq hq2; clear hSw; go_simp) <;> (with_reducible rfl))
        try simp only [Act.put, List.setIfInBounds_toArray, List.set_cons_zero, List.set_cons_succ]
        refine wpAnyH_take (i := 8) (oi := { dst := some 62, op := Go.Op.indexAddr 22 (Go.Operand.tmp 55) (Go.Operand.tmp 61), type := 0, pos := "ref.go:54", after := #[{ on := 1, ground := Go.Ground.data }, { on := 7, ground := Go.Ground.data }], guard := none }) (v := ?_) rfl (by kernel_rfl) (by kernel_rfl) (by kernel_rfl) (fun _ _ _ h => h) (Or.inl ⟨by rfl, ?_⟩) (by assumption) ?_
        rotate_left
        focus ((intro w hSw; (try dsimp only at hSw); clear hSw; go_simp) <;> (with_reducible rfl))
        try simp only [Act.put, List.setIfInBounds_toArray, List.set_cons_zero, List.set_cons_succ]
        refine wpAnyH_take (i := 9) (oi := { dst := some 63, op := Go.Op.load 3 (Go.Operand.tmp 62), type := 3, pos := "ref.go:54", after := #[{ on := 8, ground := Go.Ground.data }], guard := none }) (v := ?_) rfl (by kernel_rfl) (by kernel_rfl) (by kernel_rfl) (fun _ _ _ h => h) (Or.inl ⟨by rfl, ?_⟩) (by assumption) ?_
        rotate_left
        focus ((intro w hSw; (try dsimp only at hSw); obtain ⟨c0, c1, c2, c3, c4, c5⟩ := cells_6 (lies_below HC.out hSw (lies_lt HC.out)); obtain ⟨x0, x1, x2⟩ := cells_3 (lies_below HX.out hSw (lies_lt HX.out)); obtain ⟨y0, y1, y2⟩ := HY.out.below hSw HLB.out; have p1 := (hSw.cell (p := ⟨bp, op + pk, none⟩) HLP.out).trans HP1.out; have p2 := (hSw.cell (p := ⟨bp, op + px, none⟩) HLP.out).trans HP2.out; have hq := HPK.out; have hq2 := HPX.out; rw [hq] at y0; rw [hq2] at x0; clear hq hq2; clear hSw; go_simp) <;> (with_reducible rfl))
        try simp only [Act.put, List.setIfInBounds_toArray, List.set_cons_zero, List.set_cons_succ]
        refine wpAnyH_take (i := 10) (oi := { dst := some 64, op := Go.Op.fieldAddr 27 (Go.Operand.tmp 2) 1, type := 0, pos := "ref.go:54", after := #[], guard := none }) (v := ?_) rfl (by kernel_rfl) (by kernel_rfl) (by kernel_rfl) (fun _ _ _ h => h) (Or.inl ⟨by rfl, ?_⟩) (by assumption) ?_
        rotate_left
        focus ((intro w hSw; (try dsimp only at hSw); clear hSw; go_simp) <;> (with_reducible rfl))
        try simp only [Act.put, List.setIfInBounds_toArray, List.set_cons_zero, List.set_cons_succ]
        refine wpAnyH_take (i := 11) (oi := { dst := some 65, op := Go.Op.load 22 (Go.Operand.tmp 64), type := 22, pos := "ref.go:54", after := #[{ on := 10, ground := Go.Ground.data }], guard := none }) (v := ?_) rfl (by kernel_rfl) (by kernel_rfl) (by kernel_rfl) (fun _ _ _ h => h) (Or.inl ⟨by rfl, ?_⟩) (by assumption) ?_
        rotate_left
        focus ((intro w hSw; (try dsimp only at hSw); obtain ⟨c0, c1, c2, c3, c4, c5⟩ := cells_6 (lies_below HC.out hSw (lies_lt HC.out)); obtain ⟨x0, x1, x2⟩ := cells_3 (lies_below HX.out hSw (lies_lt HX.out)); obtain ⟨y0, y1, y2⟩ := HY.out.below hSw HLB.out; have p1 := (hSw.cell (p := ⟨bp, op + pk, none⟩) HLP.out).trans HP1.out; have p2 := (hSw.cell (p := ⟨bp, op + px, none⟩) HLP.out).trans HP2.out; have hq := HPK.out; have hq2 := HPX.out; rw [hq] at y0; rw [hq2] at x0; clear hq hq2; clear hSw; go_simp) <;> (with_reducible rfl))
        try simp only [Act.put, List.setIfInBounds_toArray, List.set_cons_zero, List.set_cons_succ]
        refine wpAnyH_take (i := 12) (oi := { dst := some 66, op := Go.Op.fieldAddr 54 (Go.Operand.tmp 5) 0, type := 0, pos := "ref.go:54", after := #[], guard := none }) (v := ?_) rfl (by kernel_rfl) (by kernel_rfl) (by kernel_rfl) (fun _ _ _ h => h) (Or.inl ⟨by rfl, ?_⟩) (by assumption) ?_
        rotate_left
        focus ((intro w hSw; (try dsimp only at hSw); clear hSw; go_simp) <;> (with_reducible rfl))
        try simp only [Act.put, List.setIfInBounds_toArray, List.set_cons_zero, List.set_cons_succ]
        refine wpAnyH_take (i := 13) (oi := { dst := some 67, op := Go.Op.load 3 (Go.Operand.tmp 66), type := 3, pos := "ref.go:54", after := #[{ on := 12, ground := Go.Ground.data }], guard := none }) (v := ?_) rfl (by kernel_rfl) (by kernel_rfl) (by kernel_rfl) (fun _ _ _ h => h) (Or.inl ⟨by rfl, ?_⟩) (by assumption) ?_
        rotate_left
        focus ((intro w hSw; (try dsimp only at hSw); obtain ⟨c0, c1, c2, c3, c4, c5⟩ := cells_6 (lies_below HC.out hSw (lies_lt HC.out)); obtain ⟨x0, x1, x2⟩ := cells_3 (lies_below HX.out hSw (lies_lt HX.out)); obtain ⟨y0, y1, y2⟩ := HY.out.below hSw HLB.out; have p1 := (hSw.cell (p := ⟨bp, op + pk, none⟩) HLP.out).trans HP1.out; have p2 := (hSw.cell (p := ⟨bp, op + px, none⟩) HLP.out).trans HP2.out; have hq := HPK.out; have hq2 := HPX.out; rw [hq] at y0; rw [hq2] at x0; clear hq hq2; clear hSw; go_simp) <;> (with_reducible rfl))
        try simp only [Act.put, List.setIfInBounds_toArray, List.set_cons_zero, List.set_cons_succ]
        refine wpAnyH_take (i := 14) (oi := { dst := some 68, op := Go.Op.indexAddr 22 (Go.Operand.tmp 65) (Go.Operand.tmp 67), type := 0, pos := "ref.go:54", after := #[{ on := 11, ground := Go.Ground.data }, { on := 13, ground := Go.Ground.data }], guard := none }) (v := ?_) rfl (by kernel_rfl) (by kernel_rfl) (by kernel_rfl) (fun _ _ _ h => h) (Or.inl ⟨by rfl, ?_⟩) (by assumption) ?_
        rotate_left
        focus ((intro w hSw; (try dsimp only at hSw); clear hSw; go_simp) <;> (with_reducible rfl))
        try simp only [Act.put, List.setIfInBounds_toArray, List.set_cons_zero, List.set_cons_succ]
        refine wpAnyH_take (i := 15) (oi := { dst := some 69, op := Go.Op.load 3 (Go.Operand.tmp 68), type := 3, pos := "ref.go:54", after := #[{ on := 14, ground := Go.Ground.data }], guard := none }) (v := ?_) rfl (by kernel_rfl) (by kernel_rfl) (by kernel_rfl) (fun _ _ _ h => h) (Or.inl ⟨by rfl, ?_⟩) (by assumption) ?_
        rotate_left
        focus ((intro w hSw; (try dsimp only at hSw); obtain ⟨c0, c1, c2, c3, c4, c5⟩ := cells_6 (lies_below HC.out hSw (lies_lt HC.out)); obtain ⟨x0, x1, x2⟩ := cells_3 (lies_below HX.out hSw (lies_lt HX.out)); obtain ⟨y0, y1, y2⟩ := HY.out.below hSw HLB.out; have p1 := (hSw.cell (p := ⟨bp, op + pk, none⟩) HLP.out).trans HP1.out; have p2 := (hSw.cell (p := ⟨bp, op + px, none⟩) HLP.out).trans HP2.out; have hq := HPK.out; have hq2 := HPX.out; rw [hq] at y0; rw [hq2] at x0; clear hq hq2; clear hSw; go_simp) <;> (with_reducible rfl))
        try simp only [Act.put, List.setIfInBounds_toArray, List.set_cons_zero, List.set_cons_succ]
        refine wpAnyH_take (i := 16) (oi := { dst := some 70, op := Go.Op.binOp Go.BinOp.eql 3 (Go.Operand.tmp 63) (Go.Operand.tmp 69) 3, type := 4, pos := "ref.go:54", after := #[{ on := 9, ground := Go.Ground.data }, { on := 15, ground := Go.Ground.data }], guard := none }) (v := ?_) rfl (by kernel_rfl) (by kernel_rfl) (by kernel_rfl) (fun _ _ _ h => h) (Or.inl ⟨by rfl, ?_⟩) (by assumption) ?_
        rotate_left
        focus ((intro w hSw; (try dsimp only at hSw); clear hSw; go_simp) <;> (with_reducible rfl))
        try simp only [Act.put, List.setIfInBounds_toArray, List.set_cons_zero, List.set_cons_succ]
        refine wpAnyH_done (by kernel_rfl) ?_ _
        clear hHeld
        go_wp2
        go_roundw
        case rel => exact ⟨k + 1, e, by omega, by go_num, rfl, by omega, by omega, HT, HC.out, HX.out, HBB.out.drew⟩
        case measure => simp [intOf]; omega
    · have e1 : decide ((k : Int) < (i : Int)) = false := decide_eq_false (by omega)
      have e1' : decide (k < i) = false := decide_eq_false hki
      obtain rfl : k = i := by omega
      have hee : e = E := ht.out.symm.trans HE.out
      subst hee
      obtain ⟨x0, x1, x2⟩ := cells_3 HX.out
      by_cases g : x.beg < e
      · have g1 : decide (x.beg < e) = true := decide_eq_true g
        have HG : Hid ((if x.beg < e then (25 : Int) else 0) = 25) := if_pos g
        go_wp2
        go_returns
        exact ⟨rfl, HBB.out⟩
      · have g1 : decide (x.beg < e) = false := decide_eq_false g
        have HG : Hid ((if x.beg < e then (25 : Int) else 0) = 0) := if_neg g
        go_wp2
        go_returns
        exact ⟨rfl, HBB.out⟩
end Go.Proofs.Ytdphapjeohkbjaa
/- The document's put: a number is put into a row that rises (trial). -/
set_option maxRecDepth 100000
namespace Go.Proofs.Ytdphapjeohkbjaa
open Go.RowKit Go.Deep

def enI (l : List Int) : List Value := l.map (Value.int .i64)
theorem info3 : (Try.prog.info? 3).map (fun i => (i.zero, i.size, i.bytes)) = some (some (.int .i64 0), 1, 8) := by kernel_rfl
theorem own_below {W W' : World} {B : Nat} {e : TypeId} {sz n : Nat} {v : Value} {xs : List Value} (h : W.ownsRow B e sz v n xs) (hg : W.grownBy W' v.ownBlock) (hB : B ≤ W.heap.size) : Below B W W' := by
  refine ⟨hg.os, hg.tape, hg.output, hg.size, fun k hk => hg.block k (by omega) ?_⟩
  rcases h.2 with ⟨e, _⟩ | ⟨g, cap, cur, e, hb, _⟩
  · rw [e]; simp [Value.ownBlock]
  · rw [e]; simp only [Value.ownBlock]; intro h; injection h with h; omega
theorem row_snoc {W : World} {B : Nat} {v : Value} {acc : List Int} {t : Int} (h : W.ownsRow B 3 1 v (acc.length + 1) (enI acc ++ [.int .i64 t])) : W.ownsRow B 3 1 v (acc ++ [t]).length (enI (acc ++ [t])) := by
  have e : enI (acc ++ [t]) = enI acc ++ [.int .i64 t] := by simp [enI]
  rw [e, List.length_append]
  exact h
end Go.Proofs.Ytdphapjeohkbjaa
/- The document's Sends (trial). -/
set_option maxRecDepth 100000
namespace Go.Proofs.Ytdphapjeohkbjaa
open Go.RowKit Go.Deep

theorem own_mono {w : World} {B B' : Nat} {e : TypeId} {size : Nat} {v : Value} {n : Nat} {xs : List Value} (h : w.ownsRow B e size v n xs) (hB : B' ≤ B) : w.ownsRow B' e size v n xs := by
  refine ⟨h.1, ?_⟩
  rcases h.2 with h | ⟨g, cap, cur, h1, h2, h3⟩
  · exact .inl h
  · exact .inr ⟨g, cap, cur, h1, Nat.le_trans hB h2, h3⟩
theorem enI_length (l : List Int) : (enI l).length = l.length := by simp [enI]
/-- A row of ints that a call owns, as ints in memory. -/
theorem row_ints {w : World} {B : Nat} {v : Value} {l : List Int} (h : w.ownsRow B 3 1 v l.length (enI l)) : ∃ A cap, v = .slice A l.length cap ∧ IntsAt w A l := by
  by_cases h0 : 0 < l.length
  · obtain ⟨g, cap, hv, hg, hlt⟩ := h.form h0
    refine ⟨some ⟨g, 0, none⟩, cap, hv, fun _ => ⟨g, 0, rfl, hlt, fun i hi => ?_⟩⟩
    have := h.cells (g := g) (by rw [hv]; rfl) i (.int .i64 l[i]) (by simp [enI, hi])
    rw [show (⟨g, 0, none⟩ : Addr).add i = ⟨g, 0 + i, none⟩ by unfold Addr.add; split <;> simp_all] at this
    exact this
  · have hl : l = [] := List.length_eq_zero_iff.1 (by omega)
    subst hl
    rcases h.2 with ⟨e, _⟩ | ⟨g, cap, cur, e, _⟩
    · exact ⟨none, 0, by rw [e]; rfl, fun h => absurd rfl h⟩
    · exact ⟨_, cap, e, fun h => absurd rfl h⟩
theorem two_filters (l : List Int) (n : Int) : (l.filter (fun x => decide (x < n))).length + (l.filter (fun x => decide (n < x))).length ≤ l.length := by
  induction l with
  | nil => simp
  | cons a r ih =>
    rw [List.filter_cons, List.filter_cons]
    by_cases h1 : a < n
    · rw [if_pos (by simpa using h1), if_neg (by simp; omega)]; simp; omega
    · rw [if_neg (by simpa using h1)]
      by_cases h2 : n < a
      · rw [if_pos (by simpa using h2)]; simp; omega
      · rw [if_neg (by simpa using h2)]; simp; omega
theorem ins_length (l : List Int) (n : Int) : (PitotConf.ins l n).length ≤ l.length + 1 := by
  have := two_filters l n
  simp [PitotConf.ins]; omega
theorem gather_length (l : List PitotConf.Vl) (f : PitotConf.Vl → Bool) : (PitotConf.gatherIds l f).length ≤ l.length := by
  unfold PitotConf.gatherIds
  have key : ∀ (r : List PitotConf.Vl) (a : List Int), (r.foldl (fun l v => PitotConf.ins l v.id) a).length ≤ a.length + r.length := by
    intro r
    induction r with
    | nil => intro a; simp
    | cons v r ih =>
      intro a
      have h1 := ih (PitotConf.ins a v.id)
      have h2 := ins_length a v.id
      simp only [List.foldl_cons, List.length_cons]; omega
  have h1 := key (l.filter f) []
  have h2 := List.length_filter_le f l
  simp only [List.length_nil] at h1
  omega
theorem gather_snoc (l : List PitotConf.Vl) (v : PitotConf.Vl) (f : PitotConf.Vl → Bool) : PitotConf.gatherIds (l ++ [v]) f = if f v = true then PitotConf.ins (PitotConf.gatherIds l f) v.id else PitotConf.gatherIds l f := by
  unfold PitotConf.gatherIds
  rw [List.filter_append, List.filter_cons]
  by_cases h : f v = true
  · rw [if_pos h, if_pos h, List.foldl_append]; rfl
  · rw [if_neg h, if_neg h, List.filter_nil, List.append_nil]
end Go.Proofs.Ytdphapjeohkbjaa
/- The program looks at the partitions. -/
set_option maxRecDepth 100000
namespace Go.Proofs.Ytdphapjeohkbjaa
open Go.RowKit

/-- What a judge tells: which one, and why. -/
def told (o : Option (Nat × Int)) : Int × Int := match o with
  | some x => ((x.1 : Int), x.2)
  | none => (0, 0)
abbrev judged (x : Int × Int) : Value := .tuple #[.int .i64 x.1, .int .i64 x.2]
theorem scan_step {α : Type} (J : List α → α → Int) (l : List α) (k : Nat) (h : k < l.length) : PitotConf.scan J (l.take k) (l.drop k) = if J (l.take k) l[k] = 0 then PitotConf.scan J (l.take (k + 1)) (l.drop (k + 1)) else some (k, J (l.take k) l[k]) := by
  rw [List.drop_eq_getElem_cons h, PitotConf.scan, List.take_succ_eq_append_getElem h, List.length_take, Nat.min_eq_left (by omega)]
theorem scan_end {α : Type} (J : List α → α → Int) (l : List α) (k : Nat) (h : l.length ≤ k) : PitotConf.scan J (l.take k) (l.drop k) = none := by
  rw [List.drop_of_length_le h]; rfl
set_option maxHeartbeats 2000000 in
theorem judgeParts_any (c : Cx) (w : World) (hc : c.Held w) (hl : c.parts.length ≤ maxLen) (h0 : 1 ≤ c.hosts ∧ c.hosts ≤ 64) : Calls Try.prog 21 #[c.val] w fun e w' => e = .returned (judged (told (PitotConf.scan (PitotConf.partJ c.hosts) [] c.parts))) ∧ Below w.heap.size w w' := by
  unfold maxLen at hl
  have HV : Hid (IntsAt w c.partsA c.parts) := hc.1
  clear hc
  obtain ⟨R, HR⟩ : ∃ R, Hid (told (PitotConf.scan (PitotConf.partJ c.hosts) [] c.parts) = R) := ⟨_, rfl⟩
  rw [HR.out]
  obtain ⟨hosts, pA, pc, parts, major, wA, wk, wins, vA, vc, vls, qA, qc, ports⟩ := c
  simp only at HV HR hl h0 ⊢
  obtain ⟨m, Hm⟩ : ∃ m, Hid (parts.length = m) := ⟨_, rfl⟩
  obtain ⟨wl, _⟩ : ∃ n, wins.length = n := ⟨_, rfl⟩
  show Calls Try.prog 21 #[.agg #[.int .i64 hosts, .slice pA parts.length pc, .int .i64 major, .slice wA wins.length wk, .slice vA vls.length vc, .slice qA ports.length qc]] w _
  rw [Hm.out] at hl ⊢
  generalize wins.length = wl, vls.length = vl, ports.length = ql
  obtain ⟨ra, re⟩ := R
  have HH := Lib.hid (fun n w => isHost_any hosts major pA wA vA qA m pc wl wk vl vc ql qc n w (by omega) (by omega))
  have CB : Hid ((w.alloc (.cells #[.int .i64 hosts, .slice pA m pc, .int .i64 major, .slice wA wl wk, .slice vA vl vc, .slice qA ql qc] 27)).heap[w.heap.size]? = some (.cells #[.int .i64 hosts, .slice pA m pc, .int .i64 major, .slice wA wl wk, .slice vA vl vc, .slice qA ql qc] 27)) := heap_alloc_new w _
  have BB : Hid (Below w.heap.size w (w.alloc (.cells #[.int .i64 hosts, .slice pA m pc, .int .i64 major, .slice wA wl wk, .slice vA vl vc, .slice qA ql qc] 27))) := (Below.refl _ w).alloc (Nat.le_refl _) _
  go_enter Try.func21, Try.ntmps21
  go_wp2
  go_loopw [9] (fun v9 wr => ∃ k : Nat, k ≤ m ∧ v9 = .int .i64 k ∧ Hid (told (PitotConf.scan (PitotConf.partJ hosts) (parts.take k) (parts.drop k)) = (ra, re)) ∧ wr.heap[w.heap.size]? = some (.cells #[.int .i64 hosts, .slice pA m pc, .int .i64 major, .slice wA wl wk, .slice vA vl vc, .slice qA ql qc] 27) ∧ Below w.heap.size w wr) (fun v9 _ => m - (intOf v9).toNat)
  case atStart => exact ⟨0, Nat.zero_le _, rfl, HR, CB.out, BB.out⟩
  case round =>
    obtain ⟨k, hk, rfl, ht, hC, hB⟩ := hrel
    have HB := Lib.hid hB; have HC := Lib.hid hC
    clear hB hC
    obtain ⟨c0, c1, c2, c3, c4, c5⟩ := cells_6 HC.out
    by_cases hkm : k < m
    · have hkl : k < parts.length := by rw [Hm.out]; exact hkm
      have e1 : decide ((k : Int) < (m : Int)) = true := decide_eq_true (by omega)
      have e1' : decide (k < m) = true := decide_eq_true hkm
      obtain ⟨b, off, rfl, hb, hat⟩ := HV.out.get hkl
      have hat : wr.cell? ⟨b, off + k, none⟩ = some (.int .i64 parts[k]) := (HB.out.cell hb).trans hat
      have hs := scan_step (PitotConf.partJ hosts) parts k hkl
      have hJ : PitotConf.partJ hosts (parts.take k) parts[k] = if 64 ≤ k ∨ PitotConf.isHost hosts parts[k] = false then 1 else 0 := by
        rw [PitotConf.partJ, List.length_take, Nat.min_eq_left (by omega)]
      generalize parts[k] = x at hat hs hJ
      generalize PitotConf.partJ hosts (parts.take k) x = J at hs hJ
      by_cases g0 : 64 ≤ k
      · have f0 : decide (64 ≤ (k : Int)) = true := decide_eq_true (by omega)
        have f0' : decide (64 ≤ k) = true := decide_eq_true g0
        have HT : Hid (((k : Int), (1 : Int)) = (ra, re)) := by
          show _ = _
          have hJ1 : J = 1 := by rw [hJ, if_pos (Or.inl g0)]
          rw [← ht.out, hs, if_neg (by rw [hJ1]; decide), hJ1]; rfl
        clear hs hJ g0 ht
        go_wp2
        go_returns
        have := HT.out
        injection this with h1 h2
        subst h1; subst h2
        exact ⟨rfl, HB.out⟩
      · have f0 : decide (64 ≤ (k : Int)) = false := decide_eq_false (by omega)
        have f0' : decide (64 ≤ k) = false := decide_eq_false g0
        have HX := HH.out x
        cases hp : PitotConf.isHost hosts x
        · rw [hp] at HX
          have HX := Lib.hid HX
          have HT : Hid (((k : Int), (1 : Int)) = (ra, re)) := by
            show _ = _
            have hJ1 : J = 1 := by rw [hJ, if_pos (Or.inr hp)]
            rw [← ht.out, hs, if_neg (by rw [hJ1]; decide), hJ1]; rfl
          clear hs hJ hp g0 ht
          go_wp2_with (go_at_call 52; (with_reducible refine (HX.out _).mono ?_); rintro e w2 ⟨rfl, hb2⟩)
          go_returns
          have := HT.out
          injection this with h1 h2
          subst h1; subst h2
          exact ⟨rfl, HB.out.trans (hb2.mono HB.out.size)⟩
        · rw [hp] at HX
          have HX := Lib.hid HX
          have HT : Hid (told (PitotConf.scan (PitotConf.partJ hosts) (parts.take (k + 1)) (parts.drop (k + 1))) = (ra, re)) := by
            show _ = _
            have hJ1 : J = 0 := by rw [hJ, if_neg (by rw [hp]; simp; omega)]
            rw [← ht.out, hs, if_pos hJ1]
          clear hs hJ hp g0 ht
          go_wp2_with (go_at_call 52; (with_reducible refine (HX.out _).mono ?_); rintro e w2 ⟨rfl, hb2⟩)
          have HB2 := Lib.hid (HB.out.trans (hb2.mono HB.out.size))
          have HC2 := Lib.hid (lies_below HC.out hb2 (lies_lt HC.out))
          clear hb2
          go_roundw
          case rel => exact ⟨k + 1, by omega, by go_num, HT, HC2.out, HB2.out⟩
          case measure => simp [intOf]; omega
    · have e1 : decide ((k : Int) < (m : Int)) = false := decide_eq_false (by omega)
      have e1' : decide (k < m) = false := decide_eq_false hkm
      have HT : Hid (((0 : Int), (0 : Int)) = (ra, re)) := by
        show _ = _
        rw [← ht.out, scan_end _ _ _ (by rw [Hm.out]; omega)]; rfl
      clear ht
      go_wp2
      go_returns
      have := HT.out
      injection this with h1 h2
      subst h1; subst h2
      exact ⟨rfl, HB.out⟩
end Go.Proofs.Ytdphapjeohkbjaa
