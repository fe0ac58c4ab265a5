/- Merged: Rp5, Rp6. -/
import Derived.Test.YtgdjcoodjdckkaaM13
import Derived.Deep.RegionHeld3
set_option linter.unusedVariables false
/- The document's Put: a part too long. -/
set_option maxRecDepth 100000
namespace Go.Proofs.Ytgdjcoodjdckkaa
open Go.RowKit Go.Proofs.PitotIp Go.Maps
open Go.Proofs.PitotReasm (Bg Tb Fine bad first next passed passE put keep)
open Go.Proofs.Ytgdjcoodjdckkaa.Bi (lies_lt lies_cell lies_frozen lies_alloc lies_set)

set_option maxHeartbeats 4000000 in
theorem rput_long_true {base : Nat} {w : World} {rp : Nat} {most : Nat} {wait : Int} {L : List Rb} {now : Int} {d : Nat} (h : RefAt base w rp most wait L now d) (hG : Good most (tbl L now d)) (hmost : most ≤ 64) (hdr : d ≤ 10000000000) (hw0 : 0 ≤ wait) (hw1 : wait ≤ 1125899906842624) (n : Int) (p : Pk) (hw : p.Wf) (hs : p.s.size ≤ 1000000000) (hp : rE now n = 0) (ho : p.off ≠ 0) {l1 l2 : List Rb} {b : Rb} (hL2 : keepB L wait n = l1 ++ b :: l2) (hbk : b.k = p.key hw) (hl1 : ∀ c ∈ l1, c.k ≠ p.key hw) (hj : p.off = ((b.d.length / 8 : Nat) : Int)) (hm : p.m = true) (hbd : bad p.m p.d = false) (hlg : 8200 < b.d.length + p.s.size) : Calls Try.prog 15 #[.pointer (some ⟨rp, 0, none⟩), .int .i64 n, p.rv] w fun e w' => e = .returned (refans p none 11) ∧ RefAt base w' rp most wait (l1 ++ l2) n (d + (L.length - (keepB L wait n).length) + 1) ∧ Fq base w w' := by
  have hb8 : b.d.length % 8 = 0 ∧ b.d.length ≤ 8200 ∧ ∀ c ∈ l2, c.k ≠ p.key hw := by
    have hf := passed_good hG (wait := wait) (show passE (tbl L now d) n = 0 from hp)
    rw [tbl_passed, hL2] at hf
    have hm : b.bg ∈ (tbl (l1 ++ b :: l2) n (d + (L.length - (l1 ++ b :: l2).length))).l := List.mem_map.2 ⟨b, by simp, rfl⟩
    exact ⟨hf.fine.eight _ hm, hf.lens _ hm, place_rest hf.fine hbk⟩
  have hb0 : base ≤ w.heap.size := by obtain ⟨lv, h⟩ := h; exact h.lt.2
  have k1 := ((Below.refl w.heap.size w).alloc (Nat.le_refl _) p.rvC)
  have k2 := k1.alloc k1.size rpz
  have H1 : Hid (RefAt base ((w.alloc p.rvC).alloc rpz) rp most wait L now d) := h.below k2
  have P1 : Hid (((w.alloc p.rvC).alloc rpz).heap[w.heap.size]? = some p.rvC) := lies_alloc (heap_alloc_new w _) _
  have R1 : Hid (((w.alloc p.rvC).alloc rpz).heap[w.heap.size + 1]? = some rpz) := by
    have e := heap_alloc_new (w.alloc p.rvC) rpz
    rw [World.size_alloc] at e
    exact e
  have F1 : Hid (Fq base w ((w.alloc p.rvC).alloc rpz)) := Fq.of k2 hb0
  have Hb : Hid (base ≤ w.heap.size) := hb0
  clear h k1 k2 hb0
  have hlen : L.length ≤ most := by have := hG.room; simpa [tbl] using this
  have htm : ∀ b ∈ L, 0 ≤ b.at_ ∧ b.at_ ≤ now := fun b hb => hG.times b.bg (List.mem_map.2 ⟨b, hb, rfl⟩)
  have HP := Lib.hid (refPass_ok H1.out (by omega) n hp hw0 hw1 hG.now0 htm (by omega))
  have hkl := keepB_len L wait n
  generalize hL2g : (keepB L wait n) = L2 at HP hkl hL2 ⊢
  generalize hD2g : (d + (L.length - L2.length)) = D2 at HP ⊢
  have hD2 : D2 ≤ 10000000064 := by omega
  have hL64 : L2.length ≤ 64 := by omega
  clear hG htm hp hL2g hD2g
  have HFI : Hid (∀ V, RefAt base V rp most wait L2 n D2 → Calls Try.prog 26 #[.pointer (some ⟨rp, 0, none⟩), p.rv] V fun e w' => e = .returned (.int .i64 l1.length) ∧ Below V.heap.size V w') := fun V h => by
    obtain ⟨lv, h⟩ := h
    have := refFind_any h (by omega) p hw l1.length (by rw [hL2]; simp) (fun i hi hl => by
      have e : L2[i] = l1[i] := by simp only [hL2]; rw [List.getElem_append_left hi]
      rw [e]; exact hl1 _ (List.getElem_mem hi)) (fun hl => by
      have e : L2[l1.length] = b := by simp only [hL2]; rw [List.getElem_append_right (Nat.le_refl _)]; simp
      rw [e]; exact hbk)
    rw [if_pos (by rw [hL2]; simp)] at this
    exact this
  obtain ⟨i, Hi⟩ : ∃ i, Hid (l1.length = i) := ⟨_, rfl⟩
  rw [Hi.out] at HFI
  obtain ⟨Z, HZ⟩ : ∃ Z, Hid (Z = b.d.length) := ⟨_, rfl⟩
  obtain ⟨had, Hh⟩ : ∃ x, Hid (x = bl b.d) := ⟨bl b.d, Lib.hid rfl⟩
  have hhs : had.size = Z := by rw [Hh.out, bl_size, HZ.out]
  obtain ⟨nl, Hnl⟩ : ∃ x, Hid (L2.length = x) := ⟨_, rfl⟩
  have hin : i < nl := by rw [← Hnl.out, hL2, ← Hi.out]; simp
  have iInt : (i : Int) < nl := by omega
  have hz8 : Z % 8 = 0 := by rw [HZ.out]; exact hb8.1
  have hz82 : Z ≤ 8200 := by rw [HZ.out]; exact hb8.2.1
  have e80 : ((Z : Int) % 8 != 0) = false := by simp; omega
  have HL2 := Lib.hid hL2
  have HDR : Hid (∀ V, RefAt base V rp most wait L2 n D2 → Calls Try.prog 27 #[.pointer (some ⟨rp, 0, none⟩), .int .i64 i] V fun e w' => e = .returned (.tuple #[]) ∧ RefAt base w' rp most wait (l1 ++ l2) n D2 ∧ Fq base V w') := fun V h => by
    have h2 := h
    rw [HL2.out] at h2
    have := drop_any h2 (by rw [← HL2.out]; exact hL64)
    rw [Hi.out] at this
    exact this
  have HWR := Lib.hid (fun w => wrong_any p w hs)
  obtain ⟨dI, HdI⟩ : ∃ x : Int, Hid (((D2 : Nat) : Int) = x) := ⟨_, rfl⟩
  have hdI : 0 ≤ dI ∧ dI ≤ 10000000064 := by rw [← HdI.out]; omega
  have hnl64 : nl ≤ 64 := by rw [← Hnl.out]; exact hL64
  have HK := Lib.hid (And.intro hbk (And.intro hl1 hb8))
  have ho2 : (p.off == 0) = false := by simpa using ho
  have Ho := Lib.hid ho; clear ho
  clear hbk hl1 hb8 hL2 hz8 hlen
  have eo : (p.off != (Z : Int) / 8) = false := by have := HZ.out; simp; omega
  have el : decide (8200 < (Z : Int) + (p.s.size : Int)) = true := decide_eq_true (by have := HZ.out; omega)
  rw [hbd] at HWR
  have Hj := Lib.hid hj; clear hj
  have Hm := Lib.hid hm; clear hm
  have Hbd := Lib.hid hbd; clear hbd
  have Hlg := Lib.hid hlg; clear hlg
  go_enter Try.func15, Try.ntmps15
  go_upto_region 4 with (first
    | (go_at_call 13; (with_reducible refine (HP.out).mono ?_); rintro e V2 ⟨rfl, hT2, hF2⟩
       (have P2 : Hid (V2.heap[w.heap.size]? = some p.rvC) := fq_41 P1.out hF2)
       (have R2 : Hid (V2.heap[w.heap.size + 1]? = some rpz) := fq_41 R1.out hF2)
       (have F2 : Hid (Fq base w V2) := F1.out.trans hF2)
       (have H2 := Lib.hid hT2)
       (clear hT2 hF2)))
  have x2 : V2.cell? ⟨w.heap.size, 2, none⟩ = some (.int .i64 p.off) := lies_cell P2.out 2
  have x1 : V2.cell? ⟨w.heap.size, 1, none⟩ = some (.bool true) := by rw [← Hm.out]; exact lies_cell P2.out 1
  go_upto_region 6 with (fail)
  clear x1 x2
  obtain ⟨q0, q1, q2, q3, q4, q5, q6, q7⟩ := cells8 P2.out
  go_upto_region 23 with (first
    | (go_at_call 26; (with_reducible refine (HFI.out _ H2.out).mono ?_); rintro e V3 ⟨rfl, hb3⟩
       (have P3 : Hid (V3.heap[w.heap.size]? = some p.rvC) := lies_below P2.out hb3 (lies_lt P2.out))
       (have R3 : Hid (V3.heap[w.heap.size + 1]? = some rpz) := lies_below R2.out hb3 (lies_lt R2.out))
       (have F3 : Hid (Fq base w V3) := F2.out.trans (Fq.of hb3 (by obtain ⟨lv, h⟩ := H2.out; exact h.lt.2)))
       (have H3 : Hid (RefAt base V3 rp most wait L2 n D2) := H2.out.below hb3)
       (clear hb3 q0 q1 q2 q3 q4 q5 q6 q7)
       (have x2 : V3.cell? ⟨w.heap.size, 2, none⟩ = some (.int .i64 p.off) := lies_cell P3.out 2)
       (obtain ⟨o, cap, hT, hR, hbo, hbr⟩ := ref_open H3.out (by rw [Hnl.out]; omega))
       (rw [Hnl.out, HdI.out] at hT)
       (have T3 := Lib.hid hT)
       (have RW3 := Lib.hid hR)
       (have HBO := Lib.hid (And.intro hbo hbr))
       (have hat := hR.at i (by rw [Hnl.out]; exact hin))
       (have hxb : L2[i]'(by rw [Hnl.out]; exact hin) = b := at_place HL2.out Hi.out _)
       (rw [hxb] at hat)
       (obtain ⟨b0, b1, b2, b3, b4, b5, b6, b7, b8, b9⟩ := hat)
       (rw [← Hh.out] at b9)
       (have t0 : V3.cell? ⟨rp, 0, none⟩ = some (.slice (some ⟨o, 0, none⟩) nl cap) := lies_cell hT 0)
       (clear hT hR hbo hbr hxb)))
  clear b0 b1 b2 b3 b4 b5 b6 b7 b8 b9 t0
  obtain ⟨q0, q1, q2, q3, q4, q5, q6, q7⟩ := cells8 P3.out
  go_upto_region 32 with (first
    | (go_at_call 28; (with_reducible refine (HWR.out _).mono ?_); rintro e V4 ⟨rfl, hb4⟩
       (have P4 : Hid (V4.heap[w.heap.size]? = some p.rvC) := lies_below P3.out hb4 (lies_lt P3.out))
       (have R4 : Hid (V4.heap[w.heap.size + 1]? = some rpz) := lies_below R3.out hb4 (lies_lt R3.out))
       (have F4 : Hid (Fq base w V4) := F3.out.trans (Fq.of hb4 (by obtain ⟨lv, h⟩ := H3.out; exact h.lt.2)))
       (have H4 : Hid (RefAt base V4 rp most wait L2 n D2) := H3.out.below hb4)
       (have z7 : V4.cell? ⟨w.heap.size, 7, none⟩ = some (.string p.s) := lies_cell P4.out 7)
       (clear hb4))
    | (go_at_call 27; (with_reducible refine (HDR.out _ H4.out).mono ?_); rintro e V5 ⟨rfl, hT5, hF5⟩
       (have R5 : Hid (V5.heap[w.heap.size + 1]? = some rpz) := fq_41 R4.out hF5)
       (have P5 : Hid (V5.heap[w.heap.size]? = some p.rvC) := fq_41 P4.out hF5)
       (have F5 : Hid (Fq base w V5) := F4.out.trans hF5)
       (obtain ⟨lv5, hT5⟩ := hT5)
       (have H5 := Lib.hid hT5)
       (clear hT5 hF5)
       (have t4 : V5.cell? ⟨rp, 4, none⟩ = some (.int .i64 dI) := by rw [← HdI.out]; exact lies_cell H5.out.tab 4)
       (have f4 := lies_frozen H5.out.tab 4)))
  have H6 : Hid (Ref base (V5.setCell ⟨rp, 4, none⟩ (.int .i64 (dI + 1))) rp most wait (l1 ++ l2) n (D2 + 1) lv5 ∧ Fq base V5 (V5.setCell ⟨rp, 4, none⟩ (.int .i64 (dI + 1)))) := H5.out.set 4 _ (by
    have := lies_set H5.out.tab 4 (.int .i64 (dI + 1))
    rw [this, ← HdI.out]
    rfl)
  have F6 : Hid (Fq base w (V5.setCell ⟨rp, 4, none⟩ (.int .i64 (dI + 1)))) := F5.out.trans H6.out.2
  have LX : Hid ((V5.setCell ⟨rp, 4, none⟩ (.int .i64 (dI + 1))).heap[w.heap.size + 1]? = some rpz) := fq_41 R5.out H6.out.2
  have H6 := Lib.hid H6.out.1
  clear t4 f4
  generalize V5.setCell ⟨rp, 4, none⟩ (.int .i64 (dI + 1)) = V6 at H6 F6 LX ⊢
  obtain ⟨r0, r1, r2, r3, r4, r5, r6, r7⟩ := cells8 LX.out
  have f0 := lies_frozen LX.out 0
  have f1 := lies_frozen LX.out 1
  have f2 := lies_frozen LX.out 2
  have f3 := lies_frozen LX.out 3
  have f4 := lies_frozen LX.out 4
  have f5 := lies_frozen LX.out 5
  have f6 := lies_frozen LX.out 6
  have f7 := lies_frozen LX.out 7
  go_wp2
  (try simp only [Exit.inBlock, Exit.then])
  obtain ⟨k0, k1, k2, k3, k4, k5, k6, k7, _⟩ := read_8 (y0 := .int .i64 0) (y1 := .bool false) (y2 := .int .i64 0) (y3 := .int .i64 0) (y4 := .int .i64 0) (y5 := .string ⟨#[]⟩) (y6 := .string ⟨#[]⟩) (y7 := .string ⟨#[]⟩) LX.out
  refine bodyPost_ret (by simp [results, Try.results15, go_sem, k0, k1, k2, k3, k4, k5, k6, k7]; try rfl) rfl ?_
  exact ⟨rfl, stored_8 ⟨_, H6.out⟩ F6.out Hb.out (by omega) LX.out _ _ _ _ _ _ _ _⟩
set_option maxHeartbeats 4000000 in
theorem rput_long_false {base : Nat} {w : World} {rp : Nat} {most : Nat} {wait : Int} {L : List Rb} {now : Int} {d : Nat} (h : RefAt base w rp most wait L now d) (hG : Good most (tbl L now d)) (hmost : most ≤ 64) (hdr : d ≤ 10000000000) (hw0 : 0 ≤ wait) (hw1 : wait ≤ 1125899906842624) (n : Int) (p : Pk) (hw : p.Wf) (hs : p.s.size ≤ 1000000000) (hp : rE now n = 0) (ho : p.off ≠ 0) {l1 l2 : List Rb} {b : Rb} (hL2 : keepB L wait n = l1 ++ b :: l2) (hbk : b.k = p.key hw) (hl1 : ∀ c ∈ l1, c.k ≠ p.key hw) (hj : p.off = ((b.d.length / 8 : Nat) : Int)) (hm : p.m = false) (hbd : bad p.m p.d = false) (hlg : 8200 < b.d.length + p.s.size) : Calls Try.prog 15 #[.pointer (some ⟨rp, 0, none⟩), .int .i64 n, p.rv] w fun e w' => e = .returned (refans p none 11) ∧ RefAt base w' rp most wait (l1 ++ l2) n (d + (L.length - (keepB L wait n).length) + 1) ∧ Fq base w w' := by
  have hb8 : b.d.length % 8 = 0 ∧ b.d.length ≤ 8200 ∧ ∀ c ∈ l2, c.k ≠ p.key hw := by
    have hf := passed_good hG (wait := wait) (show passE (tbl L now d) n = 0 from hp)
    rw [tbl_passed, hL2] at hf
    have hm : b.bg ∈ (tbl (l1 ++ b :: l2) n (d + (L.length - (l1 ++ b :: l2).length))).l := List.mem_map.2 ⟨b, by simp, rfl⟩
    exact ⟨hf.fine.eight _ hm, hf.lens _ hm, place_rest hf.fine hbk⟩
  have hb0 : base ≤ w.heap.size := by obtain ⟨lv, h⟩ := h; exact h.lt.2
  have k1 := ((Below.refl w.heap.size w).alloc (Nat.le_refl _) p.rvC)
  have k2 := k1.alloc k1.size rpz
  have H1 : Hid (RefAt base ((w.alloc p.rvC).alloc rpz) rp most wait L now d) := h.below k2
  have P1 : Hid (((w.alloc p.rvC).alloc rpz).heap[w.heap.size]? = some p.rvC) := lies_alloc (heap_alloc_new w _) _
  have R1 : Hid (((w.alloc p.rvC).alloc rpz).heap[w.heap.size + 1]? = some rpz) := by
    have e := heap_alloc_new (w.alloc p.rvC) rpz
    rw [World.size_alloc] at e
    exact e
  have F1 : Hid (Fq base w ((w.alloc p.rvC).alloc rpz)) := Fq.of k2 hb0
  have Hb : Hid (base ≤ w.heap.size) := hb0
  clear h k1 k2 hb0
  have hlen : L.length ≤ most := by have := hG.room; simpa [tbl] using this
  have htm : ∀ b ∈ L, 0 ≤ b.at_ ∧ b.at_ ≤ now := fun b hb => hG.times b.bg (List.mem_map.2 ⟨b, hb, rfl⟩)
  have HP := Lib.hid (refPass_ok H1.out (by omega) n hp hw0 hw1 hG.now0 htm (by omega))
  have hkl := keepB_len L wait n
  generalize hL2g : (keepB L wait n) = L2 at HP hkl hL2 ⊢
  generalize hD2g : (d + (L.length - L2.length)) = D2 at HP ⊢
  have hD2 : D2 ≤ 10000000064 := by omega
  have hL64 : L2.length ≤ 64 := by omega
  clear hG htm hp hL2g hD2g
  have HFI : Hid (∀ V, RefAt base V rp most wait L2 n D2 → Calls Try.prog 26 #[.pointer (some ⟨rp, 0, none⟩), p.rv] V fun e w' => e = .returned (.int .i64 l1.length) ∧ Below V.heap.size V w') := fun V h => by
    obtain ⟨lv, h⟩ := h
    have := refFind_any h (by omega) p hw l1.length (by rw [hL2]; simp) (fun i hi hl => by
      have e : L2[i] = l1[i] := by simp only [hL2]; rw [List.getElem_append_left hi]
      rw [e]; exact hl1 _ (List.getElem_mem hi)) (fun hl => by
      have e : L2[l1.length] = b := by simp only [hL2]; rw [List.getElem_append_right (Nat.le_refl _)]; simp
      rw [e]; exact hbk)
    rw [if_pos (by rw [hL2]; simp)] at this
    exact this
  obtain ⟨i, Hi⟩ : ∃ i, Hid (l1.length = i) := ⟨_, rfl⟩
  rw [Hi.out] at HFI
  obtain ⟨Z, HZ⟩ : ∃ Z, Hid (Z = b.d.length) := ⟨_, rfl⟩
  obtain ⟨had, Hh⟩ : ∃ x, Hid (x = bl b.d) := ⟨bl b.d, Lib.hid rfl⟩
  have hhs : had.size = Z := by rw [Hh.out, bl_size, HZ.out]
  obtain ⟨nl, Hnl⟩ : ∃ x, Hid (L2.length = x) := ⟨_, rfl⟩
  have hin : i < nl := by rw [← Hnl.out, hL2, ← Hi.out]; simp
  have iInt : (i : Int) < nl := by omega
  have hz8 : Z % 8 = 0 := by rw [HZ.out]; exact hb8.1
  have hz82 : Z ≤ 8200 := by rw [HZ.out]; exact hb8.2.1
  have e80 : ((Z : Int) % 8 != 0) = false := by simp; omega
  have HL2 := Lib.hid hL2
  have HDR : Hid (∀ V, RefAt base V rp most wait L2 n D2 → Calls Try.prog 27 #[.pointer (some ⟨rp, 0, none⟩), .int .i64 i] V fun e w' => e = .returned (.tuple #[]) ∧ RefAt base w' rp most wait (l1 ++ l2) n D2 ∧ Fq base V w') := fun V h => by
    have h2 := h
    rw [HL2.out] at h2
    have := drop_any h2 (by rw [← HL2.out]; exact hL64)
    rw [Hi.out] at this
    exact this
  have HWR := Lib.hid (fun w => wrong_any p w hs)
  obtain ⟨dI, HdI⟩ : ∃ x : Int, Hid (((D2 : Nat) : Int) = x) := ⟨_, rfl⟩
  have hdI : 0 ≤ dI ∧ dI ≤ 10000000064 := by rw [← HdI.out]; omega
  have hnl64 : nl ≤ 64 := by rw [← Hnl.out]; exact hL64
  have HK := Lib.hid (And.intro hbk (And.intro hl1 hb8))
  have ho2 : (p.off == 0) = false := by simpa using ho
  have Ho := Lib.hid ho; clear ho
  clear hbk hl1 hb8 hL2 hz8 hlen
  have eo : (p.off != (Z : Int) / 8) = false := by have := HZ.out; simp; omega
  have el : decide (8200 < (Z : Int) + (p.s.size : Int)) = true := decide_eq_true (by have := HZ.out; omega)
  rw [hbd] at HWR
  have Hj := Lib.hid hj; clear hj
  have Hm := Lib.hid hm; clear hm
  have Hbd := Lib.hid hbd; clear hbd
  have Hlg := Lib.hid hlg; clear hlg
  go_enter Try.func15, Try.ntmps15
  go_upto_region 4 with (first
    | (go_at_call 13; (with_reducible refine (HP.out).mono ?_); rintro e V2 ⟨rfl, hT2, hF2⟩
       (have P2 : Hid (V2.heap[w.heap.size]? = some p.rvC) := fq_41 P1.out hF2)
       (have R2 : Hid (V2.heap[w.heap.size + 1]? = some rpz) := fq_41 R1.out hF2)
       (have F2 : Hid (Fq base w V2) := F1.out.trans hF2)
       (have H2 := Lib.hid hT2)
       (clear hT2 hF2)))
  have x2 : V2.cell? ⟨w.heap.size, 2, none⟩ = some (.int .i64 p.off) := lies_cell P2.out 2
  have x1 : V2.cell? ⟨w.heap.size, 1, none⟩ = some (.bool false) := by rw [← Hm.out]; exact lies_cell P2.out 1
  go_upto_region 6 with (fail)
  clear x1 x2
  obtain ⟨q0, q1, q2, q3, q4, q5, q6, q7⟩ := cells8 P2.out
  go_upto_region 23 with (first
    | (go_at_call 26; (with_reducible refine (HFI.out _ H2.out).mono ?_); rintro e V3 ⟨rfl, hb3⟩
       (have P3 : Hid (V3.heap[w.heap.size]? = some p.rvC) := lies_below P2.out hb3 (lies_lt P2.out))
       (have R3 : Hid (V3.heap[w.heap.size + 1]? = some rpz) := lies_below R2.out hb3 (lies_lt R2.out))
       (have F3 : Hid (Fq base w V3) := F2.out.trans (Fq.of hb3 (by obtain ⟨lv, h⟩ := H2.out; exact h.lt.2)))
       (have H3 : Hid (RefAt base V3 rp most wait L2 n D2) := H2.out.below hb3)
       (clear hb3 q0 q1 q2 q3 q4 q5 q6 q7)
       (have x2 : V3.cell? ⟨w.heap.size, 2, none⟩ = some (.int .i64 p.off) := lies_cell P3.out 2)
       (obtain ⟨o, cap, hT, hR, hbo, hbr⟩ := ref_open H3.out (by rw [Hnl.out]; omega))
       (rw [Hnl.out, HdI.out] at hT)
       (have T3 := Lib.hid hT)
       (have RW3 := Lib.hid hR)
       (have HBO := Lib.hid (And.intro hbo hbr))
       (have hat := hR.at i (by rw [Hnl.out]; exact hin))
       (have hxb : L2[i]'(by rw [Hnl.out]; exact hin) = b := at_place HL2.out Hi.out _)
       (rw [hxb] at hat)
       (obtain ⟨b0, b1, b2, b3, b4, b5, b6, b7, b8, b9⟩ := hat)
       (rw [← Hh.out] at b9)
       (have t0 : V3.cell? ⟨rp, 0, none⟩ = some (.slice (some ⟨o, 0, none⟩) nl cap) := lies_cell hT 0)
       (clear hT hR hbo hbr hxb)))
  clear b0 b1 b2 b3 b4 b5 b6 b7 b8 b9 t0
  obtain ⟨q0, q1, q2, q3, q4, q5, q6, q7⟩ := cells8 P3.out
  go_upto_region 32 with (first
    | (go_at_call 28; (with_reducible refine (HWR.out _).mono ?_); rintro e V4 ⟨rfl, hb4⟩
       (have P4 : Hid (V4.heap[w.heap.size]? = some p.rvC) := lies_below P3.out hb4 (lies_lt P3.out))
       (have R4 : Hid (V4.heap[w.heap.size + 1]? = some rpz) := lies_below R3.out hb4 (lies_lt R3.out))
       (have F4 : Hid (Fq base w V4) := F3.out.trans (Fq.of hb4 (by obtain ⟨lv, h⟩ := H3.out; exact h.lt.2)))
       (have H4 : Hid (RefAt base V4 rp most wait L2 n D2) := H3.out.below hb4)
       (have z7 : V4.cell? ⟨w.heap.size, 7, none⟩ = some (.string p.s) := lies_cell P4.out 7)
       (clear hb4))
    | (go_at_call 27; (with_reducible refine (HDR.out _ H4.out).mono ?_); rintro e V5 ⟨rfl, hT5, hF5⟩
       (have R5 : Hid (V5.heap[w.heap.size + 1]? = some rpz) := fq_41 R4.out hF5)
       (have P5 : Hid (V5.heap[w.heap.size]? = some p.rvC) := fq_41 P4.out hF5)
       (have F5 : Hid (Fq base w V5) := F4.out.trans hF5)
       (obtain ⟨lv5, hT5⟩ := hT5)
       (have H5 := Lib.hid hT5)
       (clear hT5 hF5)
       (have t4 : V5.cell? ⟨rp, 4, none⟩ = some (.int .i64 dI) := by rw [← HdI.out]; exact lies_cell H5.out.tab 4)
       (have f4 := lies_frozen H5.out.tab 4)))
  have H6 : Hid (Ref base (V5.setCell ⟨rp, 4, none⟩ (.int .i64 (dI + 1))) rp most wait (l1 ++ l2) n (D2 + 1) lv5 ∧ Fq base V5 (V5.setCell ⟨rp, 4, none⟩ (.int .i64 (dI + 1)))) := H5.out.set 4 _ (by
    have := lies_set H5.out.tab 4 (.int .i64 (dI + 1))
    rw [this, ← HdI.out]
    rfl)
  have F6 : Hid (Fq base w (V5.setCell ⟨rp, 4, none⟩ (.int .i64 (dI + 1)))) := F5.out.trans H6.out.2
  have LX : Hid ((V5.setCell ⟨rp, 4, none⟩ (.int .i64 (dI + 1))).heap[w.heap.size + 1]? = some rpz) := fq_41 R5.out H6.out.2
  have H6 := Lib.hid H6.out.1
  clear t4 f4
  generalize V5.setCell ⟨rp, 4, none⟩ (.int .i64 (dI + 1)) = V6 at H6 F6 LX ⊢
  obtain ⟨r0, r1, r2, r3, r4, r5, r6, r7⟩ := cells8 LX.out
  have f0 := lies_frozen LX.out 0
  have f1 := lies_frozen LX.out 1
  have f2 := lies_frozen LX.out 2
  have f3 := lies_frozen LX.out 3
  have f4 := lies_frozen LX.out 4
  have f5 := lies_frozen LX.out 5
  have f6 := lies_frozen LX.out 6
  have f7 := lies_frozen LX.out 7
  go_wp2
  (try simp only [Exit.inBlock, Exit.then])
  obtain ⟨k0, k1, k2, k3, k4, k5, k6, k7, _⟩ := read_8 (y0 := .int .i64 0) (y1 := .bool false) (y2 := .int .i64 0) (y3 := .int .i64 0) (y4 := .int .i64 0) (y5 := .string ⟨#[]⟩) (y6 := .string ⟨#[]⟩) (y7 := .string ⟨#[]⟩) LX.out
  refine bodyPost_ret (by simp [results, Try.results15, go_sem, k0, k1, k2, k3, k4, k5, k6, k7]; try rfl) rfl ?_
  exact ⟨rfl, stored_8 ⟨_, H6.out⟩ F6.out Hb.out (by omega) LX.out _ _ _ _ _ _ _ _⟩
end Go.Proofs.Ytgdjcoodjdckkaa
/- The document's Put: a part behind which others come. -/
set_option maxRecDepth 100000
namespace Go.Proofs.Ytgdjcoodjdckkaa
open Go.RowKit Go.Proofs.PitotIp Go.Maps
open Go.Proofs.PitotReasm (Bg Tb Fine bad first next passed passE put keep)
open Go.Proofs.Ytgdjcoodjdckkaa.Bi (lies_lt lies_cell lies_frozen lies_alloc lies_set)

set_option maxHeartbeats 4000000 in
theorem rput_more {base : Nat} {w : World} {rp : Nat} {most : Nat} {wait : Int} {L : List Rb} {now : Int} {d : Nat} (h : RefAt base w rp most wait L now d) (hG : Good most (tbl L now d)) (hmost : most ≤ 64) (hdr : d ≤ 10000000000) (hw0 : 0 ≤ wait) (hw1 : wait ≤ 1125899906842624) (n : Int) (p : Pk) (hw : p.Wf) (hs : p.s.size ≤ 1000000000) (hp : rE now n = 0) (ho : p.off ≠ 0) {l1 l2 : List Rb} {b : Rb} (hL2 : keepB L wait n = l1 ++ b :: l2) (hbk : b.k = p.key hw) (hl1 : ∀ c ∈ l1, c.k ≠ p.key hw) (hj : p.off = ((b.d.length / 8 : Nat) : Int)) (hm : p.m = true) (hbd : bad p.m p.d = false) (hlg : b.d.length + p.s.size ≤ 8200) : Calls Try.prog 15 #[.pointer (some ⟨rp, 0, none⟩), .int .i64 n, p.rv] w fun e w' => e = .returned (refans p none 0) ∧ RefAt base w' rp most wait (l1 ++ b.add p.d :: l2) n (d + (L.length - (keepB L wait n).length)) ∧ Fq base w w' := by
  have hb8 : b.d.length % 8 = 0 ∧ b.d.length ≤ 8200 ∧ ∀ c ∈ l2, c.k ≠ p.key hw := by
    have hf := passed_good hG (wait := wait) (show passE (tbl L now d) n = 0 from hp)
    rw [tbl_passed, hL2] at hf
    have hm : b.bg ∈ (tbl (l1 ++ b :: l2) n (d + (L.length - (l1 ++ b :: l2).length))).l := List.mem_map.2 ⟨b, by simp, rfl⟩
    exact ⟨hf.fine.eight _ hm, hf.lens _ hm, place_rest hf.fine hbk⟩
  have hb0 : base ≤ w.heap.size := by obtain ⟨lv, h⟩ := h; exact h.lt.2
  have k1 := ((Below.refl w.heap.size w).alloc (Nat.le_refl _) p.rvC)
  have k2 := k1.alloc k1.size rpz
  have H1 : Hid (RefAt base ((w.alloc p.rvC).alloc rpz) rp most wait L now d) := h.below k2
  have P1 : Hid (((w.alloc p.rvC).alloc rpz).heap[w.heap.size]? = some p.rvC) := lies_alloc (heap_alloc_new w _) _
  have R1 : Hid (((w.alloc p.rvC).alloc rpz).heap[w.heap.size + 1]? = some rpz) := by
    have e := heap_alloc_new (w.alloc p.rvC) rpz
    rw [World.size_alloc] at e
    exact e
  have F1 : Hid (Fq base w ((w.alloc p.rvC).alloc rpz)) := Fq.of k2 hb0
  have Hb : Hid (base ≤ w.heap.size) := hb0
  clear h k1 k2 hb0
  have hlen : L.length ≤ most := by have := hG.room; simpa [tbl] using this
  have htm : ∀ b ∈ L, 0 ≤ b.at_ ∧ b.at_ ≤ now := fun b hb => hG.times b.bg (List.mem_map.2 ⟨b, hb, rfl⟩)
  have HP := Lib.hid (refPass_ok H1.out (by omega) n hp hw0 hw1 hG.now0 htm (by omega))
  have hkl := keepB_len L wait n
  generalize hL2g : (keepB L wait n) = L2 at HP hkl hL2 ⊢
  generalize hD2g : (d + (L.length - L2.length)) = D2 at HP ⊢
  have hD2 : D2 ≤ 10000000064 := by omega
  have hL64 : L2.length ≤ 64 := by omega
  clear hG htm hp hL2g hD2g
  have HFI : Hid (∀ V, RefAt base V rp most wait L2 n D2 → Calls Try.prog 26 #[.pointer (some ⟨rp, 0, none⟩), p.rv] V fun e w' => e = .returned (.int .i64 l1.length) ∧ Below V.heap.size V w') := fun V h => by
    obtain ⟨lv, h⟩ := h
    have := refFind_any h (by omega) p hw l1.length (by rw [hL2]; simp) (fun i hi hl => by
      have e : L2[i] = l1[i] := by simp only [hL2]; rw [List.getElem_append_left hi]
      rw [e]; exact hl1 _ (List.getElem_mem hi)) (fun hl => by
      have e : L2[l1.length] = b := by simp only [hL2]; rw [List.getElem_append_right (Nat.le_refl _)]; simp
      rw [e]; exact hbk)
    rw [if_pos (by rw [hL2]; simp)] at this
    exact this
  obtain ⟨i, Hi⟩ : ∃ i, Hid (l1.length = i) := ⟨_, rfl⟩
  rw [Hi.out] at HFI
  obtain ⟨Z, HZ⟩ : ∃ Z, Hid (Z = b.d.length) := ⟨_, rfl⟩
  obtain ⟨had, Hh⟩ : ∃ x, Hid (x = bl b.d) := ⟨bl b.d, Lib.hid rfl⟩
  have hhs : had.size = Z := by rw [Hh.out, bl_size, HZ.out]
  obtain ⟨nl, Hnl⟩ : ∃ x, Hid (L2.length = x) := ⟨_, rfl⟩
  have hin : i < nl := by rw [← Hnl.out, hL2, ← Hi.out]; simp
  have iInt : (i : Int) < nl := by omega
  have hz8 : Z % 8 = 0 := by rw [HZ.out]; exact hb8.1
  have hz82 : Z ≤ 8200 := by rw [HZ.out]; exact hb8.2.1
  have e80 : ((Z : Int) % 8 != 0) = false := by simp; omega
  have HL2 := Lib.hid hL2
  have HDR : Hid (∀ V, RefAt base V rp most wait L2 n D2 → Calls Try.prog 27 #[.pointer (some ⟨rp, 0, none⟩), .int .i64 i] V fun e w' => e = .returned (.tuple #[]) ∧ RefAt base w' rp most wait (l1 ++ l2) n D2 ∧ Fq base V w') := fun V h => by
    have h2 := h
    rw [HL2.out] at h2
    have := drop_any h2 (by rw [← HL2.out]; exact hL64)
    rw [Hi.out] at this
    exact this
  have HWR := Lib.hid (fun w => wrong_any p w hs)
  obtain ⟨dI, HdI⟩ : ∃ x : Int, Hid (((D2 : Nat) : Int) = x) := ⟨_, rfl⟩
  have hdI : 0 ≤ dI ∧ dI ≤ 10000000064 := by rw [← HdI.out]; omega
  have hnl64 : nl ≤ 64 := by rw [← Hnl.out]; exact hL64
  have HK := Lib.hid (And.intro hbk (And.intro hl1 hb8))
  have ho2 : (p.off == 0) = false := by simpa using ho
  have Ho := Lib.hid ho; clear ho
  clear hbk hl1 hb8 hL2 hz8 hlen
  have eo : (p.off != (Z : Int) / 8) = false := by have := HZ.out; simp; omega
  have el : decide (8200 < (Z : Int) + (p.s.size : Int)) = false := decide_eq_false (by have := HZ.out; omega)
  have hzs : Z + p.s.size ≤ 8200 := by rw [HZ.out]; exact hlg
  have hsum : ¬ 9223372036854775807 < Z + p.s.size := by omega
  rw [hbd] at HWR
  have Hj := Lib.hid hj; clear hj
  have Hm := Lib.hid hm; clear hm
  have Hbd := Lib.hid hbd; clear hbd
  have Hlg := Lib.hid hlg; clear hlg
  obtain ⟨pb, Hpb⟩ : ∃ pb, Hid (w.heap.size = pb) := ⟨_, rfl⟩
  go_enter Try.func15, Try.ntmps15
  go_upto_region 4 with (first
    | (go_at_call 13; (with_reducible refine (HP.out).mono ?_); rintro e V2 ⟨rfl, hT2, hF2⟩
       (have P2 : Hid (V2.heap[w.heap.size]? = some p.rvC) := fq_41 P1.out hF2)
       (have R2 : Hid (V2.heap[w.heap.size + 1]? = some rpz) := fq_41 R1.out hF2)
       (have F2 : Hid (Fq base w V2) := F1.out.trans hF2)
       (have H2 := Lib.hid hT2)
       (clear hT2 hF2)))
  have x2 : V2.cell? ⟨w.heap.size, 2, none⟩ = some (.int .i64 p.off) := lies_cell P2.out 2
  have x1 : V2.cell? ⟨w.heap.size, 1, none⟩ = some (.bool true) := by rw [← Hm.out]; exact lies_cell P2.out 1
  go_upto_region 6 with (fail)
  clear x1 x2
  obtain ⟨q0, q1, q2, q3, q4, q5, q6, q7⟩ := cells8 P2.out
  go_upto_region 23 with (first
    | (go_at_call 26; (with_reducible refine (HFI.out _ H2.out).mono ?_); rintro e V3 ⟨rfl, hb3⟩
       (have P3 : Hid (V3.heap[w.heap.size]? = some p.rvC) := lies_below P2.out hb3 (lies_lt P2.out))
       (have R3 : Hid (V3.heap[w.heap.size + 1]? = some rpz) := lies_below R2.out hb3 (lies_lt R2.out))
       (have F3 : Hid (Fq base w V3) := F2.out.trans (Fq.of hb3 (by obtain ⟨lv, h⟩ := H2.out; exact h.lt.2)))
       (have H3 : Hid (RefAt base V3 rp most wait L2 n D2) := H2.out.below hb3)
       (clear hb3 q0 q1 q2 q3 q4 q5 q6 q7)
       (have x2 : V3.cell? ⟨w.heap.size, 2, none⟩ = some (.int .i64 p.off) := lies_cell P3.out 2)
       (obtain ⟨o, cap, hT, hR, hbo, hbr⟩ := ref_open H3.out (by rw [Hnl.out]; omega))
       (rw [Hnl.out, HdI.out] at hT)
       (have T3 := Lib.hid hT)
       (have RW3 := Lib.hid hR)
       (have HBO := Lib.hid (And.intro hbo hbr))
       (have hat := hR.at i (by rw [Hnl.out]; exact hin))
       (have hxb : L2[i]'(by rw [Hnl.out]; exact hin) = b := at_place HL2.out Hi.out _)
       (rw [hxb] at hat)
       (obtain ⟨b0, b1, b2, b3, b4, b5, b6, b7, b8, b9⟩ := hat)
       (rw [← Hh.out] at b9)
       (have t0 : V3.cell? ⟨rp, 0, none⟩ = some (.slice (some ⟨o, 0, none⟩) nl cap) := lies_cell hT 0)
       (clear hT hR hbo hbr hxb)))
  clear b0 b1 b2 b3 b4 b5 b6 b7 b8 b9 t0
  obtain ⟨q0, q1, q2, q3, q4, q5, q6, q7⟩ := cells8 P3.out
  go_upto_region 33 with (first
    | (go_at_call 28; (with_reducible refine (HWR.out _).mono ?_); rintro e V4 ⟨rfl, hb4⟩
       (have P4 : Hid (V4.heap[w.heap.size]? = some p.rvC) := lies_below P3.out hb4 (lies_lt P3.out))
       (have R4 : Hid (V4.heap[w.heap.size + 1]? = some rpz) := lies_below R3.out hb4 (lies_lt R3.out))
       (have F4 : Hid (Fq base w V4) := F3.out.trans (Fq.of hb4 (by obtain ⟨lv, h⟩ := H3.out; exact h.lt.2)))
       (have H4 : Hid (RefAt base V4 rp most wait L2 n D2) := H3.out.below hb4)
       (have z7 : V4.cell? ⟨w.heap.size, 7, none⟩ = some (.string p.s) := lies_cell P4.out 7)
       (have T4 : Hid (V4.heap[rp]? = some (refC (.slice (some ⟨o, 0, none⟩) nl cap) most wait n dI)) := lies_below T3.out hb4 (lies_lt T3.out))
       (have RW4 := Lib.hid (RW3.out.below hb4 RW3.out.lt))
       (clear hb4)))
  clear q0 q1 q2 q3 q4 q5 q6 q7 x2 z7 eo el
  simp only [Hpb.out] at P4 R4 ⊢
  go_upto_region 33 with (fail)
  refine wp_region_held_drew (S := fun w' => w'.heap[rp]? = some (refC (.slice (some ⟨o, 0, none⟩) nl cap) most wait n dI) ∧ w'.heap[pb]? = some p.rvC) (by kernel_rfl) ?_ (fun hHeld => ?_)
  · exact ⟨T4.out, P4.out⟩
  refine wpAnyH_take (i := 0) (oi := { dst := some 128, op := Go.Op.move (Go.Operand.tmp 0), type := 27, pos := "ref.go:124", after := #[], guard := none }) (v := ?_) rfl (by kernel_rfl) (by kernel_rfl) (by kernel_rfl) (fun _ _ _ h => h) (Or.inl ⟨by rfl, ?_⟩) (by assumption) ?_
  rotate_left
  focus ((intro w hSw; (try dsimp only at hSw); clear hSw; go_simp) <;> (with_reducible rfl))
  try simp only [Act.put, List.setIfInBounds_toArray, List.set_cons_zero, List.set_cons_succ]
  refine wpAnyH_take (i := 1) (oi := { dst := some 129, op := Go.Op.nilCheck (Go.Operand.tmp 128), type := 0, pos := "ref.go:124", after := #[{ on := 0, ground := Go.Ground.data }], guard := none }) (v := ?_) rfl (by kernel_rfl) (by kernel_rfl) (by kernel_rfl) (fun _ _ _ h => h) (Or.inl ⟨by rfl, ?_⟩) (by assumption) ?_
  rotate_left
  focus ((intro w hSw; (try dsimp only at hSw); clear hSw; go_simp) <;> (with_reducible rfl))
  try simp only [Act.put, List.setIfInBounds_toArray, List.set_cons_zero, List.set_cons_succ]
  refine wpAnyH_take (i := 2) (oi := { dst := some 130, op := Go.Op.fieldAddr 49 (Go.Operand.tmp 129) 0, type := 0, pos := "ref.go:124", after := #[{ on := 1, ground := Go.Ground.data }], guard := none }) (v := ?_) rfl (by kernel_rfl) (by kernel_rfl) (by kernel_rfl) (fun _ _ _ h => h) (Or.inl ⟨by rfl, ?_⟩) (by assumption) ?_
  rotate_left
  focus ((intro w hSw; (try dsimp only at hSw); clear hSw; go_simp) <;> (with_reducible rfl))
  try simp only [Act.put, List.setIfInBounds_toArray, List.set_cons_zero, List.set_cons_succ]
  refine wpAnyH_take (i := 3) (oi := { dst := some 131, op := Go.Op.load 47 (Go.Operand.tmp 130), type := 47, pos := "ref.go:124", after := #[{ on := 2, ground := Go.Ground.data }], guard := none }) (v := ?_) rfl (by kernel_rfl) (by kernel_rfl) (by kernel_rfl) (fun _ _ _ h => h) (Or.inl ⟨by rfl, ?_⟩) (by assumption) ?_
  rotate_left
  focus ((intro w hSw; (try dsimp only at hSw); have hc : w.cell? ⟨rp, 0, none⟩ = some (.slice (some ⟨o, 0, none⟩) nl cap) := lies_cell hSw.1 0; clear hSw; go_simp) <;> (with_reducible rfl))
  try simp only [Act.put, List.setIfInBounds_toArray, List.set_cons_zero, List.set_cons_succ]
  refine wpAnyH_take (i := 4) (oi := { dst := some 132, op := Go.Op.move (Go.Operand.tmp 10), type := 3, pos := "ref.go:124", after := #[], guard := none }) (v := ?_) rfl (by kernel_rfl) (by kernel_rfl) (by kernel_rfl) (fun _ _ _ h => h) (Or.inl ⟨by rfl, ?_⟩) (by assumption) ?_
  rotate_left
  focus ((intro w hSw; (try dsimp only at hSw); clear hSw; go_simp) <;> (with_reducible rfl))
  try simp only [Act.put, List.setIfInBounds_toArray, List.set_cons_zero, List.set_cons_succ]
  refine wpAnyH_take (i := 5) (oi := { dst := some 133, op := Go.Op.move (Go.Operand.tmp 11), type := 9, pos := "ref.go:124", after := #[], guard := none }) (v := ?_) rfl (by kernel_rfl) (by kernel_rfl) (by kernel_rfl) (fun _ _ _ h => h) (Or.inl ⟨by rfl, ?_⟩) (by assumption) ?_
  rotate_left
  focus ((intro w hSw; (try dsimp only at hSw); clear hSw; go_simp) <;> (with_reducible rfl))
  try simp only [Act.put, List.setIfInBounds_toArray, List.set_cons_zero, List.set_cons_succ]
  refine wpAnyH_take (i := 6) (oi := { dst := some 134, op := Go.Op.fieldAddr 41 (Go.Operand.tmp 5) 7, type := 0, pos := "ref.go:124", after := #[], guard := none }) (v := ?_) rfl (by kernel_rfl) (by kernel_rfl) (by kernel_rfl) (fun _ _ _ h => h) (Or.inl ⟨by rfl, ?_⟩) (by assumption) ?_
  rotate_left
  focus ((intro w hSw; (try dsimp only at hSw); clear hSw; go_simp) <;> (with_reducible rfl))
  try simp only [Act.put, List.setIfInBounds_toArray, List.set_cons_zero, List.set_cons_succ]
  refine wpAnyH_take (i := 7) (oi := { dst := some 135, op := Go.Op.load 9 (Go.Operand.tmp 134), type := 9, pos := "ref.go:124", after := #[{ on := 6, ground := Go.Ground.data }], guard := none }) (v := ?_) rfl (by kernel_rfl) (by kernel_rfl) (by kernel_rfl) (fun _ _ _ h => h) (Or.inl ⟨by rfl, ?_⟩) (by assumption) ?_
  rotate_left
  focus ((intro w hSw; (try dsimp only at hSw); have hc : w.cell? ⟨pb, 7, none⟩ = some (.string p.s) := lies_cell hSw.2 7; clear hSw; go_simp) <;> (with_reducible rfl))
  try simp only [Act.put, List.setIfInBounds_toArray, List.set_cons_zero, List.set_cons_succ]
  refine wpAnyH_take (i := 8) (oi := { dst := some 136, op := Go.Op.binOp Go.BinOp.add 9 (Go.Operand.tmp 133) (Go.Operand.tmp 135) 9, type := 9, pos := "ref.go:124", after := #[{ on := 5, ground := Go.Ground.data }, { on := 7, ground := Go.Ground.data }], guard := none }) (v := ?_) rfl (by kernel_rfl) (by kernel_rfl) (by kernel_rfl) (fun _ _ _ h => h) (Or.inl ⟨by rfl, ?_⟩) (by assumption) ?_
  rotate_left
  focus ((intro w hSw; (try dsimp only at hSw); clear hSw; go_simp) <;> (with_reducible rfl))
  try simp only [Act.put, List.setIfInBounds_toArray, List.set_cons_zero, List.set_cons_succ]
  refine wpAnyH_take (i := 9) (oi := { dst := some 137, op := Go.Op.indexAddr 47 (Go.Operand.tmp 131) (Go.Operand.tmp 132), type := 0, pos := "ref.go:124", after := #[{ on := 3, ground := Go.Ground.data }, { on := 4, ground := Go.Ground.data }, { on := 0, ground := Go.Ground.phase }, { on := 1, ground := Go.Ground.phase }, { on := 2, ground := Go.Ground.phase }, { on := 3, ground := Go.Ground.phase }, { on := 4, ground := Go.Ground.phase }, { on := 5, ground := Go.Ground.phase }, { on := 6, ground := Go.Ground.phase }, { on := 7, ground := Go.Ground.phase }, { on := 8, ground := Go.Ground.phase }], guard := none }) (v := ?_) rfl (by kernel_rfl) (by kernel_rfl) (by kernel_rfl) (fun _ _ _ h => h) (Or.inl ⟨by rfl, ?_⟩) (by assumption) ?_
  rotate_left
  focus ((intro w hSw; (try dsimp only at hSw); clear hSw; go_simp) <;> (with_reducible rfl))
  try simp only [Act.put, List.setIfInBounds_toArray, List.set_cons_zero, List.set_cons_succ]
  refine wpAnyH_take (i := 10) (oi := { dst := some 138, op := Go.Op.fieldAddr 55 (Go.Operand.tmp 137) 2, type := 0, pos := "ref.go:124", after := #[{ on := 9, ground := Go.Ground.data }, { on := 0, ground := Go.Ground.phase }, { on := 1, ground := Go.Ground.phase }, { on := 2, ground := Go.Ground.phase }, { on := 3, ground := Go.Ground.phase }, { on := 4, ground := Go.Ground.phase }, { on := 5, ground := Go.Ground.phase }, { on := 6, ground := Go.Ground.phase }, { on := 7, ground := Go.Ground.phase }, { on := 8, ground := Go.Ground.phase }], guard := none }) (v := ?_) rfl (by kernel_rfl) (by kernel_rfl) (by kernel_rfl) (fun _ _ _ h => h) (Or.inl ⟨by rfl, ?_⟩) (by assumption) ?_
  rotate_left
  focus ((intro w hSw; (try dsimp only at hSw); clear hSw; go_simp) <;> (with_reducible rfl))
  try simp only [Act.put, List.setIfInBounds_toArray, List.set_cons_zero, List.set_cons_succ]
  refine wpAnyH_ready (rs := [11]) (by kernel_rfl) (by simp) ?_
  refine AllReadyH.cons (o := { dst := none, op := Go.Op.store 9 (Go.Operand.tmp 138) (Go.Operand.tmp 136), type := 0, pos := "ref.go:124", after := #[{ on := 10, ground := Go.Ground.data }, { on := 8, ground := Go.Ground.data }, { on := 0, ground := Go.Ground.phase }, { on := 1, ground := Go.Ground.phase }, { on := 2, ground := Go.Ground.phase }, { on := 3, ground := Go.Ground.phase }, { on := 4, ground := Go.Ground.phase }, { on := 5, ground := Go.Ground.phase }, { on := 6, ground := Go.Ground.phase }, { on := 7, ground := Go.Ground.phase }, { on := 8, ground := Go.Ground.phase }], guard := none }) rfl (fun K hK => ?_) AllReadyH.nil
  have hth := (RowB.there (w := V4) RW4.out i (by rw [Hnl.out]; exact hin) 9 (by omega))
  have hat := (RowB.at (w := V4) RW4.out i (by rw [Hnl.out]; exact hin))
  rw [at_place HL2.out Hi.out _] at hat
  have hs9 : V4.drew.cell? ⟨o, i * 10 + 9, none⟩ = some (.string (bl b.d)) := hat.2.2.2.2.2.2.2.2.2
  have hf9 : V4.drew.frozen? ⟨o, i * 10 + 9, none⟩ = false := hth.2
  clear hth hat
  go_simp
  clear hs9 hf9
  refine hK.out _ _ ?_ (fun hHeld => ?_)
  · exact by obtain ⟨cur, hc, _⟩ := RW4.out; exact ⟨set_kind (W := V4) T4.out hc (by decide) _ _, set_kind (W := V4) P4.out hc (by decide) _ _⟩
  clear hK K
  try simp only [Act.put, List.setIfInBounds_toArray, List.set_cons_zero, List.set_cons_succ]
  refine wpAnyH_done (by kernel_rfl) ?_ _
  clear hHeld
  have T5 : Hid ((V4.setCell ⟨o, i * 10 + 9, none⟩ (.string (had ++ p.s))).drew.heap[rp]? = some (refC (.slice (some ⟨o, 0, none⟩) nl cap) most wait n dI)) := by obtain ⟨cur, hc, _⟩ := RW4.out; exact set_kind (W := V4) T4.out hc (by decide) _ _
  have P5 : Hid ((V4.setCell ⟨o, i * 10 + 9, none⟩ (.string (had ++ p.s))).drew.heap[pb]? = some p.rvC) := by obtain ⟨cur, hc, _⟩ := RW4.out; exact set_kind (W := V4) P4.out hc (by decide) _ _
  have R5 : Hid ((V4.setCell ⟨o, i * 10 + 9, none⟩ (.string (had ++ p.s))).drew.heap[pb + 1]? = some rpz) := by obtain ⟨cur, hc, _⟩ := RW4.out; exact set_kind (W := V4) R4.out hc (by decide) _ _
  have F5 : Hid (Fq base w (V4.setCell ⟨o, i * 10 + 9, none⟩ (.string (had ++ p.s))).drew) := by
    have hbs : base ≤ V4.heap.size := by obtain ⟨lv, h⟩ := H4.out; exact h.lt.2
    have G : Fq base V4 (V4.setCell ⟨o, i * 10 + 9, none⟩ (.string (had ++ p.s))) := by
      obtain ⟨cur, hc, _⟩ := RW4.out
      exact Fq.grown (Bi.grown_set o _ _) HBO.out.1 hbs hc (.inr rfl)
    exact (F4.out.trans G).drew
  have H5 : Hid (RefAt base (V4.setCell ⟨o, i * 10 + 9, none⟩ (.string (had ++ p.s))).drew rp most wait (l1 ++ b.add p.d :: l2) n D2) := by
    have e1 : had ++ p.s = bl (b.d ++ p.d) := by rw [Hh.out]; exact bl_add _ _
    have e2 : (l1 ++ b.add p.d :: l2).length = nl := by rw [← Hnl.out, HL2.out]; simp
    have hr := RW4.out
    rw [HL2.out] at hr
    have h9 := hr.set9 p.d
    rw [Hi.out, ← e1] at h9
    have ht := T5.out
    rw [← e2, ← HdI.out] at ht
    exact ref_shut HBO.out.2 HBO.out.1 ht h9
  generalize (V4.setCell ⟨o, i * 10 + 9, none⟩ (.string (had ++ p.s))).drew = V5 at T5 P5 R5 F5 H5 ⊢
  clear T4 P4 R4 F4 H4 RW4 T3 P3 R3 F3 H3 RW3
  have y1 : V5.cell? ⟨pb, 1, none⟩ = some (.bool true) := by rw [← Hm.out]; exact lies_cell P5.out 1
  go_upto_region 35 with (fail)
  clear y1
  have LX : Hid (V5.heap[pb + 1]? = some rpz) := R5
  obtain ⟨r0, r1, r2, r3, r4, r5, r6, r7⟩ := cells8 LX.out
  have f0 := lies_frozen LX.out 0
  have f1 := lies_frozen LX.out 1
  have f2 := lies_frozen LX.out 2
  have f3 := lies_frozen LX.out 3
  have f4 := lies_frozen LX.out 4
  have f5 := lies_frozen LX.out 5
  have f6 := lies_frozen LX.out 6
  have f7 := lies_frozen LX.out 7
  go_wp2
  (try simp only [Exit.inBlock, Exit.then])
  obtain ⟨k0, k1, k2, k3, k4, k5, k6, k7, _⟩ := read_8 (y0 := .int .i64 0) (y1 := .bool false) (y2 := .int .i64 0) (y3 := .int .i64 0) (y4 := .int .i64 0) (y5 := .string ⟨#[]⟩) (y6 := .string ⟨#[]⟩) (y7 := .string ⟨#[]⟩) LX.out
  refine bodyPost_ret (by simp [results, Try.results15, go_sem, k0, k1, k2, k3, k4, k5, k6, k7]; try rfl) rfl ?_
  exact ⟨rfl, stored_8 H5.out F5.out Hb.out (by rw [Hpb.out]; omega) LX.out _ _ _ _ _ _ _ _⟩
end Go.Proofs.Ytgdjcoodjdckkaa
