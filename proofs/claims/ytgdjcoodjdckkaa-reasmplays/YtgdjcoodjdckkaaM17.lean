/- The document's Put: a first part. -/
import Derived.Test.YtgdjcoodjdckkaaM15
import Derived.Deep.RegionHeld3
set_option linter.unusedVariables false
set_option maxRecDepth 100000
namespace Go.Proofs.Ytgdjcoodjdckkaa
open Go.RowKit Go.Proofs.PitotIp Go.Maps
open Go.Proofs.PitotReasm (Bg Tb Fine bad first next passed passE put keep)
open Go.Proofs.Ytgdjcoodjdckkaa.Bi (lies_lt lies_cell lies_frozen lies_alloc lies_set)

set_option maxHeartbeats 4000000 in
theorem rfirst_some_field {base : Nat} {w : World} {rp : Nat} {most : Nat} {wait : Int} {L : List Rb} {now : Int} {d : Nat} (h : RefAt base w rp most wait L now d) (hG : Good most (tbl L now d)) (hmost : most ≤ 64) (hdr : d ≤ 10000000000) (hw0 : 0 ≤ wait) (hw1 : wait ≤ 1125899906842624) (n : Int) (p : Pk) (hw : p.Wf) (hs : p.s.size ≤ 1000000000) (hp : rE now n = 0) (ho : p.off = 0) (hm : p.m = true) {l1 l2 : List Rb} {b : Rb} (hL2 : keepB L wait n = l1 ++ b :: l2) (hbk : b.k = p.key hw) (hl1 : ∀ c ∈ l1, c.k ≠ p.key hw) (hbd : bad p.m p.d = true) : Calls Try.prog 15 #[.pointer (some ⟨rp, 0, none⟩), .int .i64 n, p.rv] w fun e w' => e = .returned (refans p none 15) ∧ RefAt base w' rp most wait (l1 ++ l2) n ((d + (L.length - (keepB L wait n).length)) + 1) ∧ Fq base w w' := by
  have hb0 : base ≤ w.heap.size := by obtain ⟨lv, h⟩ := h; exact h.lt.2
  have k1 := ((Below.refl w.heap.size w).alloc (Nat.le_refl _) p.rvC)
  have k2 := k1.alloc k1.size rpz
  have H1 : Hid (RefAt base ((w.alloc p.rvC).alloc rpz) rp most wait L now d) := h.below k2
  have P1 : Hid (((w.alloc p.rvC).alloc rpz).heap[w.heap.size]? = some p.rvC) := lies_alloc (heap_alloc_new w _) _
  have R1 : Hid (((w.alloc p.rvC).alloc rpz).heap[w.heap.size + 1]? = some rpz) := by
    have e := heap_alloc_new (w.alloc p.rvC) rpz
    rw [World.size_alloc] at e
    exact e
  have F1 : Hid (Fq base w ((w.alloc p.rvC).alloc rpz)) := Fq.of k2 hb0
  have Hb : Hid (base ≤ w.heap.size) := hb0
  clear h k1 k2 hb0
  have hlen : L.length ≤ most := by have := hG.room; simpa [tbl] using this
  have htm : ∀ b ∈ L, 0 ≤ b.at_ ∧ b.at_ ≤ now := fun b hb => hG.times b.bg (List.mem_map.2 ⟨b, hb, rfl⟩)
  have HP := Lib.hid (refPass_ok H1.out (by omega) n hp hw0 hw1 hG.now0 htm (by omega))
  have hkl := keepB_len L wait n
  generalize hL2g : (keepB L wait n) = L2 at HP hkl hL2 ⊢
  generalize hD2g : (d + (L.length - L2.length)) = D2 at HP ⊢
  have hD2 : D2 ≤ 10000000064 := by omega
  have hL64 : L2.length ≤ 64 := by omega
  clear hG htm hp hL2g hD2g
  have HFI : Hid (∀ V, RefAt base V rp most wait L2 n D2 → Calls Try.prog 26 #[.pointer (some ⟨rp, 0, none⟩), p.rv] V fun e w' => e = .returned (.int .i64 l1.length) ∧ Below V.heap.size V w') := fun V h => by
    obtain ⟨lv, h⟩ := h
    have := refFind_any h (by omega) p hw l1.length (by rw [hL2]; simp) (fun i hi hl => by
      have e : L2[i] = l1[i] := by simp only [hL2]; rw [List.getElem_append_left hi]
      rw [e]; exact hl1 _ (List.getElem_mem hi)) (fun hl => by
      have e : L2[l1.length] = b := by simp only [hL2]; rw [List.getElem_append_right (Nat.le_refl _)]; simp
      rw [e]; exact hbk)
    rw [if_pos (by rw [hL2]; simp)] at this
    exact this
  have HWR := Lib.hid (fun w => wrong_any p w hs)
  rw [hbd] at HWR
  obtain ⟨dI, HdI⟩ : ∃ x : Int, Hid (((D2 : Nat) : Int) = x) := ⟨_, rfl⟩
  have hdI : 0 ≤ dI ∧ dI ≤ 10000000064 := by rw [← HdI.out]; omega
  have Ho := Lib.hid ho; clear ho
  have Hm := Lib.hid hm; clear hm
  have Hbd := Lib.hid hbd; clear hbd
  obtain ⟨i, Hi⟩ : ∃ i, Hid (l1.length = i) := ⟨_, rfl⟩
  rw [Hi.out] at HFI
  have HL2 := Lib.hid hL2
  have hx64 : (l1 ++ l2).length ≤ 63 := by
    have := hL64
    rw [hL2] at this
    simp only [List.length_append, List.length_cons] at this ⊢
    omega
  have HDR : Hid (∀ V, RefAt base V rp most wait L2 n D2 → Calls Try.prog 27 #[.pointer (some ⟨rp, 0, none⟩), .int .i64 i] V fun e w' => e = .returned (.tuple #[]) ∧ RefAt base w' rp most wait (l1 ++ l2) n D2 ∧ Fq base V w') := fun V h => by
    have h2 := h
    rw [HL2.out] at h2
    have := drop_any h2 (by rw [← HL2.out]; exact hL64)
    rw [Hi.out] at this
    exact this
  have HK := Lib.hid (And.intro hbk hl1)
  have hig : decide ((0 : Int) ≤ (i : Int)) = true := decide_eq_true (by omega)
  clear hL2 hbk hl1 hlen
  go_enter Try.func15, Try.ntmps15
  go_upto_region 4 with (first
    | (go_at_call 13; (with_reducible refine (HP.out).mono ?_); rintro e V2 ⟨rfl, hT2, hF2⟩
       (have P2 : Hid (V2.heap[w.heap.size]? = some p.rvC) := fq_41 P1.out hF2)
       (have R2 : Hid (V2.heap[w.heap.size + 1]? = some rpz) := fq_41 R1.out hF2)
       (have F2 : Hid (Fq base w V2) := F1.out.trans hF2)
       (have H2 := Lib.hid hT2)
       (clear hT2 hF2)))
  have x2 : V2.cell? ⟨w.heap.size, 2, none⟩ = some (.int .i64 0) := by rw [← Ho.out]; exact lies_cell P2.out 2
  have x1 : V2.cell? ⟨w.heap.size, 1, none⟩ = some (.bool true) := by rw [← Hm.out]; exact lies_cell P2.out 1
  go_upto_region 6 with (fail)
  clear x1 x2
  obtain ⟨q0, q1, q2, q3, q4, q5, q6, q7⟩ := cells8 P2.out
  go_upto_region 11 with (first
    | (go_at_call 26; (with_reducible refine (HFI.out _ H2.out).mono ?_); rintro e V3 ⟨rfl, hb3⟩
       (have P3 : Hid (V3.heap[w.heap.size]? = some p.rvC) := lies_below P2.out hb3 (lies_lt P2.out))
       (have R3 : Hid (V3.heap[w.heap.size + 1]? = some rpz) := lies_below R2.out hb3 (lies_lt R2.out))
       (have F3 : Hid (Fq base w V3) := F2.out.trans (Fq.of hb3 (by obtain ⟨lv, h⟩ := H2.out; exact h.lt.2)))
       (have H3 : Hid (RefAt base V3 rp most wait L2 n D2) := H2.out.below hb3)
       (clear hb3 q0 q1 q2 q3 q4 q5 q6 q7)
       (have x2 : V3.cell? ⟨w.heap.size, 2, none⟩ = some (.int .i64 0) := by rw [← Ho.out]; exact lies_cell P3.out 2))
    | (go_at_call 27; (with_reducible refine (HDR.out _ H3.out).mono ?_); rintro e V5 ⟨rfl, hT5, hF5⟩
       (have R5 : Hid (V5.heap[w.heap.size + 1]? = some rpz) := fq_41 R3.out hF5)
       (have P5 : Hid (V5.heap[w.heap.size]? = some p.rvC) := fq_41 P3.out hF5)
       (have F5 : Hid (Fq base w V5) := F3.out.trans hF5)
       (obtain ⟨lv5, hT5⟩ := hT5)
       (have H5 := Lib.hid hT5)
       (clear hT5 hF5)
       (have t4 : V5.cell? ⟨rp, 4, none⟩ = some (.int .i64 dI) := by rw [← HdI.out]; exact lies_cell H5.out.tab 4)
       (have f4 := lies_frozen H5.out.tab 4)))
  have H6 : Hid (Ref base (V5.setCell ⟨rp, 4, none⟩ (.int .i64 (dI + 1))) rp most wait (l1 ++ l2) n (D2 + 1) lv5 ∧ Fq base V5 (V5.setCell ⟨rp, 4, none⟩ (.int .i64 (dI + 1)))) := H5.out.set 4 _ (by
    have := lies_set H5.out.tab 4 (.int .i64 (dI + 1))
    rw [this, ← HdI.out]
    rfl)
  have F6 : Hid (Fq base w (V5.setCell ⟨rp, 4, none⟩ (.int .i64 (dI + 1)))) := F5.out.trans H6.out.2
  have R6 : Hid ((V5.setCell ⟨rp, 4, none⟩ (.int .i64 (dI + 1))).heap[w.heap.size + 1]? = some rpz) := fq_41 R5.out H6.out.2
  have P6 : Hid ((V5.setCell ⟨rp, 4, none⟩ (.int .i64 (dI + 1))).heap[w.heap.size]? = some p.rvC) := fq_41 P5.out H6.out.2
  have H6 : Hid (RefAt base (V5.setCell ⟨rp, 4, none⟩ (.int .i64 (dI + 1))) rp most wait (l1 ++ l2) n (D2 + 1)) := ⟨_, H6.out.1⟩
  clear t4 f4 x2
  generalize V5.setCell ⟨rp, 4, none⟩ (.int .i64 (dI + 1)) = V6 at H6 F6 R6 P6 ⊢
  obtain ⟨q0, q1, q2, q3, q4, q5, q6, q7⟩ := cells8 P6.out
  go_upto_region 12 with (first
    | (go_at_call 28; (with_reducible refine (HWR.out _).mono ?_); rintro e V4 ⟨rfl, hb4⟩
       (have P4 : Hid (V4.heap[w.heap.size]? = some p.rvC) := lies_below P6.out hb4 (lies_lt P6.out))
       (have R4 : Hid (V4.heap[w.heap.size + 1]? = some rpz) := lies_below R6.out hb4 (lies_lt R6.out))
       (have F4 : Hid (Fq base w V4) := F6.out.trans (Fq.of hb4 (by obtain ⟨lv, h⟩ := H6.out; exact h.lt.2)))
       (have H4 : Hid (RefAt base V4 rp most wait (l1 ++ l2) n (D2 + 1)) := H6.out.below hb4)
       (have z7 : V4.cell? ⟨w.heap.size, 7, none⟩ = some (.string p.s) := lies_cell P4.out 7)
       (clear hb4 q0 q1 q2 q3 q4 q5 q6 q7)))
  clear z7
  have LX : Hid (V4.heap[w.heap.size + 1]? = some rpz) := R4
  obtain ⟨r0, r1, r2, r3, r4, r5, r6, r7⟩ := cells8 LX.out
  have f0 := lies_frozen LX.out 0
  have f1 := lies_frozen LX.out 1
  have f2 := lies_frozen LX.out 2
  have f3 := lies_frozen LX.out 3
  have f4 := lies_frozen LX.out 4
  have f5 := lies_frozen LX.out 5
  have f6 := lies_frozen LX.out 6
  have f7 := lies_frozen LX.out 7
  go_wp2
  (try simp only [Exit.inBlock, Exit.then])
  obtain ⟨k0, k1, k2, k3, k4, k5, k6, k7, _⟩ := read_8 (y0 := .int .i64 0) (y1 := .bool false) (y2 := .int .i64 0) (y3 := .int .i64 0) (y4 := .int .i64 0) (y5 := .string ⟨#[]⟩) (y6 := .string ⟨#[]⟩) (y7 := .string ⟨#[]⟩) LX.out
  refine bodyPost_ret (by simp [results, Try.results15, go_sem, k0, k1, k2, k3, k4, k5, k6, k7]; try rfl) rfl ?_
  exact ⟨rfl, stored_8 H4.out F4.out Hb.out (by omega) LX.out _ _ _ _ _ _ _ _⟩
set_option maxHeartbeats 4000000 in
theorem rfirst_some_long {base : Nat} {w : World} {rp : Nat} {most : Nat} {wait : Int} {L : List Rb} {now : Int} {d : Nat} (h : RefAt base w rp most wait L now d) (hG : Good most (tbl L now d)) (hmost : most ≤ 64) (hdr : d ≤ 10000000000) (hw0 : 0 ≤ wait) (hw1 : wait ≤ 1125899906842624) (n : Int) (p : Pk) (hw : p.Wf) (hs : p.s.size ≤ 1000000000) (hp : rE now n = 0) (ho : p.off = 0) (hm : p.m = true) {l1 l2 : List Rb} {b : Rb} (hL2 : keepB L wait n = l1 ++ b :: l2) (hbk : b.k = p.key hw) (hl1 : ∀ c ∈ l1, c.k ≠ p.key hw) (hbd : bad p.m p.d = false) (hlg : 8200 < p.s.size) : Calls Try.prog 15 #[.pointer (some ⟨rp, 0, none⟩), .int .i64 n, p.rv] w fun e w' => e = .returned (refans p none 11) ∧ RefAt base w' rp most wait (l1 ++ l2) n ((d + (L.length - (keepB L wait n).length)) + 1) ∧ Fq base w w' := by
  have hb0 : base ≤ w.heap.size := by obtain ⟨lv, h⟩ := h; exact h.lt.2
  have k1 := ((Below.refl w.heap.size w).alloc (Nat.le_refl _) p.rvC)
  have k2 := k1.alloc k1.size rpz
  have H1 : Hid (RefAt base ((w.alloc p.rvC).alloc rpz) rp most wait L now d) := h.below k2
  have P1 : Hid (((w.alloc p.rvC).alloc rpz).heap[w.heap.size]? = some p.rvC) := lies_alloc (heap_alloc_new w _) _
  have R1 : Hid (((w.alloc p.rvC).alloc rpz).heap[w.heap.size + 1]? = some rpz) := by
    have e := heap_alloc_new (w.alloc p.rvC) rpz
    rw [World.size_alloc] at e
    exact e
  have F1 : Hid (Fq base w ((w.alloc p.rvC).alloc rpz)) := Fq.of k2 hb0
  have Hb : Hid (base ≤ w.heap.size) := hb0
  clear h k1 k2 hb0
  have hlen : L.length ≤ most := by have := hG.room; simpa [tbl] using this
  have htm : ∀ b ∈ L, 0 ≤ b.at_ ∧ b.at_ ≤ now := fun b hb => hG.times b.bg (List.mem_map.2 ⟨b, hb, rfl⟩)
  have HP := Lib.hid (refPass_ok H1.out (by omega) n hp hw0 hw1 hG.now0 htm (by omega))
  have hkl := keepB_len L wait n
  generalize hL2g : (keepB L wait n) = L2 at HP hkl hL2 ⊢
  generalize hD2g : (d + (L.length - L2.length)) = D2 at HP ⊢
  have hD2 : D2 ≤ 10000000064 := by omega
  have hL64 : L2.length ≤ 64 := by omega
  clear hG htm hp hL2g hD2g
  have HFI : Hid (∀ V, RefAt base V rp most wait L2 n D2 → Calls Try.prog 26 #[.pointer (some ⟨rp, 0, none⟩), p.rv] V fun e w' => e = .returned (.int .i64 l1.length) ∧ Below V.heap.size V w') := fun V h => by
    obtain ⟨lv, h⟩ := h
    have := refFind_any h (by omega) p hw l1.length (by rw [hL2]; simp) (fun i hi hl => by
      have e : L2[i] = l1[i] := by simp only [hL2]; rw [List.getElem_append_left hi]
      rw [e]; exact hl1 _ (List.getElem_mem hi)) (fun hl => by
      have e : L2[l1.length] = b := by simp only [hL2]; rw [List.getElem_append_right (Nat.le_refl _)]; simp
      rw [e]; exact hbk)
    rw [if_pos (by rw [hL2]; simp)] at this
    exact this
  have HWR := Lib.hid (fun w => wrong_any p w hs)
  rw [hbd] at HWR
  obtain ⟨dI, HdI⟩ : ∃ x : Int, Hid (((D2 : Nat) : Int) = x) := ⟨_, rfl⟩
  have hdI : 0 ≤ dI ∧ dI ≤ 10000000064 := by rw [← HdI.out]; omega
  have Ho := Lib.hid ho; clear ho
  have Hm := Lib.hid hm; clear hm
  have Hbd := Lib.hid hbd; clear hbd
  obtain ⟨i, Hi⟩ : ∃ i, Hid (l1.length = i) := ⟨_, rfl⟩
  rw [Hi.out] at HFI
  have HL2 := Lib.hid hL2
  have hx64 : (l1 ++ l2).length ≤ 63 := by
    have := hL64
    rw [hL2] at this
    simp only [List.length_append, List.length_cons] at this ⊢
    omega
  have HDR : Hid (∀ V, RefAt base V rp most wait L2 n D2 → Calls Try.prog 27 #[.pointer (some ⟨rp, 0, none⟩), .int .i64 i] V fun e w' => e = .returned (.tuple #[]) ∧ RefAt base w' rp most wait (l1 ++ l2) n D2 ∧ Fq base V w') := fun V h => by
    have h2 := h
    rw [HL2.out] at h2
    have := drop_any h2 (by rw [← HL2.out]; exact hL64)
    rw [Hi.out] at this
    exact this
  have HK := Lib.hid (And.intro hbk hl1)
  have hig : decide ((0 : Int) ≤ (i : Int)) = true := decide_eq_true (by omega)
  clear hL2 hbk hl1 hlen
  have el : decide (8200 < (p.s.size : Int)) = true := decide_eq_true (by omega)
  have el2 : decide (8200 < p.s.size) = true := decide_eq_true (by omega)
  have Hlg := Lib.hid hlg; clear hlg
  go_enter Try.func15, Try.ntmps15
  go_upto_region 4 with (first
    | (go_at_call 13; (with_reducible refine (HP.out).mono ?_); rintro e V2 ⟨rfl, hT2, hF2⟩
       (have P2 : Hid (V2.heap[w.heap.size]? = some p.rvC) := fq_41 P1.out hF2)
       (have R2 : Hid (V2.heap[w.heap.size + 1]? = some rpz) := fq_41 R1.out hF2)
       (have F2 : Hid (Fq base w V2) := F1.out.trans hF2)
       (have H2 := Lib.hid hT2)
       (clear hT2 hF2)))
  have x2 : V2.cell? ⟨w.heap.size, 2, none⟩ = some (.int .i64 0) := by rw [← Ho.out]; exact lies_cell P2.out 2
  have x1 : V2.cell? ⟨w.heap.size, 1, none⟩ = some (.bool true) := by rw [← Hm.out]; exact lies_cell P2.out 1
  go_upto_region 6 with (fail)
  clear x1 x2
  obtain ⟨q0, q1, q2, q3, q4, q5, q6, q7⟩ := cells8 P2.out
  go_upto_region 11 with (first
    | (go_at_call 26; (with_reducible refine (HFI.out _ H2.out).mono ?_); rintro e V3 ⟨rfl, hb3⟩
       (have P3 : Hid (V3.heap[w.heap.size]? = some p.rvC) := lies_below P2.out hb3 (lies_lt P2.out))
       (have R3 : Hid (V3.heap[w.heap.size + 1]? = some rpz) := lies_below R2.out hb3 (lies_lt R2.out))
       (have F3 : Hid (Fq base w V3) := F2.out.trans (Fq.of hb3 (by obtain ⟨lv, h⟩ := H2.out; exact h.lt.2)))
       (have H3 : Hid (RefAt base V3 rp most wait L2 n D2) := H2.out.below hb3)
       (clear hb3 q0 q1 q2 q3 q4 q5 q6 q7)
       (have x2 : V3.cell? ⟨w.heap.size, 2, none⟩ = some (.int .i64 0) := by rw [← Ho.out]; exact lies_cell P3.out 2))
    | (go_at_call 27; (with_reducible refine (HDR.out _ H3.out).mono ?_); rintro e V5 ⟨rfl, hT5, hF5⟩
       (have R5 : Hid (V5.heap[w.heap.size + 1]? = some rpz) := fq_41 R3.out hF5)
       (have P5 : Hid (V5.heap[w.heap.size]? = some p.rvC) := fq_41 P3.out hF5)
       (have F5 : Hid (Fq base w V5) := F3.out.trans hF5)
       (obtain ⟨lv5, hT5⟩ := hT5)
       (have H5 := Lib.hid hT5)
       (clear hT5 hF5)
       (have t4 : V5.cell? ⟨rp, 4, none⟩ = some (.int .i64 dI) := by rw [← HdI.out]; exact lies_cell H5.out.tab 4)
       (have f4 := lies_frozen H5.out.tab 4)))
  have H6 : Hid (Ref base (V5.setCell ⟨rp, 4, none⟩ (.int .i64 (dI + 1))) rp most wait (l1 ++ l2) n (D2 + 1) lv5 ∧ Fq base V5 (V5.setCell ⟨rp, 4, none⟩ (.int .i64 (dI + 1)))) := H5.out.set 4 _ (by
    have := lies_set H5.out.tab 4 (.int .i64 (dI + 1))
    rw [this, ← HdI.out]
    rfl)
  have F6 : Hid (Fq base w (V5.setCell ⟨rp, 4, none⟩ (.int .i64 (dI + 1)))) := F5.out.trans H6.out.2
  have R6 : Hid ((V5.setCell ⟨rp, 4, none⟩ (.int .i64 (dI + 1))).heap[w.heap.size + 1]? = some rpz) := fq_41 R5.out H6.out.2
  have P6 : Hid ((V5.setCell ⟨rp, 4, none⟩ (.int .i64 (dI + 1))).heap[w.heap.size]? = some p.rvC) := fq_41 P5.out H6.out.2
  have H6 : Hid (RefAt base (V5.setCell ⟨rp, 4, none⟩ (.int .i64 (dI + 1))) rp most wait (l1 ++ l2) n (D2 + 1)) := ⟨_, H6.out.1⟩
  clear t4 f4 x2
  generalize V5.setCell ⟨rp, 4, none⟩ (.int .i64 (dI + 1)) = V6 at H6 F6 R6 P6 ⊢
  obtain ⟨q0, q1, q2, q3, q4, q5, q6, q7⟩ := cells8 P6.out
  go_upto_region 14 with (first
    | (go_at_call 28; (with_reducible refine (HWR.out _).mono ?_); rintro e V4 ⟨rfl, hb4⟩
       (have P4 : Hid (V4.heap[w.heap.size]? = some p.rvC) := lies_below P6.out hb4 (lies_lt P6.out))
       (have R4 : Hid (V4.heap[w.heap.size + 1]? = some rpz) := lies_below R6.out hb4 (lies_lt R6.out))
       (have F4 : Hid (Fq base w V4) := F6.out.trans (Fq.of hb4 (by obtain ⟨lv, h⟩ := H6.out; exact h.lt.2)))
       (have H4 : Hid (RefAt base V4 rp most wait (l1 ++ l2) n (D2 + 1)) := H6.out.below hb4)
       (have z7 : V4.cell? ⟨w.heap.size, 7, none⟩ = some (.string p.s) := lies_cell P4.out 7)
       (clear hb4 q0 q1 q2 q3 q4 q5 q6 q7)))
  clear z7
  have LX : Hid (V4.heap[w.heap.size + 1]? = some rpz) := R4
  obtain ⟨r0, r1, r2, r3, r4, r5, r6, r7⟩ := cells8 LX.out
  have f0 := lies_frozen LX.out 0
  have f1 := lies_frozen LX.out 1
  have f2 := lies_frozen LX.out 2
  have f3 := lies_frozen LX.out 3
  have f4 := lies_frozen LX.out 4
  have f5 := lies_frozen LX.out 5
  have f6 := lies_frozen LX.out 6
  have f7 := lies_frozen LX.out 7
  go_wp2
  (try simp only [Exit.inBlock, Exit.then])
  obtain ⟨k0, k1, k2, k3, k4, k5, k6, k7, _⟩ := read_8 (y0 := .int .i64 0) (y1 := .bool false) (y2 := .int .i64 0) (y3 := .int .i64 0) (y4 := .int .i64 0) (y5 := .string ⟨#[]⟩) (y6 := .string ⟨#[]⟩) (y7 := .string ⟨#[]⟩) LX.out
  refine bodyPost_ret (by simp [results, Try.results15, go_sem, k0, k1, k2, k3, k4, k5, k6, k7]; try rfl) rfl ?_
  exact ⟨rfl, stored_8 H4.out F4.out Hb.out (by omega) LX.out _ _ _ _ _ _ _ _⟩
end Go.Proofs.Ytgdjcoodjdckkaa
