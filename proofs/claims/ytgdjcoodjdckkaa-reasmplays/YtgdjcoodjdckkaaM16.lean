/- The document's Put: a first part. -/
import Derived.Test.YtgdjcoodjdckkaaM15
import Derived.Deep.RegionHeld3
set_option linter.unusedVariables false
set_option maxRecDepth 100000
namespace Go.Proofs.Ytgdjcoodjdckkaa
open Go.RowKit Go.Proofs.PitotIp Go.Maps
open Go.Proofs.PitotReasm (Bg Tb Fine bad first next passed passE put keep)
open Go.Proofs.Ytgdjcoodjdckkaa.Bi (lies_lt lies_cell lies_frozen lies_alloc lies_set)

set_option maxHeartbeats 4000000 in
theorem rfirst_none_full {base : Nat} {w : World} {rp : Nat} {most : Nat} {wait : Int} {L : List Rb} {now : Int} {d : Nat} (h : RefAt base w rp most wait L now d) (hG : Good most (tbl L now d)) (hmost : most ≤ 64) (hdr : d ≤ 10000000000) (hw0 : 0 ≤ wait) (hw1 : wait ≤ 1125899906842624) (n : Int) (p : Pk) (hw : p.Wf) (hs : p.s.size ≤ 1000000000) (hp : rE now n = 0) (ho : p.off = 0) (hm : p.m = true) (hnone : ∀ c ∈ (keepB L wait n), c.k ≠ p.key hw) (hbd : bad p.m p.d = false) (hlg : ¬ 8200 < p.s.size) (hfl : most ≤ (keepB L wait n).length) : Calls Try.prog 15 #[.pointer (some ⟨rp, 0, none⟩), .int .i64 n, p.rv] w fun e w' => e = .returned (refans p none 22) ∧ RefAt base w' rp most wait (keepB L wait n) n (d + (L.length - (keepB L wait n).length)) ∧ Fq base w w' := by
  have hb0 : base ≤ w.heap.size := by obtain ⟨lv, h⟩ := h; exact h.lt.2
  have k1 := ((Below.refl w.heap.size w).alloc (Nat.le_refl _) p.rvC)
  have k2 := k1.alloc k1.size rpz
  have H1 : Hid (RefAt base ((w.alloc p.rvC).alloc rpz) rp most wait L now d) := h.below k2
  have P1 : Hid (((w.alloc p.rvC).alloc rpz).heap[w.heap.size]? = some p.rvC) := lies_alloc (heap_alloc_new w _) _
  have R1 : Hid (((w.alloc p.rvC).alloc rpz).heap[w.heap.size + 1]? = some rpz) := by
    have e := heap_alloc_new (w.alloc p.rvC) rpz
    rw [World.size_alloc] at e
    exact e
  have F1 : Hid (Fq base w ((w.alloc p.rvC).alloc rpz)) := Fq.of k2 hb0
  have Hb : Hid (base ≤ w.heap.size) := hb0
  clear h k1 k2 hb0
  have hlen : L.length ≤ most := by have := hG.room; simpa [tbl] using this
  have htm : ∀ b ∈ L, 0 ≤ b.at_ ∧ b.at_ ≤ now := fun b hb => hG.times b.bg (List.mem_map.2 ⟨b, hb, rfl⟩)
  have HP := Lib.hid (refPass_ok H1.out (by omega) n hp hw0 hw1 hG.now0 htm (by omega))
  have hkl := keepB_len L wait n
  generalize hL2g : (keepB L wait n) = L2 at HP hkl hnone hfl ⊢
  generalize hD2g : (d + (L.length - L2.length)) = D2 at HP ⊢
  have hD2 : D2 ≤ 10000000064 := by omega
  have hL64 : L2.length ≤ 64 := by omega
  clear hG htm hp hL2g hD2g
  have HFI : Hid (∀ V, RefAt base V rp most wait L2 n D2 → Calls Try.prog 26 #[.pointer (some ⟨rp, 0, none⟩), p.rv] V fun e w' => e = .returned (.int .i64 (-1)) ∧ Below V.heap.size V w') := fun V h => by
    obtain ⟨lv, h⟩ := h
    have := refFind_any h (by omega) p hw L2.length (Nat.le_refl _) (fun i hi hl => hnone _ (List.getElem_mem hl)) (fun hl => absurd hl (by omega))
    rw [if_neg (by omega)] at this
    exact this
  have HWR := Lib.hid (fun w => wrong_any p w hs)
  rw [hbd] at HWR
  obtain ⟨dI, HdI⟩ : ∃ x : Int, Hid (((D2 : Nat) : Int) = x) := ⟨_, rfl⟩
  have hdI : 0 ≤ dI ∧ dI ≤ 10000000064 := by rw [← HdI.out]; omega
  have Ho := Lib.hid ho; clear ho
  have Hm := Lib.hid hm; clear hm
  have Hbd := Lib.hid hbd; clear hbd
  have hx64 : L2.length ≤ 64 := hL64
  have Hn0 := Lib.hid hnone; clear hnone hlen
  have el : decide (8200 < (p.s.size : Int)) = false := decide_eq_false (by omega)
  have el2 : decide (8200 < p.s.size) = false := decide_eq_false (by omega)
  have Hlg := Lib.hid hlg; clear hlg
  obtain ⟨nx, Hnx⟩ : ∃ x, Hid (L2.length = x) := ⟨_, rfl⟩
  rw [Hnx.out] at hfl hx64
  have ef : decide ((most : Int) ≤ (nx : Int)) = true := decide_eq_true (by omega)
  have ef2 : decide (most ≤ nx) = true := decide_eq_true (by omega)
  have Hfl := Lib.hid hfl; clear hfl
  go_enter Try.func15, Try.ntmps15
  go_upto_region 4 with (first
    | (go_at_call 13; (with_reducible refine (HP.out).mono ?_); rintro e V2 ⟨rfl, hT2, hF2⟩
       (have P2 : Hid (V2.heap[w.heap.size]? = some p.rvC) := fq_41 P1.out hF2)
       (have R2 : Hid (V2.heap[w.heap.size + 1]? = some rpz) := fq_41 R1.out hF2)
       (have F2 : Hid (Fq base w V2) := F1.out.trans hF2)
       (have H2 := Lib.hid hT2)
       (clear hT2 hF2)))
  have x2 : V2.cell? ⟨w.heap.size, 2, none⟩ = some (.int .i64 0) := by rw [← Ho.out]; exact lies_cell P2.out 2
  have x1 : V2.cell? ⟨w.heap.size, 1, none⟩ = some (.bool true) := by rw [← Hm.out]; exact lies_cell P2.out 1
  go_upto_region 6 with (fail)
  clear x1 x2
  obtain ⟨q0, q1, q2, q3, q4, q5, q6, q7⟩ := cells8 P2.out
  go_upto_region 11 with (first
    | (go_at_call 26; (with_reducible refine (HFI.out _ H2.out).mono ?_); rintro e V3 ⟨rfl, hb3⟩
       (have P3 : Hid (V3.heap[w.heap.size]? = some p.rvC) := lies_below P2.out hb3 (lies_lt P2.out))
       (have R3 : Hid (V3.heap[w.heap.size + 1]? = some rpz) := lies_below R2.out hb3 (lies_lt R2.out))
       (have F3 : Hid (Fq base w V3) := F2.out.trans (Fq.of hb3 (by obtain ⟨lv, h⟩ := H2.out; exact h.lt.2)))
       (have H3 : Hid (RefAt base V3 rp most wait L2 n D2) := H2.out.below hb3)
       (clear hb3 q0 q1 q2 q3 q4 q5 q6 q7)
       (have x2 : V3.cell? ⟨w.heap.size, 2, none⟩ = some (.int .i64 0) := by rw [← Ho.out]; exact lies_cell P3.out 2)))
  clear x2
  obtain ⟨q0, q1, q2, q3, q4, q5, q6, q7⟩ := cells8 P3.out
  go_upto_region 15 with (first
    | (go_at_call 28; (with_reducible refine (HWR.out _).mono ?_); rintro e V4 ⟨rfl, hb4⟩
       (have P4 : Hid (V4.heap[w.heap.size]? = some p.rvC) := lies_below P3.out hb4 (lies_lt P3.out))
       (have R4 : Hid (V4.heap[w.heap.size + 1]? = some rpz) := lies_below R3.out hb4 (lies_lt R3.out))
       (have F4 : Hid (Fq base w V4) := F3.out.trans (Fq.of hb4 (by obtain ⟨lv, h⟩ := H3.out; exact h.lt.2)))
       (have H4 : Hid (RefAt base V4 rp most wait L2 n D2) := H3.out.below hb4)
       (have z7 : V4.cell? ⟨w.heap.size, 7, none⟩ = some (.string p.s) := lies_cell P4.out 7)
       (clear hb4 q0 q1 q2 q3 q4 q5 q6 q7)))
  clear z7
  obtain ⟨lv, hRF⟩ := H4.out
  obtain ⟨A, c, hlv⟩ := ref_slice hRF
  rw [Hnx.out] at hlv
  subst hlv
  have HRF := Lib.hid hRF; clear hRF
  obtain ⟨dJ, HdJ⟩ : ∃ x : Int, Hid (((D2 : Nat) : Int) = x) := ⟨_, rfl⟩
  have T4 : Hid (V4.heap[rp]? = some (refC (.slice A nx c) most wait n dJ)) := by
    have := HRF.out.tab
    rw [HdJ.out] at this
    exact this
  go_upto_region 15 with (fail)
  refine wp_region_held_drew (S := fun w' => w'.heap[rp]? = some (refC (.slice A nx c) most wait n dJ)) (by kernel_rfl) ?_ (fun hHeld => ?_)
  · exact T4.out
  refine wpAnyH_take (i := 0) (oi := { dst := some 55, op := Go.Op.move (Go.Operand.tmp 0), type := 27, pos := "ref.go:101", after := #[], guard := none }) (v := ?_) rfl (by kernel_rfl) (by kernel_rfl) (by kernel_rfl) (fun _ _ _ h => h) (Or.inl ⟨by rfl, ?_⟩) (by assumption) ?_
  rotate_left
  focus ((intro w hSw; (try dsimp only at hSw); clear hSw; go_simp) <;> (with_reducible rfl))
  try simp only [Act.put, List.setIfInBounds_toArray, List.set_cons_zero, List.set_cons_succ]
  refine wpAnyH_take (i := 1) (oi := { dst := some 56, op := Go.Op.nilCheck (Go.Operand.tmp 55), type := 0, pos := "ref.go:101", after := #[{ on := 0, ground := Go.Ground.data }], guard := none }) (v := ?_) rfl (by kernel_rfl) (by kernel_rfl) (by kernel_rfl) (fun _ _ _ h => h) (Or.inl ⟨by rfl, ?_⟩) (by assumption) ?_
  rotate_left
  focus ((intro w hSw; (try dsimp only at hSw); clear hSw; go_simp) <;> (with_reducible rfl))
  try simp only [Act.put, List.setIfInBounds_toArray, List.set_cons_zero, List.set_cons_succ]
  refine wpAnyH_take (i := 2) (oi := { dst := some 57, op := Go.Op.fieldAddr 49 (Go.Operand.tmp 56) 0, type := 0, pos := "ref.go:101", after := #[{ on := 1, ground := Go.Ground.data }], guard := none }) (v := ?_) rfl (by kernel_rfl) (by kernel_rfl) (by kernel_rfl) (fun _ _ _ h => h) (Or.inl ⟨by rfl, ?_⟩) (by assumption) ?_
  rotate_left
  focus ((intro w hSw; (try dsimp only at hSw); clear hSw; go_simp) <;> (with_reducible rfl))
  try simp only [Act.put, List.setIfInBounds_toArray, List.set_cons_zero, List.set_cons_succ]
  refine wpAnyH_take (i := 3) (oi := { dst := some 58, op := Go.Op.load 47 (Go.Operand.tmp 57), type := 47, pos := "ref.go:101", after := #[{ on := 2, ground := Go.Ground.data }], guard := none }) (v := ?_) rfl (by kernel_rfl) (by kernel_rfl) (by kernel_rfl) (fun _ _ _ h => h) (Or.inl ⟨by rfl, ?_⟩) (by assumption) ?_
  rotate_left
  focus ((intro w hSw; (try dsimp only at hSw); have hc : w.cell? ⟨rp, 0, none⟩ = some (.slice A nx c) := lies_cell hSw 0; clear hSw; go_simp) <;> (with_reducible rfl))
  try simp only [Act.put, List.setIfInBounds_toArray, List.set_cons_zero, List.set_cons_succ]
  refine wpAnyH_take (i := 4) (oi := { dst := some 59, op := Go.Op.call { callee := Go.Callee.builtin Go.Builtin.len, args := #[Go.Operand.tmp 58], argTypes := #[47] }, type := 3, pos := "ref.go:101", after := #[{ on := 3, ground := Go.Ground.data }], guard := none }) (v := ?_) rfl (by kernel_rfl) (by kernel_rfl) (by kernel_rfl) (fun _ _ _ h => h) (Or.inl ⟨by rfl, ?_⟩) (by assumption) ?_
  rotate_left
  focus ((intro w hSw; (try dsimp only at hSw); clear hSw; go_simp) <;> (with_reducible rfl))
  try simp only [Act.put, List.setIfInBounds_toArray, List.set_cons_zero, List.set_cons_succ]
  refine wpAnyH_take (i := 5) (oi := { dst := some 60, op := Go.Op.move (Go.Operand.tmp 0), type := 27, pos := "ref.go:101", after := #[], guard := none }) (v := ?_) rfl (by kernel_rfl) (by kernel_rfl) (by kernel_rfl) (fun _ _ _ h => h) (Or.inl ⟨by rfl, ?_⟩) (by assumption) ?_
  rotate_left
  focus ((intro w hSw; (try dsimp only at hSw); clear hSw; go_simp) <;> (with_reducible rfl))
  try simp only [Act.put, List.setIfInBounds_toArray, List.set_cons_zero, List.set_cons_succ]
  refine wpAnyH_take (i := 6) (oi := { dst := some 61, op := Go.Op.nilCheck (Go.Operand.tmp 60), type := 0, pos := "ref.go:101", after := #[{ on := 5, ground := Go.Ground.data }], guard := none }) (v := ?_) rfl (by kernel_rfl) (by kernel_rfl) (by kernel_rfl) (fun _ _ _ h => h) (Or.inl ⟨by rfl, ?_⟩) (by assumption) ?_
  rotate_left
  focus ((intro w hSw; (try dsimp only at hSw); clear hSw; go_simp) <;> (with_reducible rfl))
  try simp only [Act.put, List.setIfInBounds_toArray, List.set_cons_zero, List.set_cons_succ]
  refine wpAnyH_take (i := 7) (oi := { dst := some 62, op := Go.Op.fieldAddr 49 (Go.Operand.tmp 61) 1, type := 0, pos := "ref.go:101", after := #[{ on := 6, ground := Go.Ground.data }], guard := none }) (v := ?_) rfl (by kernel_rfl) (by kernel_rfl) (by kernel_rfl) (fun _ _ _ h => h) (Or.inl ⟨by rfl, ?_⟩) (by assumption) ?_
  rotate_left
  focus ((intro w hSw; (try dsimp only at hSw); clear hSw; go_simp) <;> (with_reducible rfl))
  try simp only [Act.put, List.setIfInBounds_toArray, List.set_cons_zero, List.set_cons_succ]
  refine wpAnyH_take (i := 8) (oi := { dst := some 63, op := Go.Op.load 3 (Go.Operand.tmp 62), type := 3, pos := "ref.go:101", after := #[{ on := 7, ground := Go.Ground.data }], guard := none }) (v := ?_) rfl (by kernel_rfl) (by kernel_rfl) (by kernel_rfl) (fun _ _ _ h => h) (Or.inl ⟨by rfl, ?_⟩) (by assumption) ?_
  rotate_left
  focus ((intro w hSw; (try dsimp only at hSw); have hc : w.cell? ⟨rp, 1, none⟩ = some (.int .i64 most) := lies_cell hSw 1; clear hSw; go_simp) <;> (with_reducible rfl))
  try simp only [Act.put, List.setIfInBounds_toArray, List.set_cons_zero, List.set_cons_succ]
  refine wpAnyH_take (i := 9) (oi := { dst := some 64, op := Go.Op.binOp Go.BinOp.geq 3 (Go.Operand.tmp 59) (Go.Operand.tmp 63) 3, type := 4, pos := "ref.go:101", after := #[{ on := 4, ground := Go.Ground.data }, { on := 8, ground := Go.Ground.data }], guard := none }) (v := ?_) rfl (by kernel_rfl) (by kernel_rfl) (by kernel_rfl) (fun _ _ _ h => h) (Or.inl ⟨by rfl, ?_⟩) (by assumption) ?_
  rotate_left
  focus ((intro w hSw; (try dsimp only at hSw); clear hSw; go_simp) <;> (with_reducible rfl))
  try simp only [Act.put, List.setIfInBounds_toArray, List.set_cons_zero, List.set_cons_succ]
  refine wpAnyH_done (by kernel_rfl) ?_ _
  clear hHeld
  have HRF8 : Hid (Ref base V4.drew rp most wait L2 n D2 (.slice A nx c)) := HRF.out.of ⟨rfl, rfl, rfl, Nat.le_refl _, fun _ _ _ => rfl⟩
  have T8 : Hid (V4.drew.heap[rp]? = some (refC (.slice A nx c) most wait n dJ)) := T4
  have P8 : Hid (V4.drew.heap[w.heap.size]? = some p.rvC) := P4
  have R8 : Hid (V4.drew.heap[w.heap.size + 1]? = some rpz) := R4
  have F8 : Hid (Fq base w V4.drew) := F4.out.drew
  generalize V4.drew = V8 at HRF8 T8 P8 R8 F8 ⊢
  go_upto_region 16 with (fail)
  have LX : Hid (V8.heap[w.heap.size + 1]? = some rpz) := R8
  obtain ⟨r0, r1, r2, r3, r4, r5, r6, r7⟩ := cells8 LX.out
  have f0 := lies_frozen LX.out 0
  have f1 := lies_frozen LX.out 1
  have f2 := lies_frozen LX.out 2
  have f3 := lies_frozen LX.out 3
  have f4 := lies_frozen LX.out 4
  have f5 := lies_frozen LX.out 5
  have f6 := lies_frozen LX.out 6
  have f7 := lies_frozen LX.out 7
  go_wp2
  (try simp only [Exit.inBlock, Exit.then])
  obtain ⟨k0, k1, k2, k3, k4, k5, k6, k7, _⟩ := read_8 (y0 := .int .i64 0) (y1 := .bool false) (y2 := .int .i64 0) (y3 := .int .i64 0) (y4 := .int .i64 0) (y5 := .string ⟨#[]⟩) (y6 := .string ⟨#[]⟩) (y7 := .string ⟨#[]⟩) LX.out
  refine bodyPost_ret (by simp [results, Try.results15, go_sem, k0, k1, k2, k3, k4, k5, k6, k7]; try rfl) rfl ?_
  exact ⟨rfl, stored_8 ⟨_, HRF8.out⟩ F8.out Hb.out (by omega) LX.out _ _ _ _ _ _ _ _⟩
set_option maxHeartbeats 4000000 in
theorem rfirst_none_put {base : Nat} {w : World} {rp : Nat} {most : Nat} {wait : Int} {L : List Rb} {now : Int} {d : Nat} (h : RefAt base w rp most wait L now d) (hG : Good most (tbl L now d)) (hmost : most ≤ 64) (hdr : d ≤ 10000000000) (hw0 : 0 ≤ wait) (hw1 : wait ≤ 1125899906842624) (n : Int) (p : Pk) (hw : p.Wf) (hs : p.s.size ≤ 1000000000) (hp : rE now n = 0) (ho : p.off = 0) (hm : p.m = true) (hnone : ∀ c ∈ (keepB L wait n), c.k ≠ p.key hw) (hbd : bad p.m p.d = false) (hlg : ¬ 8200 < p.s.size) (hfl : ¬ most ≤ (keepB L wait n).length) : Calls Try.prog 15 #[.pointer (some ⟨rp, 0, none⟩), .int .i64 n, p.rv] w fun e w' => e = .returned (refans p none 0) ∧ RefAt base w' rp most wait ((keepB L wait n) ++ [⟨p, hw, n, p.d⟩]) n (d + (L.length - (keepB L wait n).length)) ∧ Fq base w w' := by
  have hb0 : base ≤ w.heap.size := by obtain ⟨lv, h⟩ := h; exact h.lt.2
  have k1 := ((Below.refl w.heap.size w).alloc (Nat.le_refl _) p.rvC)
  have k2 := k1.alloc k1.size rpz
  have H1 : Hid (RefAt base ((w.alloc p.rvC).alloc rpz) rp most wait L now d) := h.below k2
  have P1 : Hid (((w.alloc p.rvC).alloc rpz).heap[w.heap.size]? = some p.rvC) := lies_alloc (heap_alloc_new w _) _
  have R1 : Hid (((w.alloc p.rvC).alloc rpz).heap[w.heap.size + 1]? = some rpz) := by
    have e := heap_alloc_new (w.alloc p.rvC) rpz
    rw [World.size_alloc] at e
    exact e
  have F1 : Hid (Fq base w ((w.alloc p.rvC).alloc rpz)) := Fq.of k2 hb0
  have Hb : Hid (base ≤ w.heap.size) := hb0
  clear h k1 k2 hb0
  have hlen : L.length ≤ most := by have := hG.room; simpa [tbl] using this
  have htm : ∀ b ∈ L, 0 ≤ b.at_ ∧ b.at_ ≤ now := fun b hb => hG.times b.bg (List.mem_map.2 ⟨b, hb, rfl⟩)
  have HP := Lib.hid (refPass_ok H1.out (by omega) n hp hw0 hw1 hG.now0 htm (by omega))
  have hkl := keepB_len L wait n
  generalize hL2g : (keepB L wait n) = L2 at HP hkl hnone hfl ⊢
  generalize hD2g : (d + (L.length - L2.length)) = D2 at HP ⊢
  have hD2 : D2 ≤ 10000000064 := by omega
  have hL64 : L2.length ≤ 64 := by omega
  clear hG htm hp hL2g hD2g
  have HFI : Hid (∀ V, RefAt base V rp most wait L2 n D2 → Calls Try.prog 26 #[.pointer (some ⟨rp, 0, none⟩), p.rv] V fun e w' => e = .returned (.int .i64 (-1)) ∧ Below V.heap.size V w') := fun V h => by
    obtain ⟨lv, h⟩ := h
    have := refFind_any h (by omega) p hw L2.length (Nat.le_refl _) (fun i hi hl => hnone _ (List.getElem_mem hl)) (fun hl => absurd hl (by omega))
    rw [if_neg (by omega)] at this
    exact this
  have HWR := Lib.hid (fun w => wrong_any p w hs)
  rw [hbd] at HWR
  obtain ⟨dI, HdI⟩ : ∃ x : Int, Hid (((D2 : Nat) : Int) = x) := ⟨_, rfl⟩
  have hdI : 0 ≤ dI ∧ dI ≤ 10000000064 := by rw [← HdI.out]; omega
  have Ho := Lib.hid ho; clear ho
  have Hm := Lib.hid hm; clear hm
  have Hbd := Lib.hid hbd; clear hbd
  have hx64 : L2.length ≤ 64 := hL64
  have Hn0 := Lib.hid hnone; clear hnone hlen
  have el : decide (8200 < (p.s.size : Int)) = false := decide_eq_false (by omega)
  have el2 : decide (8200 < p.s.size) = false := decide_eq_false (by omega)
  have Hlg := Lib.hid hlg; clear hlg
  obtain ⟨nx, Hnx⟩ : ∃ x, Hid (L2.length = x) := ⟨_, rfl⟩
  rw [Hnx.out] at hfl hx64
  have ef : decide ((most : Int) ≤ (nx : Int)) = false := decide_eq_false (by omega)
  have ef2 : decide (most ≤ nx) = false := decide_eq_false (by omega)
  have Hfl := Lib.hid hfl; clear hfl
  go_enter Try.func15, Try.ntmps15
  go_upto_region 4 with (first
    | (go_at_call 13; (with_reducible refine (HP.out).mono ?_); rintro e V2 ⟨rfl, hT2, hF2⟩
       (have P2 : Hid (V2.heap[w.heap.size]? = some p.rvC) := fq_41 P1.out hF2)
       (have R2 : Hid (V2.heap[w.heap.size + 1]? = some rpz) := fq_41 R1.out hF2)
       (have F2 : Hid (Fq base w V2) := F1.out.trans hF2)
       (have H2 := Lib.hid hT2)
       (clear hT2 hF2)))
  have x2 : V2.cell? ⟨w.heap.size, 2, none⟩ = some (.int .i64 0) := by rw [← Ho.out]; exact lies_cell P2.out 2
  have x1 : V2.cell? ⟨w.heap.size, 1, none⟩ = some (.bool true) := by rw [← Hm.out]; exact lies_cell P2.out 1
  go_upto_region 6 with (fail)
  clear x1 x2
  obtain ⟨q0, q1, q2, q3, q4, q5, q6, q7⟩ := cells8 P2.out
  go_upto_region 11 with (first
    | (go_at_call 26; (with_reducible refine (HFI.out _ H2.out).mono ?_); rintro e V3 ⟨rfl, hb3⟩
       (have P3 : Hid (V3.heap[w.heap.size]? = some p.rvC) := lies_below P2.out hb3 (lies_lt P2.out))
       (have R3 : Hid (V3.heap[w.heap.size + 1]? = some rpz) := lies_below R2.out hb3 (lies_lt R2.out))
       (have F3 : Hid (Fq base w V3) := F2.out.trans (Fq.of hb3 (by obtain ⟨lv, h⟩ := H2.out; exact h.lt.2)))
       (have H3 : Hid (RefAt base V3 rp most wait L2 n D2) := H2.out.below hb3)
       (clear hb3 q0 q1 q2 q3 q4 q5 q6 q7)
       (have x2 : V3.cell? ⟨w.heap.size, 2, none⟩ = some (.int .i64 0) := by rw [← Ho.out]; exact lies_cell P3.out 2)))
  clear x2
  obtain ⟨q0, q1, q2, q3, q4, q5, q6, q7⟩ := cells8 P3.out
  go_upto_region 15 with (first
    | (go_at_call 28; (with_reducible refine (HWR.out _).mono ?_); rintro e V4 ⟨rfl, hb4⟩
       (have P4 : Hid (V4.heap[w.heap.size]? = some p.rvC) := lies_below P3.out hb4 (lies_lt P3.out))
       (have R4 : Hid (V4.heap[w.heap.size + 1]? = some rpz) := lies_below R3.out hb4 (lies_lt R3.out))
       (have F4 : Hid (Fq base w V4) := F3.out.trans (Fq.of hb4 (by obtain ⟨lv, h⟩ := H3.out; exact h.lt.2)))
       (have H4 : Hid (RefAt base V4 rp most wait L2 n D2) := H3.out.below hb4)
       (have z7 : V4.cell? ⟨w.heap.size, 7, none⟩ = some (.string p.s) := lies_cell P4.out 7)
       (clear hb4 q0 q1 q2 q3 q4 q5 q6 q7)))
  clear z7
  obtain ⟨lv, hRF⟩ := H4.out
  obtain ⟨A, c, hlv⟩ := ref_slice hRF
  rw [Hnx.out] at hlv
  subst hlv
  have HRF := Lib.hid hRF; clear hRF
  obtain ⟨dJ, HdJ⟩ : ∃ x : Int, Hid (((D2 : Nat) : Int) = x) := ⟨_, rfl⟩
  have T4 : Hid (V4.heap[rp]? = some (refC (.slice A nx c) most wait n dJ)) := by
    have := HRF.out.tab
    rw [HdJ.out] at this
    exact this
  go_upto_region 15 with (fail)
  refine wp_region_held_drew (S := fun w' => w'.heap[rp]? = some (refC (.slice A nx c) most wait n dJ)) (by kernel_rfl) ?_ (fun hHeld => ?_)
  · exact T4.out
  refine wpAnyH_take (i := 0) (oi := { dst := some 55, op := Go.Op.move (Go.Operand.tmp 0), type := 27, pos := "ref.go:101", after := #[], guard := none }) (v := ?_) rfl (by kernel_rfl) (by kernel_rfl) (by kernel_rfl) (fun _ _ _ h => h) (Or.inl ⟨by rfl, ?_⟩) (by assumption) ?_
  rotate_left
  focus ((intro w hSw; (try dsimp only at hSw); clear hSw; go_simp) <;> (with_reducible rfl))
  try simp only [Act.put, List.setIfInBounds_toArray, List.set_cons_zero, List.set_cons_succ]
  refine wpAnyH_take (i := 1) (oi := { dst := some 56, op := Go.Op.nilCheck (Go.Operand.tmp 55), type := 0, pos := "ref.go:101", after := #[{ on := 0, ground := Go.Ground.data }], guard := none }) (v := ?_) rfl (by kernel_rfl) (by kernel_rfl) (by kernel_rfl) (fun _ _ _ h => h) (Or.inl ⟨by rfl, ?_⟩) (by assumption) ?_
  rotate_left
  focus ((intro w hSw; (try dsimp only at hSw); clear hSw; go_simp) <;> (with_reducible rfl))
  try simp only [Act.put, List.setIfInBounds_toArray, List.set_cons_zero, List.set_cons_succ]
  refine wpAnyH_take (i := 2) (oi := { dst := some 57, op := Go.Op.fieldAddr 49 (Go.Operand.tmp 56) 0, type := 0, pos := "ref.go:101", after := #[{ on := 1, ground := Go.Ground.data }], guard := none }) (v := ?_) rfl (by kernel_rfl) (by kernel_rfl) (by kernel_rfl) (fun _ _ _ h => h) (Or.inl ⟨by rfl, ?_⟩) (by assumption) ?_
  rotate_left
  focus ((intro w hSw; (try dsimp only at hSw); clear hSw; go_simp) <;> (with_reducible rfl))
  try simp only [Act.put, List.setIfInBounds_toArray, List.set_cons_zero, List.set_cons_succ]
  refine wpAnyH_take (i := 3) (oi := { dst := some 58, op := Go.Op.load 47 (Go.Operand.tmp 57), type := 47, pos := "ref.go:101", after := #[{ on := 2, ground := Go.Ground.data }], guard := none }) (v := ?_) rfl (by kernel_rfl) (by kernel_rfl) (by kernel_rfl) (fun _ _ _ h => h) (Or.inl ⟨by rfl, ?_⟩) (by assumption) ?_
  rotate_left
  focus ((intro w hSw; (try dsimp only at hSw); have hc : w.cell? ⟨rp, 0, none⟩ = some (.slice A nx c) := lies_cell hSw 0; clear hSw; go_simp) <;> (with_reducible rfl))
  try simp only [Act.put, List.setIfInBounds_toArray, List.set_cons_zero, List.set_cons_succ]
  refine wpAnyH_take (i := 4) (oi := { dst := some 59, op := Go.Op.call { callee := Go.Callee.builtin Go.Builtin.len, args := #[Go.Operand.tmp 58], argTypes := #[47] }, type := 3, pos := "ref.go:101", after := #[{ on := 3, ground := Go.Ground.data }], guard := none }) (v := ?_) rfl (by kernel_rfl) (by kernel_rfl) (by kernel_rfl) (fun _ _ _ h => h) (Or.inl ⟨by rfl, ?_⟩) (by assumption) ?_
  rotate_left
  focus ((intro w hSw; (try dsimp only at hSw); clear hSw; go_simp) <;> (with_reducible rfl))
  try simp only [Act.put, List.setIfInBounds_toArray, List.set_cons_zero, List.set_cons_succ]
  refine wpAnyH_take (i := 5) (oi := { dst := some 60, op := Go.Op.move (Go.Operand.tmp 0), type := 27, pos := "ref.go:101", after := #[], guard := none }) (v := ?_) rfl (by kernel_rfl) (by kernel_rfl) (by kernel_rfl) (fun _ _ _ h => h) (Or.inl ⟨by rfl, ?_⟩) (by assumption) ?_
  rotate_left
  focus ((intro w hSw; (try dsimp only at hSw); clear hSw; go_simp) <;> (with_reducible rfl))
  try simp only [Act.put, List.setIfInBounds_toArray, List.set_cons_zero, List.set_cons_succ]
  refine wpAnyH_take (i := 6) (oi := { dst := some 61, op := Go.Op.nilCheck (Go.Operand.tmp 60), type := 0, pos := "ref.go:101", after := #[{ on := 5, ground := Go.Ground.data }], guard := none }) (v := ?_) rfl (by kernel_rfl) (by kernel_rfl) (by kernel_rfl) (fun _ _ _ h => h) (Or.inl ⟨by rfl, ?_⟩) (by assumption) ?_
  rotate_left
  focus ((intro w hSw; (try dsimp only at hSw); clear hSw; go_simp) <;> (with_reducible rfl))
  try simp only [Act.put, List.setIfInBounds_toArray, List.set_cons_zero, List.set_cons_succ]
  refine wpAnyH_take (i := 7) (oi := { dst := some 62, op := Go.Op.fieldAddr 49 (Go.Operand.tmp 61) 1, type := 0, pos := "ref.go:101", after := #[{ on := 6, ground := Go.Ground.data }], guard := none }) (v := ?_) rfl (by kernel_rfl) (by kernel_rfl) (by kernel_rfl) (fun _ _ _ h => h) (Or.inl ⟨by rfl, ?_⟩) (by assumption) ?_
  rotate_left
  focus ((intro w hSw; (try dsimp only at hSw); clear hSw; go_simp) <;> (with_reducible rfl))
  try simp only [Act.put, List.setIfInBounds_toArray, List.set_cons_zero, List.set_cons_succ]
  refine wpAnyH_take (i := 8) (oi := { dst := some 63, op := Go.Op.load 3 (Go.Operand.tmp 62), type := 3, pos := "ref.go:101", after := #[{ on := 7, ground := Go.Ground.data }], guard := none }) (v := ?_) rfl (by kernel_rfl) (by kernel_rfl) (by kernel_rfl) (fun _ _ _ h => h) (Or.inl ⟨by rfl, ?_⟩) (by assumption) ?_
  rotate_left
  focus ((intro w hSw; (try dsimp only at hSw); have hc : w.cell? ⟨rp, 1, none⟩ = some (.int .i64 most) := lies_cell hSw 1; clear hSw; go_simp) <;> (with_reducible rfl))
  try simp only [Act.put, List.setIfInBounds_toArray, List.set_cons_zero, List.set_cons_succ]
  refine wpAnyH_take (i := 9) (oi := { dst := some 64, op := Go.Op.binOp Go.BinOp.geq 3 (Go.Operand.tmp 59) (Go.Operand.tmp 63) 3, type := 4, pos := "ref.go:101", after := #[{ on := 4, ground := Go.Ground.data }, { on := 8, ground := Go.Ground.data }], guard := none }) (v := ?_) rfl (by kernel_rfl) (by kernel_rfl) (by kernel_rfl) (fun _ _ _ h => h) (Or.inl ⟨by rfl, ?_⟩) (by assumption) ?_
  rotate_left
  focus ((intro w hSw; (try dsimp only at hSw); clear hSw; go_simp) <;> (with_reducible rfl))
  try simp only [Act.put, List.setIfInBounds_toArray, List.set_cons_zero, List.set_cons_succ]
  refine wpAnyH_done (by kernel_rfl) ?_ _
  clear hHeld
  have HRF8 : Hid (Ref base V4.drew rp most wait L2 n D2 (.slice A nx c)) := HRF.out.of ⟨rfl, rfl, rfl, Nat.le_refl _, fun _ _ _ => rfl⟩
  have T8 : Hid (V4.drew.heap[rp]? = some (refC (.slice A nx c) most wait n dJ)) := T4
  have P8 : Hid (V4.drew.heap[w.heap.size]? = some p.rvC) := P4
  have R8 : Hid (V4.drew.heap[w.heap.size + 1]? = some rpz) := R4
  have F8 : Hid (Fq base w V4.drew) := F4.out.drew
  generalize V4.drew = V8 at HRF8 T8 P8 R8 F8 ⊢
  obtain ⟨pb, Hpb⟩ : ∃ pb, Hid (w.heap.size = pb) := ⟨_, rfl⟩
  go_upto_region 17 with (fail)
  simp only [Hpb.out] at P8 R8 ⊢
  have CA : Hid ((V8.alloc (.cells #[.int .i64 p.id, .bool p.m, .int .i64 p.off, .int .i64 p.ttl, .int .i64 p.pr, .string (ipB p.a), .string (ipB p.b), .string p.s, .int .i64 n, .string p.s] 55)).drew.heap[V8.heap.size]? = some (.cells #[.int .i64 p.id, .bool p.m, .int .i64 p.off, .int .i64 p.ttl, .int .i64 p.pr, .string (ipB p.a), .string (ipB p.b), .string p.s, .int .i64 n, .string p.s] 55)) := heap_alloc_new V8 _
  have TA : Hid ((V8.alloc (.cells #[.int .i64 p.id, .bool p.m, .int .i64 p.off, .int .i64 p.ttl, .int .i64 p.pr, .string (ipB p.a), .string (ipB p.b), .string p.s, .int .i64 n, .string p.s] 55)).drew.heap[rp]? = some (refC (.slice A nx c) most wait n dJ)) := lies_alloc T8.out _
  have PA : Hid ((V8.alloc (.cells #[.int .i64 p.id, .bool p.m, .int .i64 p.off, .int .i64 p.ttl, .int .i64 p.pr, .string (ipB p.a), .string (ipB p.b), .string p.s, .int .i64 n, .string p.s] 55)).drew.heap[pb]? = some p.rvC) := lies_alloc P8.out _
  have RA : Hid ((V8.alloc (.cells #[.int .i64 p.id, .bool p.m, .int .i64 p.off, .int .i64 p.ttl, .int .i64 p.pr, .string (ipB p.a), .string (ipB p.b), .string p.s, .int .i64 n, .string p.s] 55)).drew.heap[pb + 1]? = some rpz) := lies_alloc R8.out _
  have KA : Hid (Below V8.heap.size V8 (V8.alloc (.cells #[.int .i64 p.id, .bool p.m, .int .i64 p.off, .int .i64 p.ttl, .int .i64 p.pr, .string (ipB p.a), .string (ipB p.b), .string p.s, .int .i64 n, .string p.s] 55)).drew) := ((Below.refl _ V8).alloc (Nat.le_refl _) _).drew
  have OA : Hid ((V8.alloc (.cells #[.int .i64 p.id, .bool p.m, .int .i64 p.off, .int .i64 p.ttl, .int .i64 p.pr, .string (ipB p.a), .string (ipB p.b), .string p.s, .int .i64 n, .string p.s] 55)).drew.ownsRow base 55 10 (.slice A nx c) nx (flatB L2)) := by
    have := HRF8.out.row
    rw [Hnx.out] at this
    exact World.ownsRow.drew (this.alloc _)
  have HbA : Hid (base ≤ (V8.alloc (.cells #[.int .i64 p.id, .bool p.m, .int .i64 p.off, .int .i64 p.ttl, .int .i64 p.pr, .string (ipB p.a), .string (ipB p.b), .string p.s, .int .i64 n, .string p.s] 55)).drew.heap.size) := by
    show base ≤ (V8.alloc _).heap.size
    rw [World.size_alloc]
    have := HRF8.out.lt.2
    omega
  go_upto_region 17 with (fail)
  refine wp_region_held_drew (S := fun w' => w'.heap[pb]? = some p.rvC) (by kernel_rfl) ?_ (fun hHeld => ?_)
  · exact P8.out
  refine wpAnyH_take (i := 0) (oi := { dst := some 66, op := Go.Op.move (Go.Operand.tmp 0), type := 27, pos := "ref.go:104", after := #[], guard := none }) (v := ?_) rfl (by kernel_rfl) (by kernel_rfl) (by kernel_rfl) (fun _ _ _ h => h) (Or.inl ⟨by rfl, ?_⟩) (by assumption) ?_
  rotate_left
  focus ((intro w hSw; (try dsimp only at hSw); clear hSw; go_simp) <;> (with_reducible rfl))
  try simp only [Act.put, List.setIfInBounds_toArray, List.set_cons_zero, List.set_cons_succ]
  refine wpAnyH_take (i := 1) (oi := { dst := some 67, op := Go.Op.move (Go.Operand.tmp 0), type := 27, pos := "ref.go:104", after := #[], guard := none }) (v := ?_) rfl (by kernel_rfl) (by kernel_rfl) (by kernel_rfl) (fun _ _ _ h => h) (Or.inl ⟨by rfl, ?_⟩) (by assumption) ?_
  rotate_left
  focus ((intro w hSw; (try dsimp only at hSw); clear hSw; go_simp) <;> (with_reducible rfl))
  try simp only [Act.put, List.setIfInBounds_toArray, List.set_cons_zero, List.set_cons_succ]
  refine wpAnyH_take (i := 2) (oi := { dst := some 68, op := Go.Op.nilCheck (Go.Operand.tmp 67), type := 0, pos := "ref.go:104", after := #[{ on := 1, ground := Go.Ground.data }], guard := none }) (v := ?_) rfl (by kernel_rfl) (by kernel_rfl) (by kernel_rfl) (fun _ _ _ h => h) (Or.inl ⟨by rfl, ?_⟩) (by assumption) ?_
  rotate_left
  focus ((intro w hSw; (try dsimp only at hSw); clear hSw; go_simp) <;> (with_reducible rfl))
  try simp only [Act.put, List.setIfInBounds_toArray, List.set_cons_zero, List.set_cons_succ]
  refine wpAnyH_take (i := 3) (oi := { dst := some 69, op := Go.Op.fieldAddr 49 (Go.Operand.tmp 68) 0, type := 0, pos := "ref.go:104", after := #[{ on := 2, ground := Go.Ground.data }], guard := none }) (v := ?_) rfl (by kernel_rfl) (by kernel_rfl) (by kernel_rfl) (fun _ _ _ h => h) (Or.inl ⟨by rfl, ?_⟩) (by assumption) ?_
  rotate_left
  focus ((intro w hSw; (try dsimp only at hSw); clear hSw; go_simp) <;> (with_reducible rfl))
  try simp only [Act.put, List.setIfInBounds_toArray, List.set_cons_zero, List.set_cons_succ]
  refine wpAnyH_take (i := 5) (oi := { dst := some 71, op := Go.Op.load 41 (Go.Operand.tmp 5), type := 41, pos := "ref.go:104", after := #[], guard := none }) (v := ?_) rfl (by kernel_rfl) (by kernel_rfl) (by kernel_rfl) (fun _ _ _ h => h) (Or.inl ⟨by rfl, ?_⟩) (by assumption) ?_
  rotate_left
  focus ((intro w hSw; (try dsimp only at hSw); obtain ⟨q0, q1, q2, q3, q4, q5, q6, q7⟩ := cells8 hSw; clear hSw; go_simp) <;> (with_reducible rfl))
  try simp only [Act.put, List.setIfInBounds_toArray, List.set_cons_zero, List.set_cons_succ]
  refine wpAnyH_take (i := 6) (oi := { dst := some 72, op := Go.Op.move (Go.Operand.tmp 1), type := 3, pos := "ref.go:104", after := #[], guard := none }) (v := ?_) rfl (by kernel_rfl) (by kernel_rfl) (by kernel_rfl) (fun _ _ _ h => h) (Or.inl ⟨by rfl, ?_⟩) (by assumption) ?_
  rotate_left
  focus ((intro w hSw; (try dsimp only at hSw); clear hSw; go_simp) <;> (with_reducible rfl))
  try simp only [Act.put, List.setIfInBounds_toArray, List.set_cons_zero, List.set_cons_succ]
  refine wpAnyH_take (i := 7) (oi := { dst := some 73, op := Go.Op.fieldAddr 41 (Go.Operand.tmp 5) 7, type := 0, pos := "ref.go:104", after := #[], guard := none }) (v := ?_) rfl (by kernel_rfl) (by kernel_rfl) (by kernel_rfl) (fun _ _ _ h => h) (Or.inl ⟨by rfl, ?_⟩) (by assumption) ?_
  rotate_left
  focus ((intro w hSw; (try dsimp only at hSw); clear hSw; go_simp) <;> (with_reducible rfl))
  try simp only [Act.put, List.setIfInBounds_toArray, List.set_cons_zero, List.set_cons_succ]
  refine wpAnyH_take (i := 8) (oi := { dst := some 74, op := Go.Op.load 9 (Go.Operand.tmp 73), type := 9, pos := "ref.go:104", after := #[{ on := 7, ground := Go.Ground.data }], guard := none }) (v := ?_) rfl (by kernel_rfl) (by kernel_rfl) (by kernel_rfl) (fun _ _ _ h => h) (Or.inl ⟨by rfl, ?_⟩) (by assumption) ?_
  rotate_left
  focus ((intro w hSw; (try dsimp only at hSw); have hc : w.cell? ⟨pb, 7, none⟩ = some (.string p.s) := lies_cell hSw 7; clear hSw; go_simp) <;> (with_reducible rfl))
  try simp only [Act.put, List.setIfInBounds_toArray, List.set_cons_zero, List.set_cons_succ]
  refine wpAnyH_take (i := 9) (oi := { dst := some 75, op := Go.Op.build 55 #[(0, Go.Operand.tmp 71), (1, Go.Operand.tmp 72), (2, Go.Operand.tmp 74)], type := 55, pos := "ref.go:104", after := #[{ on := 5, ground := Go.Ground.data }, { on := 6, ground := Go.Ground.data }, { on := 8, ground := Go.Ground.data }], guard := none }) (v := ?_) rfl (by kernel_rfl) (by kernel_rfl) (by kernel_rfl) (fun _ _ _ h => h) (Or.inl ⟨by rfl, ?_⟩) (by assumption) ?_
  rotate_left
  focus ((intro w hSw; (try dsimp only at hSw); clear hSw; go_simp) <;> (with_reducible rfl))
  try simp only [Act.put, List.setIfInBounds_toArray, List.set_cons_zero, List.set_cons_succ]
  refine wpAnyH_ready (rs := [4, 10]) (by kernel_rfl) (by simp) ?_
  refine AllReadyH.cons (o := { dst := some 70, op := Go.Op.load 47 (Go.Operand.tmp 69), type := 47, pos := "ref.go:104", after := #[{ on := 3, ground := Go.Ground.data }], guard := none }) rfl (fun K hK => ?_) (AllReadyH.cons (o := { dst := some 76, op := Go.Op.buildSlice 47 1 #[(0, Go.Operand.tmp 75)], type := 47, pos := "ref.go:104", after := #[{ on := 9, ground := Go.Ground.data }], guard := none }) rfl (fun K hK => ?_) AllReadyH.nil)
  · have hcl : V8.drew.cell? ⟨rp, 0, none⟩ = some (.slice A nx c) := lies_cell T8.out 0
    have hcl2 : ∀ o, (V8.alloc o).drew.cell? ⟨rp, 0, none⟩ = some (.slice A nx c) := fun o => lies_cell (lies_alloc T8.out o) 0
    go_simp
    clear hcl hcl2
    refine hK.out _ _ ?_ (fun hHeld => ?_)
    · exact hHeld
    clear hK K
    try simp only [Act.put, List.setIfInBounds_toArray, List.set_cons_zero, List.set_cons_succ]
    refine wpAnyH_ready (rs := [10]) (by kernel_rfl) (by simp) ?_
    refine AllReadyH.cons (o := { dst := some 76, op := Go.Op.buildSlice 47 1 #[(0, Go.Operand.tmp 75)], type := 47, pos := "ref.go:104", after := #[{ on := 9, ground := Go.Ground.data }], guard := none }) rfl (fun K hK => ?_) AllReadyH.nil
    go_simp
    refine hK.out _ _ ?_ (fun hHeld => ?_)
    · exact lies_alloc hHeld _
    clear hK K
    try simp only [Act.put, List.setIfInBounds_toArray, List.set_cons_zero, List.set_cons_succ]
    refine wpAnyH_ready (rs := [11]) (by kernel_rfl) (by simp) ?_
    refine AllReadyH.cons (o := { dst := some 77, op := Go.Op.call { callee := Go.Callee.builtin Go.Builtin.append, args := #[Go.Operand.tmp 70, Go.Operand.tmp 76], argTypes := #[47, 47] }, type := 47, pos := "ref.go:104", after := #[{ on := 4, ground := Go.Ground.data }, { on := 10, ground := Go.Ground.data }], guard := none }) rfl (fun K hK => ?_) AllReadyH.nil
    obtain ⟨i0, hi0, hz0, hs0, hb0⟩ := info_parts info55
    refine step_append_lies _ (by rfl) _ _ 47 (by rfl) base 55 i0 _ 10 112 Try.underlying47 hi0 hz0 hs0 hb0 rfl (by omega) (.slice A nx c) nx (flatB L2) (by rfl) OA.out ⟨V8.heap.size, 0, none⟩ 1 1 (Rb.mk p hw n p.d).enc (by rfl) (by rfl) (World.news_of_block CA.out) (Rb.enc_one _) (by omega) (by unfold maxLen; omega) (by omega) HbA.out _ rfl ?_
    intro g cc w5 hrow5 hg5 hgb5 hgl5
    have HR5 := Lib.hid hrow5; have HG5 := Lib.hid hg5; clear hrow5 hg5 hgb5 hgl5 hi0 hz0 hs0 hb0 i0
    have P9 : Hid (w5.heap[pb]? = some p.rvC) := (HG5.out.block pb (lies_lt PA.out) (own_ne OA.out PA.out (by decide))).trans PA.out
    have T9 : Hid (w5.heap[rp]? = some (refC (.slice A nx c) most wait n dJ)) := (HG5.out.block rp (lies_lt TA.out) (own_ne OA.out TA.out (by decide))).trans TA.out
    have R9 : Hid (w5.heap[pb + 1]? = some rpz) := (HG5.out.block (pb + 1) (lies_lt RA.out) (own_ne OA.out RA.out (by decide))).trans RA.out
    refine hK.out _ _ ?_ (fun hHeld => ?_)
    · exact P9.out
    clear hK K
    try simp only [Act.put, List.setIfInBounds_toArray, List.set_cons_zero, List.set_cons_succ]
    refine wpAnyH_take (i := 12) (oi := { dst := some 78, op := Go.Op.nilCheck (Go.Operand.tmp 66), type := 0, pos := "ref.go:104", after := #[{ on := 0, ground := Go.Ground.data }, { on := 0, ground := Go.Ground.phase }, { on := 1, ground := Go.Ground.phase }, { on := 2, ground := Go.Ground.phase }, { on := 3, ground := Go.Ground.phase }, { on := 4, ground := Go.Ground.phase }, { on := 5, ground := Go.Ground.phase }, { on := 6, ground := Go.Ground.phase }, { on := 7, ground := Go.Ground.phase }, { on := 8, ground := Go.Ground.phase }, { on := 9, ground := Go.Ground.phase }, { on := 10, ground := Go.Ground.phase }, { on := 11, ground := Go.Ground.phase }], guard := none }) (v := ?_) rfl (by kernel_rfl) (by kernel_rfl) (by kernel_rfl) (fun _ _ _ h => h) (Or.inl ⟨by rfl, ?_⟩) (by assumption) ?_
    rotate_left
    focus ((intro w hSw; (try dsimp only at hSw); clear hSw; go_simp) <;> (with_reducible rfl))
    try simp only [Act.put, List.setIfInBounds_toArray, List.set_cons_zero, List.set_cons_succ]
    refine wpAnyH_take (i := 13) (oi := { dst := some 79, op := Go.Op.fieldAddr 49 (Go.Operand.tmp 78) 0, type := 0, pos := "ref.go:104", after := #[{ on := 12, ground := Go.Ground.data }, { on := 0, ground := Go.Ground.phase }, { on := 1, ground := Go.Ground.phase }, { on := 2, ground := Go.Ground.phase }, { on := 3, ground := Go.Ground.phase }, { on := 4, ground := Go.Ground.phase }, { on := 5, ground := Go.Ground.phase }, { on := 6, ground := Go.Ground.phase }, { on := 7, ground := Go.Ground.phase }, { on := 8, ground := Go.Ground.phase }, { on := 9, ground := Go.Ground.phase }, { on := 10, ground := Go.Ground.phase }, { on := 11, ground := Go.Ground.phase }], guard := none }) (v := ?_) rfl (by kernel_rfl) (by kernel_rfl) (by kernel_rfl) (fun _ _ _ h => h) (Or.inl ⟨by rfl, ?_⟩) (by assumption) ?_
    rotate_left
    focus ((intro w hSw; (try dsimp only at hSw); clear hSw; go_simp) <;> (with_reducible rfl))
    try simp only [Act.put, List.setIfInBounds_toArray, List.set_cons_zero, List.set_cons_succ]
    refine wpAnyH_ready (rs := [14]) (by kernel_rfl) (by simp) ?_
    refine AllReadyH.cons (o := { dst := none, op := Go.Op.store 47 (Go.Operand.tmp 79) (Go.Operand.tmp 77), type := 0, pos := "ref.go:104", after := #[{ on := 13, ground := Go.Ground.data }, { on := 11, ground := Go.Ground.data }, { on := 11, ground := Go.Ground.chain }, { on := 0, ground := Go.Ground.phase }, { on := 1, ground := Go.Ground.phase }, { on := 2, ground := Go.Ground.phase }, { on := 3, ground := Go.Ground.phase }, { on := 4, ground := Go.Ground.phase }, { on := 5, ground := Go.Ground.phase }, { on := 6, ground := Go.Ground.phase }, { on := 7, ground := Go.Ground.phase }, { on := 8, ground := Go.Ground.phase }, { on := 9, ground := Go.Ground.phase }, { on := 10, ground := Go.Ground.phase }, { on := 11, ground := Go.Ground.phase }], guard := none }) rfl (fun K hK => ?_) AllReadyH.nil
    have hc5 : w5.cell? ⟨rp, 0, none⟩ = some (.slice A nx c) := lies_cell T9.out 0
    have hf5 := lies_frozen T9.out 0
    go_simp
    clear hc5 hf5
    refine hK.out _ _ ?_ (fun hHeld => ?_)
    · exact set_kind P9.out T9.out (by decide) _ _
    clear hK K
    try simp only [Act.put, List.setIfInBounds_toArray, List.set_cons_zero, List.set_cons_succ]
    refine wpAnyH_done (by kernel_rfl) ?_ _
    clear hHeld
    have HFIN := Lib.hid (first_fin hw HRF8.out Hnx.out HdJ.out F8.out KA.out HR5.out HG5.out)
    have LX : Hid ((w5.setCell ⟨rp, 0, none⟩ (.slice (some ⟨g, 0, none⟩) (nx + 1) cc)).heap[pb + 1]? = some rpz) := set_kind R9.out T9.out (by decide) _ _
    generalize w5.setCell ⟨rp, 0, none⟩ (.slice (some ⟨g, 0, none⟩) (nx + 1) cc) = V9 at HFIN LX ⊢
    obtain ⟨r0, r1, r2, r3, r4, r5, r6, r7⟩ := cells8 LX.out
    have f0 := lies_frozen LX.out 0
    have f1 := lies_frozen LX.out 1
    have f2 := lies_frozen LX.out 2
    have f3 := lies_frozen LX.out 3
    have f4 := lies_frozen LX.out 4
    have f5 := lies_frozen LX.out 5
    have f6 := lies_frozen LX.out 6
    have f7 := lies_frozen LX.out 7
    go_wp2
    (try simp only [Exit.inBlock, Exit.then])
    obtain ⟨k0, k1, k2, k3, k4, k5, k6, k7, _⟩ := read_8 (y0 := .int .i64 0) (y1 := .bool false) (y2 := .int .i64 0) (y3 := .int .i64 0) (y4 := .int .i64 0) (y5 := .string ⟨#[]⟩) (y6 := .string ⟨#[]⟩) (y7 := .string ⟨#[]⟩) LX.out
    refine bodyPost_ret (by simp [results, Try.results15, go_sem, k0, k1, k2, k3, k4, k5, k6, k7]; try rfl) rfl ?_
    exact ⟨rfl, stored_8 HFIN.out.1 HFIN.out.2 Hb.out (by rw [Hpb.out]; omega) LX.out _ _ _ _ _ _ _ _⟩
  · go_simp
    refine hK.out _ _ ?_ (fun hHeld => ?_)
    · exact lies_alloc hHeld _
    clear hK K
    try simp only [Act.put, List.setIfInBounds_toArray, List.set_cons_zero, List.set_cons_succ]
    refine wpAnyH_ready (rs := [4]) (by kernel_rfl) (by simp) ?_
    refine AllReadyH.cons (o := { dst := some 70, op := Go.Op.load 47 (Go.Operand.tmp 69), type := 47, pos := "ref.go:104", after := #[{ on := 3, ground := Go.Ground.data }], guard := none }) rfl (fun K hK => ?_) AllReadyH.nil
    have hcl : V8.drew.cell? ⟨rp, 0, none⟩ = some (.slice A nx c) := lies_cell T8.out 0
    have hcl2 : ∀ o, (V8.alloc o).drew.cell? ⟨rp, 0, none⟩ = some (.slice A nx c) := fun o => lies_cell (lies_alloc T8.out o) 0
    go_simp
    clear hcl hcl2
    refine hK.out _ _ ?_ (fun hHeld => ?_)
    · exact hHeld
    clear hK K
    try simp only [Act.put, List.setIfInBounds_toArray, List.set_cons_zero, List.set_cons_succ]
    refine wpAnyH_ready (rs := [11]) (by kernel_rfl) (by simp) ?_
    refine AllReadyH.cons (o := { dst := some 77, op := Go.Op.call { callee := Go.Callee.builtin Go.Builtin.append, args := #[Go.Operand.tmp 70, Go.Operand.tmp 76], argTypes := #[47, 47] }, type := 47, pos := "ref.go:104", after := #[{ on := 4, ground := Go.Ground.data }, { on := 10, ground := Go.Ground.data }], guard := none }) rfl (fun K hK => ?_) AllReadyH.nil
    obtain ⟨i0, hi0, hz0, hs0, hb0⟩ := info_parts info55
    refine step_append_lies _ (by rfl) _ _ 47 (by rfl) base 55 i0 _ 10 112 Try.underlying47 hi0 hz0 hs0 hb0 rfl (by omega) (.slice A nx c) nx (flatB L2) (by rfl) OA.out ⟨V8.heap.size, 0, none⟩ 1 1 (Rb.mk p hw n p.d).enc (by rfl) (by rfl) (World.news_of_block CA.out) (Rb.enc_one _) (by omega) (by unfold maxLen; omega) (by omega) HbA.out _ rfl ?_
    intro g cc w5 hrow5 hg5 hgb5 hgl5
    have HR5 := Lib.hid hrow5; have HG5 := Lib.hid hg5; clear hrow5 hg5 hgb5 hgl5 hi0 hz0 hs0 hb0 i0
    have P9 : Hid (w5.heap[pb]? = some p.rvC) := (HG5.out.block pb (lies_lt PA.out) (own_ne OA.out PA.out (by decide))).trans PA.out
    have T9 : Hid (w5.heap[rp]? = some (refC (.slice A nx c) most wait n dJ)) := (HG5.out.block rp (lies_lt TA.out) (own_ne OA.out TA.out (by decide))).trans TA.out
    have R9 : Hid (w5.heap[pb + 1]? = some rpz) := (HG5.out.block (pb + 1) (lies_lt RA.out) (own_ne OA.out RA.out (by decide))).trans RA.out
    refine hK.out _ _ ?_ (fun hHeld => ?_)
    · exact P9.out
    clear hK K
    try simp only [Act.put, List.setIfInBounds_toArray, List.set_cons_zero, List.set_cons_succ]
    refine wpAnyH_take (i := 12) (oi := { dst := some 78, op := Go.Op.nilCheck (Go.Operand.tmp 66), type := 0, pos := "ref.go:104", after := #[{ on := 0, ground := Go.Ground.data }, { on := 0, ground := Go.Ground.phase }, { on := 1, ground := Go.Ground.phase }, { on := 2, ground := Go.Ground.phase }, { on := 3, ground := Go.Ground.phase }, { on := 4, ground := Go.Ground.phase }, { on := 5, ground := Go.Ground.phase }, { on := 6, ground := Go.Ground.phase }, { on := 7, ground := Go.Ground.phase }, { on := 8, ground := Go.Ground.phase }, { on := 9, ground := Go.Ground.phase }, { on := 10, ground := Go.Ground.phase }, { on := 11, ground := Go.Ground.phase }], guard := none }) (v := ?_) rfl (by kernel_rfl) (by kernel_rfl) (by kernel_rfl) (fun _ _ _ h => h) (Or.inl ⟨by rfl, ?_⟩) (by assumption) ?_
    rotate_left
    focus ((intro w hSw; (try dsimp only at hSw); clear hSw; go_simp) <;> (with_reducible rfl))
    try simp only [Act.put, List.setIfInBounds_toArray, List.set_cons_zero, List.set_cons_succ]
    refine wpAnyH_take (i := 13) (oi := { dst := some 79, op := Go.Op.fieldAddr 49 (Go.Operand.tmp 78) 0, type := 0, pos := "ref.go:104", after := #[{ on := 12, ground := Go.Ground.data }, { on := 0, ground := Go.Ground.phase }, { on := 1, ground := Go.Ground.phase }, { on := 2, ground := Go.Ground.phase }, { on := 3, ground := Go.Ground.phase }, { on := 4, ground := Go.Ground.phase }, { on := 5, ground := Go.Ground.phase }, { on := 6, ground := Go.Ground.phase }, { on := 7, ground := Go.Ground.phase }, { on := 8, ground := Go.Ground.phase }, { on := 9, ground := Go.Ground.phase }, { on := 10, ground := Go.Ground.phase }, { on := 11, ground := Go.Ground.phase }], guard := none }) (v := ?_) rfl (by kernel_rfl) (by kernel_rfl) (by kernel_rfl) (fun _ _ _ h => h) (Or.inl ⟨by rfl, ?_⟩) (by assumption) ?_
    rotate_left
    focus ((intro w hSw; (try dsimp only at hSw); clear hSw; go_simp) <;> (with_reducible rfl))
    try simp only [Act.put, List.setIfInBounds_toArray, List.set_cons_zero, List.set_cons_succ]
    refine wpAnyH_ready (rs := [14]) (by kernel_rfl) (by simp) ?_
    refine AllReadyH.cons (o := { dst := none, op := Go.Op.store 47 (Go.Operand.tmp 79) (Go.Operand.tmp 77), type := 0, pos := "ref.go:104", after := #[{ on := 13, ground := Go.Ground.data }, { on := 11, ground := Go.Ground.data }, { on := 11, ground := Go.Ground.chain }, { on := 0, ground := Go.Ground.phase }, { on := 1, ground := Go.Ground.phase }, { on := 2, ground := Go.Ground.phase }, { on := 3, ground := Go.Ground.phase }, { on := 4, ground := Go.Ground.phase }, { on := 5, ground := Go.Ground.phase }, { on := 6, ground := Go.Ground.phase }, { on := 7, ground := Go.Ground.phase }, { on := 8, ground := Go.Ground.phase }, { on := 9, ground := Go.Ground.phase }, { on := 10, ground := Go.Ground.phase }, { on := 11, ground := Go.Ground.phase }], guard := none }) rfl (fun K hK => ?_) AllReadyH.nil
    have hc5 : w5.cell? ⟨rp, 0, none⟩ = some (.slice A nx c) := lies_cell T9.out 0
    have hf5 := lies_frozen T9.out 0
    go_simp
    clear hc5 hf5
    refine hK.out _ _ ?_ (fun hHeld => ?_)
    · exact set_kind P9.out T9.out (by decide) _ _
    clear hK K
    try simp only [Act.put, List.setIfInBounds_toArray, List.set_cons_zero, List.set_cons_succ]
    refine wpAnyH_done (by kernel_rfl) ?_ _
    clear hHeld
    have HFIN := Lib.hid (first_fin hw HRF8.out Hnx.out HdJ.out F8.out KA.out HR5.out HG5.out)
    have LX : Hid ((w5.setCell ⟨rp, 0, none⟩ (.slice (some ⟨g, 0, none⟩) (nx + 1) cc)).heap[pb + 1]? = some rpz) := set_kind R9.out T9.out (by decide) _ _
    generalize w5.setCell ⟨rp, 0, none⟩ (.slice (some ⟨g, 0, none⟩) (nx + 1) cc) = V9 at HFIN LX ⊢
    obtain ⟨r0, r1, r2, r3, r4, r5, r6, r7⟩ := cells8 LX.out
    have f0 := lies_frozen LX.out 0
    have f1 := lies_frozen LX.out 1
    have f2 := lies_frozen LX.out 2
    have f3 := lies_frozen LX.out 3
    have f4 := lies_frozen LX.out 4
    have f5 := lies_frozen LX.out 5
    have f6 := lies_frozen LX.out 6
    have f7 := lies_frozen LX.out 7
    go_wp2
    (try simp only [Exit.inBlock, Exit.then])
    obtain ⟨k0, k1, k2, k3, k4, k5, k6, k7, _⟩ := read_8 (y0 := .int .i64 0) (y1 := .bool false) (y2 := .int .i64 0) (y3 := .int .i64 0) (y4 := .int .i64 0) (y5 := .string ⟨#[]⟩) (y6 := .string ⟨#[]⟩) (y7 := .string ⟨#[]⟩) LX.out
    refine bodyPost_ret (by simp [results, Try.results15, go_sem, k0, k1, k2, k3, k4, k5, k6, k7]; try rfl) rfl ?_
    exact ⟨rfl, stored_8 HFIN.out.1 HFIN.out.2 Hb.out (by rw [Hpb.out]; omega) LX.out _ _ _ _ _ _ _ _⟩
end Go.Proofs.Ytgdjcoodjdckkaa
