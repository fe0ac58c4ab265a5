/- The program's reader: a window. -/
import Derived.Test.YtdgkanamceeheaaGreatM16
import Derived.Test.YtdgkanamceeheaaGreatM30
set_option linter.unusedVariables false
set_option maxRecDepth 100000
set_option linter.unusedVariables false
namespace Go.Proofs.YtdgkanamceeheaaGreat.Im
open Go.RowKit
open PitotImg (St rd)
theorem put_3 {W : World} {g : Nat} {T : TypeId} {x0 x1 x2 y0 y1 y2 : Value} (h : W.heap[g]? = some (.cells #[x0, x1, x2] T)) : ((((W.setCell ⟨g, 0, none⟩ (y0)).setCell ⟨g, 1, none⟩ (y1)).setCell ⟨g, 2, none⟩ (y2))).heap[g]? = some (.cells #[y0, y1, y2] T) := by
  obtain ⟨_, _, _, hx⟩ := read_3 (y0 := y0) (y1 := y1) (y2 := y2) h
  exact hx
theorem far_3 {W : World} {g b : Nat} {y0 y1 y2 : Value} (h : g ≠ b) : ((((W.setCell ⟨g, 0, none⟩ (y0)).setCell ⟨g, 1, none⟩ (y1)).setCell ⟨g, 2, none⟩ (y2))).heap[b]? = W.heap[b]? := by
  refine (heap_set_ne h).trans ((heap_set_ne h).trans ((heap_set_ne h)))
theorem frs_3 {base a b vb : Nat} {w W : World} {y0 y1 y2 : Value} (h : Fr base a b w W) (hv : base ≤ vb) : Fr base a b w ((((W.setCell ⟨vb, 0, none⟩ (y0)).setCell ⟨vb, 1, none⟩ (y1)).setCell ⟨vb, 2, none⟩ (y2))) :=
  Fr.setN (Fr.setN (Fr.setN (h) hv) hv) hv
theorem put_6 {W : World} {g : Nat} {T : TypeId} {x0 x1 x2 x3 x4 x5 y0 y1 y2 y3 y4 y5 : Value} (h : W.heap[g]? = some (.cells #[x0, x1, x2, x3, x4, x5] T)) : (((((((W.setCell ⟨g, 0, none⟩ (y0)).setCell ⟨g, 1, none⟩ (y1)).setCell ⟨g, 2, none⟩ (y2)).setCell ⟨g, 3, none⟩ (y3)).setCell ⟨g, 4, none⟩ (y4)).setCell ⟨g, 5, none⟩ (y5))).heap[g]? = some (.cells #[y0, y1, y2, y3, y4, y5] T) := by
  obtain ⟨_, _, _, _, _, _, hx⟩ := read_6 (y0 := y0) (y1 := y1) (y2 := y2) (y3 := y3) (y4 := y4) (y5 := y5) h
  exact hx
theorem far_6 {W : World} {g b : Nat} {y0 y1 y2 y3 y4 y5 : Value} (h : g ≠ b) : (((((((W.setCell ⟨g, 0, none⟩ (y0)).setCell ⟨g, 1, none⟩ (y1)).setCell ⟨g, 2, none⟩ (y2)).setCell ⟨g, 3, none⟩ (y3)).setCell ⟨g, 4, none⟩ (y4)).setCell ⟨g, 5, none⟩ (y5))).heap[b]? = W.heap[b]? := by
  refine (heap_set_ne h).trans ((heap_set_ne h).trans ((heap_set_ne h).trans ((heap_set_ne h).trans ((heap_set_ne h).trans ((heap_set_ne h))))))
theorem frs_6 {base a b vb : Nat} {w W : World} {y0 y1 y2 y3 y4 y5 : Value} (h : Fr base a b w W) (hv : base ≤ vb) : Fr base a b w (((((((W.setCell ⟨vb, 0, none⟩ (y0)).setCell ⟨vb, 1, none⟩ (y1)).setCell ⟨vb, 2, none⟩ (y2)).setCell ⟨vb, 3, none⟩ (y3)).setCell ⟨vb, 4, none⟩ (y4)).setCell ⟨vb, 5, none⟩ (y5))) :=
  Fr.setN (Fr.setN (Fr.setN (Fr.setN (Fr.setN (Fr.setN (h) hv) hv) hv) hv) hv) hv
theorem put_8 {W : World} {g : Nat} {T : TypeId} {x0 x1 x2 x3 x4 x5 x6 x7 y0 y1 y2 y3 y4 y5 y6 y7 : Value} (h : W.heap[g]? = some (.cells #[x0, x1, x2, x3, x4, x5, x6, x7] T)) : (((((((((W.setCell ⟨g, 0, none⟩ (y0)).setCell ⟨g, 1, none⟩ (y1)).setCell ⟨g, 2, none⟩ (y2)).setCell ⟨g, 3, none⟩ (y3)).setCell ⟨g, 4, none⟩ (y4)).setCell ⟨g, 5, none⟩ (y5)).setCell ⟨g, 6, none⟩ (y6)).setCell ⟨g, 7, none⟩ (y7))).heap[g]? = some (.cells #[y0, y1, y2, y3, y4, y5, y6, y7] T) := by
  obtain ⟨_, _, _, _, _, _, _, _, hx⟩ := read_8 (y0 := y0) (y1 := y1) (y2 := y2) (y3 := y3) (y4 := y4) (y5 := y5) (y6 := y6) (y7 := y7) h
  exact hx
theorem far_8 {W : World} {g b : Nat} {y0 y1 y2 y3 y4 y5 y6 y7 : Value} (h : g ≠ b) : (((((((((W.setCell ⟨g, 0, none⟩ (y0)).setCell ⟨g, 1, none⟩ (y1)).setCell ⟨g, 2, none⟩ (y2)).setCell ⟨g, 3, none⟩ (y3)).setCell ⟨g, 4, none⟩ (y4)).setCell ⟨g, 5, none⟩ (y5)).setCell ⟨g, 6, none⟩ (y6)).setCell ⟨g, 7, none⟩ (y7))).heap[b]? = W.heap[b]? := by
  refine (heap_set_ne h).trans ((heap_set_ne h).trans ((heap_set_ne h).trans ((heap_set_ne h).trans ((heap_set_ne h).trans ((heap_set_ne h).trans ((heap_set_ne h).trans ((heap_set_ne h))))))))
theorem frs_8 {base a b vb : Nat} {w W : World} {y0 y1 y2 y3 y4 y5 y6 y7 : Value} (h : Fr base a b w W) (hv : base ≤ vb) : Fr base a b w (((((((((W.setCell ⟨vb, 0, none⟩ (y0)).setCell ⟨vb, 1, none⟩ (y1)).setCell ⟨vb, 2, none⟩ (y2)).setCell ⟨vb, 3, none⟩ (y3)).setCell ⟨vb, 4, none⟩ (y4)).setCell ⟨vb, 5, none⟩ (y5)).setCell ⟨vb, 6, none⟩ (y6)).setCell ⟨vb, 7, none⟩ (y7))) :=
  Fr.setN (Fr.setN (Fr.setN (Fr.setN (Fr.setN (Fr.setN (Fr.setN (Fr.setN (h) hv) hv) hv) hv) hv) hv) hv) hv
theorem put_11 {W : World} {g : Nat} {T : TypeId} {x0 x1 x2 x3 x4 x5 x6 x7 x8 x9 x10 y0 y1 y2 y3 y4 y5 y6 y7 y8 y9 y10 : Value} (h : W.heap[g]? = some (.cells #[x0, x1, x2, x3, x4, x5, x6, x7, x8, x9, x10] T)) : ((((((((((((W.setCell ⟨g, 0, none⟩ (y0)).setCell ⟨g, 1, none⟩ (y1)).setCell ⟨g, 2, none⟩ (y2)).setCell ⟨g, 3, none⟩ (y3)).setCell ⟨g, 4, none⟩ (y4)).setCell ⟨g, 5, none⟩ (y5)).setCell ⟨g, 6, none⟩ (y6)).setCell ⟨g, 7, none⟩ (y7)).setCell ⟨g, 8, none⟩ (y8)).setCell ⟨g, 9, none⟩ (y9)).setCell ⟨g, 10, none⟩ (y10))).heap[g]? = some (.cells #[y0, y1, y2, y3, y4, y5, y6, y7, y8, y9, y10] T) := by
  obtain ⟨_, _, _, _, _, _, _, _, _, _, _, hx⟩ := read_11 (y0 := y0) (y1 := y1) (y2 := y2) (y3 := y3) (y4 := y4) (y5 := y5) (y6 := y6) (y7 := y7) (y8 := y8) (y9 := y9) (y10 := y10) h
  exact hx
theorem far_11 {W : World} {g b : Nat} {y0 y1 y2 y3 y4 y5 y6 y7 y8 y9 y10 : Value} (h : g ≠ b) : ((((((((((((W.setCell ⟨g, 0, none⟩ (y0)).setCell ⟨g, 1, none⟩ (y1)).setCell ⟨g, 2, none⟩ (y2)).setCell ⟨g, 3, none⟩ (y3)).setCell ⟨g, 4, none⟩ (y4)).setCell ⟨g, 5, none⟩ (y5)).setCell ⟨g, 6, none⟩ (y6)).setCell ⟨g, 7, none⟩ (y7)).setCell ⟨g, 8, none⟩ (y8)).setCell ⟨g, 9, none⟩ (y9)).setCell ⟨g, 10, none⟩ (y10))).heap[b]? = W.heap[b]? := by
  refine (heap_set_ne h).trans ((heap_set_ne h).trans ((heap_set_ne h).trans ((heap_set_ne h).trans ((heap_set_ne h).trans ((heap_set_ne h).trans ((heap_set_ne h).trans ((heap_set_ne h).trans ((heap_set_ne h).trans ((heap_set_ne h).trans ((heap_set_ne h)))))))))))
theorem frs_11 {base a b vb : Nat} {w W : World} {y0 y1 y2 y3 y4 y5 y6 y7 y8 y9 y10 : Value} (h : Fr base a b w W) (hv : base ≤ vb) : Fr base a b w ((((((((((((W.setCell ⟨vb, 0, none⟩ (y0)).setCell ⟨vb, 1, none⟩ (y1)).setCell ⟨vb, 2, none⟩ (y2)).setCell ⟨vb, 3, none⟩ (y3)).setCell ⟨vb, 4, none⟩ (y4)).setCell ⟨vb, 5, none⟩ (y5)).setCell ⟨vb, 6, none⟩ (y6)).setCell ⟨vb, 7, none⟩ (y7)).setCell ⟨vb, 8, none⟩ (y8)).setCell ⟨vb, 9, none⟩ (y9)).setCell ⟨vb, 10, none⟩ (y10))) :=
  Fr.setN (Fr.setN (Fr.setN (Fr.setN (Fr.setN (Fr.setN (Fr.setN (Fr.setN (Fr.setN (Fr.setN (Fr.setN (h) hv) hv) hv) hv) hv) hv) hv) hv) hv) hv) hv
set_option maxHeartbeats 4000000 in
theorem rwin_any (p r : Nat) (y1 y2 y3 : Int) (σ σ1 σ2 σ3 : St) (w : World) (h : PS w p r 0 σ) (hpr : p ≠ r) (h1 : rd 2 σ = (y1, σ1)) (h2 : rd 4 σ1 = (y2, σ2)) (h3 : rd 4 σ2 = (y3, σ3)) : Calls Tryz.prog 43 #[.pointer (some ⟨p, 0, none⟩)] w fun e w' => e = .returned (.agg #[.int .i64 y1, .int .i64 y2, .int .i64 y3]) ∧ PS w' p r 0 σ3 ∧ Fr w.heap.size r p w w' := by
  have HN1 := Lib.hid (pU16_of (r := r) h1)
  have HN2 := Lib.hid (pU32_of (r := r) h2)
  have HN3 := Lib.hid (pU32_of (r := r) h3)
  have HPR := Lib.hid hpr
  have HP : Hid ((w.alloc (.cells #[.int .i64 0, .int .i64 0, .int .i64 0] 58)).heap[p]? = some (.cells #[.pointer (some ⟨r, 0, none⟩), .int .i64 0] 50)) := lies_alloc h.1 _
  have HR : Hid (RS 82 (w.alloc (.cells #[.int .i64 0, .int .i64 0, .int .i64 0] 58)) r σ) := RS.al h.2 _
  have HF : Hid (Fr w.heap.size r p w (w.alloc (.cells #[.int .i64 0, .int .i64 0, .int .i64 0] 58))) := Fr.al Fr.refl _
  have VB : Hid ((w.alloc (.cells #[.int .i64 0, .int .i64 0, .int .i64 0] 58)).heap[w.heap.size]? = some (.cells #[.int .i64 0, .int .i64 0, .int .i64 0] 58)) := heap_alloc_new w _
  have hpw := lies_lt h.1
  have hrw := h.2.lt
  have hzw := zero_win
  clear h h1 h2 h3 hpr
  go_enter Tryz.func43, Tryz.ntmps43
  go_upto_region 1 with (fail)
  obtain ⟨W1, hW1⟩ : ∃ W, w.alloc (.cells #[.int .i64 0, .int .i64 0, .int .i64 0] 58) = W := ⟨_, rfl⟩
  rw [hW1] at HP HR HF VB ⊢
  clear hW1
  obtain ⟨vb, hvb⟩ : ∃ n, w.heap.size = n := ⟨_, rfl⟩
  rw [hvb] at HF VB hpw hrw ⊢
  have HHB := Lib.hid hvb
  clear hvb
  have HPd : Hid ((World.drew W1).heap[p]? = _) := HP.out
  have HRd : Hid (RS 82 (World.drew W1) r _) := HR.out
  have HFd := Lib.hid (HF.out.trans Fr.dr)
  have VBd : Hid ((World.drew W1).heap[_]? = _) := VB.out
  clear HP HR HF VB
  have HP := HPd
  have HR := HRd
  have HF := HFd
  have VB := VBd
  clear HPd HRd HFd VBd
  refine wp_region_held_drew (S := (fun w' => w'.cell? ⟨p, 0, none⟩ = some (.pointer (some ⟨r, 0, none⟩)))) (by kernel_rfl) ?_ (fun hHeld => ?_)
  · exact lies_cell HP.out 0
  refine wpAnyH_take (i := 0) (oi := ⟨some 3, .move (.tmp 0), 46, "read.go:52", #[], none⟩) (v := ?_) rfl (by kernel_rfl) (by kernel_rfl) (by kernel_rfl) (fun _ _ _ h => h) (Or.inl ⟨by rfl, ?_⟩) (by assumption) ?_
  rotate_left
  focus ((intro w hSw; (try dsimp only at hSw); clear hSw; go_simp) <;> (with_reducible rfl))
  try simp only [Act.put, List.setIfInBounds_toArray, List.set_cons_zero, List.set_cons_succ]
  refine wpAnyH_take (i := 1) (oi := ⟨some 4, .nilCheck (.tmp 3), 0, "read.go:52", #[⟨0, .data⟩], none⟩) (v := ?_) rfl (by kernel_rfl) (by kernel_rfl) (by kernel_rfl) (fun _ _ _ h => h) (Or.inl ⟨by rfl, ?_⟩) (by assumption) ?_
  rotate_left
  focus ((intro w hSw; (try dsimp only at hSw); clear hSw; go_simp) <;> (with_reducible rfl))
  try simp only [Act.put, List.setIfInBounds_toArray, List.set_cons_zero, List.set_cons_succ]
  refine wpAnyH_take (i := 2) (oi := ⟨some 5, .fieldAddr 50 (.tmp 4) 0, 0, "read.go:52", #[⟨1, .data⟩], none⟩) (v := ?_) rfl (by kernel_rfl) (by kernel_rfl) (by kernel_rfl) (fun _ _ _ h => h) (Or.inl ⟨by rfl, ?_⟩) (by assumption) ?_
  rotate_left
  focus ((intro w hSw; (try dsimp only at hSw); clear hSw; go_simp) <;> (with_reducible rfl))
  try simp only [Act.put, List.setIfInBounds_toArray, List.set_cons_zero, List.set_cons_succ]
  refine wpAnyH_take (i := 3) (oi := ⟨some 6, .load 47 (.tmp 5), 47, "read.go:52", #[⟨2, .data⟩], none⟩) (v := ?_) rfl (by kernel_rfl) (by kernel_rfl) (by kernel_rfl) (fun _ _ _ h => h) (Or.inl ⟨by rfl, ?_⟩) (by assumption) ?_
  rotate_left
  focus ((intro w hSw; (try dsimp only at hSw); have c0 := hSw; clear hSw; go_simp) <;> (with_reducible rfl))
  try simp only [Act.put, List.setIfInBounds_toArray, List.set_cons_zero, List.set_cons_succ]
  refine wpAnyH_take (i := 5) (oi := ⟨some 8, .move (.tmp 0), 46, "read.go:52", #[], none⟩) (v := ?_) rfl (by kernel_rfl) (by kernel_rfl) (by kernel_rfl) (fun _ _ _ h => h) (Or.inl ⟨by rfl, ?_⟩) (by assumption) ?_
  rotate_left
  focus ((intro w hSw; (try dsimp only at hSw); clear hSw; go_simp) <;> (with_reducible rfl))
  try simp only [Act.put, List.setIfInBounds_toArray, List.set_cons_zero, List.set_cons_succ]
  refine wpAnyH_take (i := 6) (oi := ⟨some 9, .nilCheck (.tmp 8), 0, "read.go:52", #[⟨5, .data⟩], none⟩) (v := ?_) rfl (by kernel_rfl) (by kernel_rfl) (by kernel_rfl) (fun _ _ _ h => h) (Or.inl ⟨by rfl, ?_⟩) (by assumption) ?_
  rotate_left
  focus ((intro w hSw; (try dsimp only at hSw); clear hSw; go_simp) <;> (with_reducible rfl))
  try simp only [Act.put, List.setIfInBounds_toArray, List.set_cons_zero, List.set_cons_succ]
  refine wpAnyH_take (i := 7) (oi := ⟨some 10, .fieldAddr 50 (.tmp 9) 0, 0, "read.go:52", #[⟨6, .data⟩], none⟩) (v := ?_) rfl (by kernel_rfl) (by kernel_rfl) (by kernel_rfl) (fun _ _ _ h => h) (Or.inl ⟨by rfl, ?_⟩) (by assumption) ?_
  rotate_left
  focus ((intro w hSw; (try dsimp only at hSw); clear hSw; go_simp) <;> (with_reducible rfl))
  try simp only [Act.put, List.setIfInBounds_toArray, List.set_cons_zero, List.set_cons_succ]
  refine wpAnyH_take (i := 8) (oi := ⟨some 11, .load 47 (.tmp 10), 47, "read.go:52", #[⟨7, .data⟩], none⟩) (v := ?_) rfl (by kernel_rfl) (by kernel_rfl) (by kernel_rfl) (fun _ _ _ h => h) (Or.inl ⟨by rfl, ?_⟩) (by assumption) ?_
  rotate_left
  focus ((intro w hSw; (try dsimp only at hSw); have c0 := hSw; clear hSw; go_simp) <;> (with_reducible rfl))
  try simp only [Act.put, List.setIfInBounds_toArray, List.set_cons_zero, List.set_cons_succ]
  refine wpAnyH_take (i := 10) (oi := ⟨some 13, .move (.tmp 0), 46, "read.go:52", #[], none⟩) (v := ?_) rfl (by kernel_rfl) (by kernel_rfl) (by kernel_rfl) (fun _ _ _ h => h) (Or.inl ⟨by rfl, ?_⟩) (by assumption) ?_
  rotate_left
  focus ((intro w hSw; (try dsimp only at hSw); clear hSw; go_simp) <;> (with_reducible rfl))
  try simp only [Act.put, List.setIfInBounds_toArray, List.set_cons_zero, List.set_cons_succ]
  refine wpAnyH_take (i := 11) (oi := ⟨some 14, .nilCheck (.tmp 13), 0, "read.go:52", #[⟨10, .data⟩], none⟩) (v := ?_) rfl (by kernel_rfl) (by kernel_rfl) (by kernel_rfl) (fun _ _ _ h => h) (Or.inl ⟨by rfl, ?_⟩) (by assumption) ?_
  rotate_left
  focus ((intro w hSw; (try dsimp only at hSw); clear hSw; go_simp) <;> (with_reducible rfl))
  try simp only [Act.put, List.setIfInBounds_toArray, List.set_cons_zero, List.set_cons_succ]
  refine wpAnyH_take (i := 12) (oi := ⟨some 15, .fieldAddr 50 (.tmp 14) 0, 0, "read.go:52", #[⟨11, .data⟩], none⟩) (v := ?_) rfl (by kernel_rfl) (by kernel_rfl) (by kernel_rfl) (fun _ _ _ h => h) (Or.inl ⟨by rfl, ?_⟩) (by assumption) ?_
  rotate_left
  focus ((intro w hSw; (try dsimp only at hSw); clear hSw; go_simp) <;> (with_reducible rfl))
  try simp only [Act.put, List.setIfInBounds_toArray, List.set_cons_zero, List.set_cons_succ]
  refine wpAnyH_take (i := 13) (oi := ⟨some 16, .load 47 (.tmp 15), 47, "read.go:52", #[⟨12, .data⟩], none⟩) (v := ?_) rfl (by kernel_rfl) (by kernel_rfl) (by kernel_rfl) (fun _ _ _ h => h) (Or.inl ⟨by rfl, ?_⟩) (by assumption) ?_
  rotate_left
  focus ((intro w hSw; (try dsimp only at hSw); have c0 := hSw; clear hSw; go_simp) <;> (with_reducible rfl))
  try simp only [Act.put, List.setIfInBounds_toArray, List.set_cons_zero, List.set_cons_succ]
  refine wpAnyH_ready (rs := [4]) (by kernel_rfl) (by simp) ?_
  refine AllReadyH.cons (o := ⟨some 7, .call ⟨.value (.func 38), #[.tmp 6], #[47]⟩, 3, "read.go:52", #[⟨3, .data⟩], none⟩) rfl (fun K hK => ?_) AllReadyH.nil
  have c0 := lies_cell HP.out 0
  go_simp
  (go_at_call 38; (with_reducible refine (HN1.out _ HR.out).mono ?_); rintro e V ⟨rfl, hw, hg⟩; go_wp2_with fail)
  clear c0
  have HPd := Lib.hid (lies_grown HP.out hg HPR.out)
  have HRd := Lib.hid hw
  have HFd := Lib.hid (Fr.of_grown (b := p) HF.out hg)
  have VBd := Lib.hid (lies_grown VB.out hg (by omega))
  clear HP HR HF VB hg hw
  have HP := HPd
  have HR := HRd
  have HF := HFd
  have VB := VBd
  clear HPd HRd HFd VBd
  refine hK.out _ _ ?_ (fun hHeld => ?_)
  · exact lies_cell HP.out 0
  clear hK K
  try simp only [Act.put, List.setIfInBounds_toArray, List.set_cons_zero, List.set_cons_succ]
  refine wpAnyH_ready (rs := [9]) (by kernel_rfl) (by simp) ?_
  refine AllReadyH.cons (o := ⟨some 12, .call ⟨.value (.func 40), #[.tmp 11], #[47]⟩, 3, "read.go:52", #[⟨8, .data⟩, ⟨4, .chain⟩], none⟩) rfl (fun K hK => ?_) AllReadyH.nil
  have c0 := lies_cell HP.out 0
  go_simp
  (go_at_call 40; (with_reducible refine (HN2.out _ HR.out).mono ?_); rintro e V ⟨rfl, hw, hg⟩; go_wp2_with fail)
  clear c0
  have HPd := Lib.hid (lies_grown HP.out hg HPR.out)
  have HRd := Lib.hid hw
  have HFd := Lib.hid (Fr.of_grown (b := p) HF.out hg)
  have VBd := Lib.hid (lies_grown VB.out hg (by omega))
  clear HP HR HF VB hg hw
  have HP := HPd
  have HR := HRd
  have HF := HFd
  have VB := VBd
  clear HPd HRd HFd VBd
  refine hK.out _ _ ?_ (fun hHeld => ?_)
  · exact lies_cell HP.out 0
  clear hK K
  try simp only [Act.put, List.setIfInBounds_toArray, List.set_cons_zero, List.set_cons_succ]
  refine wpAnyH_ready (rs := [14]) (by kernel_rfl) (by simp) ?_
  refine AllReadyH.cons (o := ⟨some 17, .call ⟨.value (.func 40), #[.tmp 16], #[47]⟩, 3, "read.go:52", #[⟨13, .data⟩, ⟨9, .chain⟩], none⟩) rfl (fun K hK => ?_) AllReadyH.nil
  have c0 := lies_cell HP.out 0
  go_simp
  (go_at_call 40; (with_reducible refine (HN3.out _ HR.out).mono ?_); rintro e V ⟨rfl, hw, hg⟩; go_wp2_with fail)
  clear c0
  have HPd := Lib.hid (lies_grown HP.out hg HPR.out)
  have HRd := Lib.hid hw
  have HFd := Lib.hid (Fr.of_grown (b := p) HF.out hg)
  have VBd := Lib.hid (lies_grown VB.out hg (by omega))
  clear HP HR HF VB hg hw
  have HP := HPd
  have HR := HRd
  have HF := HFd
  have VB := VBd
  clear HPd HRd HFd VBd
  refine hK.out _ _ ?_ (fun hHeld => ?_)
  · exact lies_cell HP.out 0
  clear hK K
  try simp only [Act.put, List.setIfInBounds_toArray, List.set_cons_zero, List.set_cons_succ]
  refine wpAnyH_take (i := 15) (oi := ⟨some 18, .build 58 #[(0, .tmp 7), (1, .tmp 12), (2, .tmp 17)], 58, "read.go:52", #[⟨4, .data⟩, ⟨9, .data⟩, ⟨14, .data⟩], none⟩) (v := ?_) rfl (by kernel_rfl) (by kernel_rfl) (by kernel_rfl) (fun _ _ _ h => h) (Or.inl ⟨by rfl, ?_⟩) (by assumption) ?_
  rotate_left
  focus ((intro w hSw; (try dsimp only at hSw); clear hSw; go_simp) <;> (with_reducible rfl))
  try simp only [Act.put, List.setIfInBounds_toArray, List.set_cons_zero, List.set_cons_succ]
  refine wpAnyH_ready (rs := [16]) (by kernel_rfl) (by simp) ?_
  refine AllReadyH.cons (o := ⟨none, .store 58 (.tmp 2) (.tmp 18), 0, "read.go:52", #[⟨15, .data⟩, ⟨14, .chain⟩, ⟨0, .phase⟩, ⟨1, .phase⟩, ⟨2, .phase⟩, ⟨3, .phase⟩, ⟨4, .phase⟩, ⟨5, .phase⟩, ⟨6, .phase⟩, ⟨7, .phase⟩, ⟨8, .phase⟩, ⟨9, .phase⟩, ⟨10, .phase⟩, ⟨11, .phase⟩, ⟨12, .phase⟩, ⟨13, .phase⟩, ⟨14, .phase⟩, ⟨15, .phase⟩], none⟩) rfl (fun K hK => ?_) AllReadyH.nil
  have f0 := lies_frozen VB.out 0
  have f1 := lies_frozen VB.out 1
  have f2 := lies_frozen VB.out 2
  obtain ⟨q0, q1, q2⟩ := cells_3 VB.out
  go_simp
  clear f0 f1 f2 q0 q1 q2
  have HPd : Hid (((((V.setCell ⟨vb, 0, none⟩ (.int .i64 y1)).setCell ⟨vb, 1, none⟩ (.int .i64 y2)).setCell ⟨vb, 2, none⟩ (.int .i64 y3))).heap[p]? = _) := (far_3 (by omega)).trans HP.out
  have HRd : Hid (RS 82 ((((V.setCell ⟨vb, 0, none⟩ (.int .i64 y1)).setCell ⟨vb, 1, none⟩ (.int .i64 y2)).setCell ⟨vb, 2, none⟩ (.int .i64 y3))) r _) := RS.keep HR.out (far_3 (by omega))
  have HFd : Hid (Fr _ r p _ ((((V.setCell ⟨vb, 0, none⟩ (.int .i64 y1)).setCell ⟨vb, 1, none⟩ (.int .i64 y2)).setCell ⟨vb, 2, none⟩ (.int .i64 y3)))) := frs_3 HF.out (by omega)
  have VBd : Hid (((((V.setCell ⟨vb, 0, none⟩ (.int .i64 y1)).setCell ⟨vb, 1, none⟩ (.int .i64 y2)).setCell ⟨vb, 2, none⟩ (.int .i64 y3))).heap[vb]? = some (.cells #[.int .i64 y1, .int .i64 y2, .int .i64 y3] 58)) := put_3 VB.out
  clear HP HR HF VB
  have HP := HPd
  have HR := HRd
  have HF := HFd
  have VB := VBd
  clear HPd HRd HFd VBd
  generalize ((V.setCell ⟨vb, 0, none⟩ (.int .i64 y1)).setCell ⟨vb, 1, none⟩ (.int .i64 y2)).setCell ⟨vb, 2, none⟩ (.int .i64 y3) = Z at HP HR HF VB ⊢
  refine hK.out _ _ ?_ (fun hHeld => ?_)
  · exact lies_cell HP.out 0
  clear hK K
  try simp only [Act.put, List.setIfInBounds_toArray, List.set_cons_zero, List.set_cons_succ]
  refine wpAnyH_done (by kernel_rfl) ?_ _
  clear hHeld
  obtain ⟨k0, k1, k2⟩ := cells_3 VB.out
  go_wp2
  (try simp only [Exit.inBlock, Exit.then])
  refine bodyPost_ret (by simp [results, Tryz.results43, go_sem, k0, k1, k2]; try rfl) rfl ?_
  rw [HHB.out]
  exact ⟨rfl, ⟨HP.out, HR.out⟩, HF.out⟩
end Go.Proofs.YtdgkanamceeheaaGreat.Im
