/- The program's reader: a window. The program's reader: lists of numbers, of windows. -/
import Derived.Test.YtdgkanamceeheaaGreatK13
import Derived.Test.YtdgkanamceeheaaGreatK33
import Derived.Test.YtdgkanamceeheaaGreatK0
set_option linter.unusedVariables false
set_option maxRecDepth 100000
set_option linter.unusedVariables false
namespace Go.Proofs.YtdgkanamceeheaaGreat.Im
open Go.RowKit
open PitotImg (St rd)
theorem put_3 {W : World} {g : Nat} {T : TypeId} {x0 x1 x2 y0 y1 y2 : Value} (h : W.heap[g]? = some (.cells #[x0,x1,x2] T)) : ((((W.setCell ⟨g,0,none⟩ (y0)).setCell ⟨g,1,none⟩ (y1)).setCell ⟨g,2,none⟩ (y2))).heap[g]? = some (.cells #[y0,y1,y2] T) := by
  obtain ⟨_,_,_,hx⟩ := read_3 (y0 := y0) (y1 := y1) (y2 := y2) h
  exact hx
theorem far_3 {W : World} {g b : Nat} {y0 y1 y2 : Value} (h : g ≠ b) : ((((W.setCell ⟨g,0,none⟩ (y0)).setCell ⟨g,1,none⟩ (y1)).setCell ⟨g,2,none⟩ (y2))).heap[b]? = W.heap[b]? := by
  refine (heap_set_ne h).trans ((heap_set_ne h).trans ((heap_set_ne h)))
theorem frs_3 {base a b vb : Nat} {w W : World} {y0 y1 y2 : Value} (h : Fr base a b w W) (hv : base ≤ vb) : Fr base a b w ((((W.setCell ⟨vb,0,none⟩ (y0)).setCell ⟨vb,1,none⟩ (y1)).setCell ⟨vb,2,none⟩ (y2))) :=
  Fr.setN (Fr.setN (Fr.setN (h) hv) hv) hv
theorem put_6 {W : World} {g : Nat} {T : TypeId} {x0 x1 x2 x3 x4 x5 y0 y1 y2 y3 y4 y5 : Value} (h : W.heap[g]? = some (.cells #[x0,x1,x2,x3,x4,x5] T)) : (((((((W.setCell ⟨g,0,none⟩ (y0)).setCell ⟨g,1,none⟩ (y1)).setCell ⟨g,2,none⟩ (y2)).setCell ⟨g,3,none⟩ (y3)).setCell ⟨g,4,none⟩ (y4)).setCell ⟨g,5,none⟩ (y5))).heap[g]? = some (.cells #[y0,y1,y2,y3,y4,y5] T) := by
  obtain ⟨_,_,_,_,_,_,hx⟩ := read_6 (y0 := y0) (y1 := y1) (y2 := y2) (y3 := y3) (y4 := y4) (y5 := y5) h
  exact hx
theorem far_6 {W : World} {g b : Nat} {y0 y1 y2 y3 y4 y5 : Value} (h : g ≠ b) : (((((((W.setCell ⟨g,0,none⟩ (y0)).setCell ⟨g,1,none⟩ (y1)).setCell ⟨g,2,none⟩ (y2)).setCell ⟨g,3,none⟩ (y3)).setCell ⟨g,4,none⟩ (y4)).setCell ⟨g,5,none⟩ (y5))).heap[b]? = W.heap[b]? := by
  refine (heap_set_ne h).trans ((heap_set_ne h).trans ((heap_set_ne h).trans ((heap_set_ne h).trans ((heap_set_ne h).trans ((heap_set_ne h))))))
theorem frs_6 {base a b vb : Nat} {w W : World} {y0 y1 y2 y3 y4 y5 : Value} (h : Fr base a b w W) (hv : base ≤ vb) : Fr base a b w (((((((W.setCell ⟨vb,0,none⟩ (y0)).setCell ⟨vb,1,none⟩ (y1)).setCell ⟨vb,2,none⟩ (y2)).setCell ⟨vb,3,none⟩ (y3)).setCell ⟨vb,4,none⟩ (y4)).setCell ⟨vb,5,none⟩ (y5))) :=
  Fr.setN (Fr.setN (Fr.setN (Fr.setN (Fr.setN (Fr.setN (h) hv) hv) hv) hv) hv) hv
theorem put_8 {W : World} {g : Nat} {T : TypeId} {x0 x1 x2 x3 x4 x5 x6 x7 y0 y1 y2 y3 y4 y5 y6 y7 : Value} (h : W.heap[g]? = some (.cells #[x0,x1,x2,x3,x4,x5,x6,x7] T)) : (((((((((W.setCell ⟨g,0,none⟩ (y0)).setCell ⟨g,1,none⟩ (y1)).setCell ⟨g,2,none⟩ (y2)).setCell ⟨g,3,none⟩ (y3)).setCell ⟨g,4,none⟩ (y4)).setCell ⟨g,5,none⟩ (y5)).setCell ⟨g,6,none⟩ (y6)).setCell ⟨g,7,none⟩ (y7))).heap[g]? = some (.cells #[y0,y1,y2,y3,y4,y5,y6,y7] T) := by
  obtain ⟨_,_,_,_,_,_,_,_,hx⟩ := read_8 (y0 := y0) (y1 := y1) (y2 := y2) (y3 := y3) (y4 := y4) (y5 := y5) (y6 := y6) (y7 := y7) h
  exact hx
theorem far_8 {W : World} {g b : Nat} {y0 y1 y2 y3 y4 y5 y6 y7 : Value} (h : g ≠ b) : (((((((((W.setCell ⟨g,0,none⟩ (y0)).setCell ⟨g,1,none⟩ (y1)).setCell ⟨g,2,none⟩ (y2)).setCell ⟨g,3,none⟩ (y3)).setCell ⟨g,4,none⟩ (y4)).setCell ⟨g,5,none⟩ (y5)).setCell ⟨g,6,none⟩ (y6)).setCell ⟨g,7,none⟩ (y7))).heap[b]? = W.heap[b]? := by
  refine (heap_set_ne h).trans ((heap_set_ne h).trans ((heap_set_ne h).trans ((heap_set_ne h).trans ((heap_set_ne h).trans ((heap_set_ne h).trans ((heap_set_ne h).trans ((heap_set_ne h))))))))
theorem frs_8 {base a b vb : Nat} {w W : World} {y0 y1 y2 y3 y4 y5 y6 y7 : Value} (h : Fr base a b w W) (hv : base ≤ vb) : Fr base a b w (((((((((W.setCell ⟨vb,0,none⟩ (y0)).setCell ⟨vb,1,none⟩ (y1)).setCell ⟨vb,2,none⟩ (y2)).setCell ⟨vb,3,none⟩ (y3)).setCell ⟨vb,4,none⟩ (y4)).setCell ⟨vb,5,none⟩ (y5)).setCell ⟨vb,6,none⟩ (y6)).setCell ⟨vb,7,none⟩ (y7))) :=
  Fr.setN (Fr.setN (Fr.setN (Fr.setN (Fr.setN (Fr.setN (Fr.setN (Fr.setN (h) hv) hv) hv) hv) hv) hv) hv) hv
theorem put_11 {W : World} {g : Nat} {T : TypeId} {x0 x1 x2 x3 x4 x5 x6 x7 x8 x9 x10 y0 y1 y2 y3 y4 y5 y6 y7 y8 y9 y10 : Value} (h : W.heap[g]? = some (.cells #[x0,x1,x2,x3,x4,x5,x6,x7,x8,x9,x10] T)) : ((((((((((((W.setCell ⟨g,0,none⟩ (y0)).setCell ⟨g,1,none⟩ (y1)).setCell ⟨g,2,none⟩ (y2)).setCell ⟨g,3,none⟩ (y3)).setCell ⟨g,4,none⟩ (y4)).setCell ⟨g,5,none⟩ (y5)).setCell ⟨g,6,none⟩ (y6)).setCell ⟨g,7,none⟩ (y7)).setCell ⟨g,8,none⟩ (y8)).setCell ⟨g,9,none⟩ (y9)).setCell ⟨g,10,none⟩ (y10))).heap[g]? = some (.cells #[y0,y1,y2,y3,y4,y5,y6,y7,y8,y9,y10] T) := by
  obtain ⟨_,_,_,_,_,_,_,_,_,_,_,hx⟩ := read_11 (y0 := y0) (y1 := y1) (y2 := y2) (y3 := y3) (y4 := y4) (y5 := y5) (y6 := y6) (y7 := y7) (y8 := y8) (y9 := y9) (y10 := y10) h
  exact hx
theorem far_11 {W : World} {g b : Nat} {y0 y1 y2 y3 y4 y5 y6 y7 y8 y9 y10 : Value} (h : g ≠ b) : ((((((((((((W.setCell ⟨g,0,none⟩ (y0)).setCell ⟨g,1,none⟩ (y1)).setCell ⟨g,2,none⟩ (y2)).setCell ⟨g,3,none⟩ (y3)).setCell ⟨g,4,none⟩ (y4)).setCell ⟨g,5,none⟩ (y5)).setCell ⟨g,6,none⟩ (y6)).setCell ⟨g,7,none⟩ (y7)).setCell ⟨g,8,none⟩ (y8)).setCell ⟨g,9,none⟩ (y9)).setCell ⟨g,10,none⟩ (y10))).heap[b]? = W.heap[b]? := by
  refine (heap_set_ne h).trans ((heap_set_ne h).trans ((heap_set_ne h).trans ((heap_set_ne h).trans ((heap_set_ne h).trans ((heap_set_ne h).trans ((heap_set_ne h).trans ((heap_set_ne h).trans ((heap_set_ne h).trans ((heap_set_ne h).trans ((heap_set_ne h)))))))))))
theorem frs_11 {base a b vb : Nat} {w W : World} {y0 y1 y2 y3 y4 y5 y6 y7 y8 y9 y10 : Value} (h : Fr base a b w W) (hv : base ≤ vb) : Fr base a b w ((((((((((((W.setCell ⟨vb,0,none⟩ (y0)).setCell ⟨vb,1,none⟩ (y1)).setCell ⟨vb,2,none⟩ (y2)).setCell ⟨vb,3,none⟩ (y3)).setCell ⟨vb,4,none⟩ (y4)).setCell ⟨vb,5,none⟩ (y5)).setCell ⟨vb,6,none⟩ (y6)).setCell ⟨vb,7,none⟩ (y7)).setCell ⟨vb,8,none⟩ (y8)).setCell ⟨vb,9,none⟩ (y9)).setCell ⟨vb,10,none⟩ (y10))) :=
  Fr.setN (Fr.setN (Fr.setN (Fr.setN (Fr.setN (Fr.setN (Fr.setN (Fr.setN (Fr.setN (Fr.setN (Fr.setN (h) hv) hv) hv) hv) hv) hv) hv) hv) hv) hv) hv
set_option maxHeartbeats 4000000 in
theorem rwin_any (p r : Nat) (y1 y2 y3 : Int) (σ σ1 σ2 σ3 : St) (w : World) (h : PS w p r 0 σ) (hpr : p ≠ r) (h1 : rd 2 σ = (y1,σ1)) (h2 : rd 4 σ1 = (y2,σ2)) (h3 : rd 4 σ2 = (y3,σ3)) : Calls Tryz.prog 43 #[.pointer (some ⟨p,0,none⟩)] w fun e w' => e = .returned (.agg #[.int .i64 y1,.int .i64 y2,.int .i64 y3]) ∧ PS w' p r 0 σ3 ∧ Fr w.heap.size r p w w' := by
  have HN1 := Lib.hid (pU16_of (r := r) h1)
  have HN2 := Lib.hid (pU32_of (r := r) h2)
  have HN3 := Lib.hid (pU32_of (r := r) h3)
  have HPR := Lib.hid hpr
  have HP : Hid ((w.alloc (.cells #[.int .i64 0,.int .i64 0,.int .i64 0] 58)).heap[p]? = some (.cells #[.pointer (some ⟨r,0,none⟩),.int .i64 0] 50)) := lies_alloc h.1 _
  have HR : Hid (RS 82 (w.alloc (.cells #[.int .i64 0,.int .i64 0,.int .i64 0] 58)) r σ) := RS.al h.2 _
  have HF : Hid (Fr w.heap.size r p w (w.alloc (.cells #[.int .i64 0,.int .i64 0,.int .i64 0] 58))) := Fr.al Fr.refl _
  have VB : Hid ((w.alloc (.cells #[.int .i64 0,.int .i64 0,.int .i64 0] 58)).heap[w.heap.size]? = some (.cells #[.int .i64 0,.int .i64 0,.int .i64 0] 58)) := heap_alloc_new w _
  have hpw := lies_lt h.1
  have hrw := h.2.lt
  have hzw := zero_win
  clear h h1 h2 h3 hpr
  go_enter Tryz.func43,Tryz.ntmps43
  go_upto_region 1 with (fail)
  obtain ⟨W1,hW1⟩ : ∃ W,w.alloc (.cells #[.int .i64 0,.int .i64 0,.int .i64 0] 58) = W := ⟨_,rfl⟩
  rw [hW1] at HP HR HF VB ⊢
  clear hW1
  obtain ⟨vb,hvb⟩ : ∃ n,w.heap.size = n := ⟨_,rfl⟩
  rw [hvb] at HF VB hpw hrw ⊢
  have HHB := Lib.hid hvb
  clear hvb
  have HPd : Hid ((World.drew W1).heap[p]? = _) := HP.out
  have HRd : Hid (RS 82 (World.drew W1) r _) := HR.out
  have HFd := Lib.hid (HF.out.trans Fr.dr)
  have VBd : Hid ((World.drew W1).heap[_]? = _) := VB.out
  clear HP HR HF VB
  have HP := HPd
  have HR := HRd
  have HF := HFd
  have VB := VBd
  clear HPd HRd HFd VBd
  refine wp_region_held_drew (S := (fun w' => w'.cell? ⟨p,0,none⟩ = some (.pointer (some ⟨r,0,none⟩)))) (by kernel_rfl) ?_ (fun hHeld => ?_)
  · exact lies_cell HP.out 0
  refine tK 0 ?_ rfl (by kernel_rfl) rfl (by intro w;go_simp<;>with_reducible rfl) (fun _ _ _ h=>h) hHeld
  try simp only [Act.put,yA,yB,yC]
  refine tK 1 ?_ rfl (by kernel_rfl) rfl (by intro w;go_simp<;>with_reducible rfl) (fun _ _ _ h=>h) hHeld
  try simp only [Act.put,yA,yB,yC]
  refine tK 2 ?_ rfl (by kernel_rfl) rfl (by intro w;go_simp<;>with_reducible rfl) (fun _ _ _ h=>h) hHeld
  try simp only [Act.put,yA,yB,yC]
  refine tX 3 ?_ rfl (by kernel_rfl) rfl (by intro w hSw;(try dsimp only at hSw);have c0 := hSw;clear hSw;go_simp<;>with_reducible rfl) (fun _ _ _ h=>h) hHeld
  try simp only [Act.put,yA,yB,yC]
  refine tK 5 ?_ rfl (by kernel_rfl) rfl (by intro w;go_simp<;>with_reducible rfl) (fun _ _ _ h=>h) hHeld
  try simp only [Act.put,yA,yB,yC]
  refine tK 6 ?_ rfl (by kernel_rfl) rfl (by intro w;go_simp<;>with_reducible rfl) (fun _ _ _ h=>h) hHeld
  try simp only [Act.put,yA,yB,yC]
  refine tK 7 ?_ rfl (by kernel_rfl) rfl (by intro w;go_simp<;>with_reducible rfl) (fun _ _ _ h=>h) hHeld
  try simp only [Act.put,yA,yB,yC]
  refine tX 8 ?_ rfl (by kernel_rfl) rfl (by intro w hSw;(try dsimp only at hSw);have c0 := hSw;clear hSw;go_simp<;>with_reducible rfl) (fun _ _ _ h=>h) hHeld
  try simp only [Act.put,yA,yB,yC]
  refine tK 10 ?_ rfl (by kernel_rfl) rfl (by intro w;go_simp<;>with_reducible rfl) (fun _ _ _ h=>h) hHeld
  try simp only [Act.put,yA,yB,yC]
  refine tK 11 ?_ rfl (by kernel_rfl) rfl (by intro w;go_simp<;>with_reducible rfl) (fun _ _ _ h=>h) hHeld
  try simp only [Act.put,yA,yB,yC]
  refine tK 12 ?_ rfl (by kernel_rfl) rfl (by intro w;go_simp<;>with_reducible rfl) (fun _ _ _ h=>h) hHeld
  try simp only [Act.put,yA,yB,yC]
  refine tX 13 ?_ rfl (by kernel_rfl) rfl (by intro w hSw;(try dsimp only at hSw);have c0 := hSw;clear hSw;go_simp<;>with_reducible rfl) (fun _ _ _ h=>h) hHeld
  try simp only [Act.put,yA,yB,yC]
  refine rY 4 [] ?_ (by kernel_rfl)
  refine rC rfl (fun K hK => ?_) AllReadyH.nil
  have c0 := lies_cell HP.out 0
  go_simp
  (go_at_call 38;(with_reducible refine (HN1.out _ HR.out).mono ?_);rintro e V ⟨rfl,hw,hg⟩;go_wp2_with fail)
  clear c0
  have HPd := Lib.hid (lies_grown HP.out hg HPR.out)
  have HRd := Lib.hid hw
  have HFd := Lib.hid (Fr.of_grown (b := p) HF.out hg)
  have VBd := Lib.hid (lies_grown VB.out hg (by omega))
  clear HP HR HF VB hg hw
  have HP := HPd
  have HR := HRd
  have HF := HFd
  have VB := VBd
  clear HPd HRd HFd VBd
  refine hK.out _ _ ?_ (fun hHeld => ?_)
  · exact lies_cell HP.out 0
  clear hK K
  try simp only [Act.put,yA,yB,yC]
  refine rY 9 [] ?_ (by kernel_rfl)
  refine rC rfl (fun K hK => ?_) AllReadyH.nil
  have c0 := lies_cell HP.out 0
  go_simp
  (go_at_call 40;(with_reducible refine (HN2.out _ HR.out).mono ?_);rintro e V ⟨rfl,hw,hg⟩;go_wp2_with fail)
  clear c0
  have HPd := Lib.hid (lies_grown HP.out hg HPR.out)
  have HRd := Lib.hid hw
  have HFd := Lib.hid (Fr.of_grown (b := p) HF.out hg)
  have VBd := Lib.hid (lies_grown VB.out hg (by omega))
  clear HP HR HF VB hg hw
  have HP := HPd
  have HR := HRd
  have HF := HFd
  have VB := VBd
  clear HPd HRd HFd VBd
  refine hK.out _ _ ?_ (fun hHeld => ?_)
  · exact lies_cell HP.out 0
  clear hK K
  try simp only [Act.put,yA,yB,yC]
  refine rY 14 [] ?_ (by kernel_rfl)
  refine rC rfl (fun K hK => ?_) AllReadyH.nil
  have c0 := lies_cell HP.out 0
  go_simp
  (go_at_call 40;(with_reducible refine (HN3.out _ HR.out).mono ?_);rintro e V ⟨rfl,hw,hg⟩;go_wp2_with fail)
  clear c0
  have HPd := Lib.hid (lies_grown HP.out hg HPR.out)
  have HRd := Lib.hid hw
  have HFd := Lib.hid (Fr.of_grown (b := p) HF.out hg)
  have VBd := Lib.hid (lies_grown VB.out hg (by omega))
  clear HP HR HF VB hg hw
  have HP := HPd
  have HR := HRd
  have HF := HFd
  have VB := VBd
  clear HPd HRd HFd VBd
  refine hK.out _ _ ?_ (fun hHeld => ?_)
  · exact lies_cell HP.out 0
  clear hK K
  try simp only [Act.put,yA,yB,yC]
  refine tK 15 ?_ rfl (by kernel_rfl) rfl (by intro w;go_simp<;>with_reducible rfl) (fun _ _ _ h=>h) hHeld
  try simp only [Act.put,yA,yB,yC]
  refine rY 16 [] ?_ (by kernel_rfl)
  refine rC rfl (fun K hK => ?_) AllReadyH.nil
  have f0 := lies_frozen VB.out 0
  have f1 := lies_frozen VB.out 1
  have f2 := lies_frozen VB.out 2
  obtain ⟨q0,q1,q2⟩ := cells_3 VB.out
  go_simp
  clear f0 f1 f2 q0 q1 q2
  have HPd : Hid (((((V.setCell ⟨vb,0,none⟩ (.int .i64 y1)).setCell ⟨vb,1,none⟩ (.int .i64 y2)).setCell ⟨vb,2,none⟩ (.int .i64 y3))).heap[p]? = _) := (far_3 (by omega)).trans HP.out
  have HRd : Hid (RS 82 ((((V.setCell ⟨vb,0,none⟩ (.int .i64 y1)).setCell ⟨vb,1,none⟩ (.int .i64 y2)).setCell ⟨vb,2,none⟩ (.int .i64 y3))) r _) := RS.keep HR.out (far_3 (by omega))
  have HFd : Hid (Fr _ r p _ ((((V.setCell ⟨vb,0,none⟩ (.int .i64 y1)).setCell ⟨vb,1,none⟩ (.int .i64 y2)).setCell ⟨vb,2,none⟩ (.int .i64 y3)))) := frs_3 HF.out (by omega)
  have VBd : Hid (((((V.setCell ⟨vb,0,none⟩ (.int .i64 y1)).setCell ⟨vb,1,none⟩ (.int .i64 y2)).setCell ⟨vb,2,none⟩ (.int .i64 y3))).heap[vb]? = some (.cells #[.int .i64 y1,.int .i64 y2,.int .i64 y3] 58)) := put_3 VB.out
  clear HP HR HF VB
  have HP := HPd
  have HR := HRd
  have HF := HFd
  have VB := VBd
  clear HPd HRd HFd VBd
  generalize ((V.setCell ⟨vb,0,none⟩ (.int .i64 y1)).setCell ⟨vb,1,none⟩ (.int .i64 y2)).setCell ⟨vb,2,none⟩ (.int .i64 y3) = Z at HP HR HF VB ⊢
  refine hK.out _ _ ?_ (fun hHeld => ?_)
  · exact lies_cell HP.out 0
  clear hK K
  try simp only [Act.put,yA,yB,yC]
  refine wpAnyH_done (by kernel_rfl) ?_ _
  clear hHeld
  obtain ⟨k0,k1,k2⟩ := cells_3 VB.out
  go_wp2
  (try simp only [Exit.inBlock,Exit.then])
  refine bodyPost_ret (by simp [results,Tryz.results43,go_sem,k0,k1,k2];try rfl) rfl ?_
  rw [HHB.out]
  exact ⟨rfl,⟨HP.out,HR.out⟩,HF.out⟩
end Go.Proofs.YtdgkanamceeheaaGreat.Im
set_option maxRecDepth 100000
set_option linter.unusedVariables false
namespace Go.Proofs.YtdgkanamceeheaaGreat.Im
open Go.RowKit
open PitotImg (St rd)
theorem ps_mk {w : World} {p r : Nat} {x : Int} {σ : St} (h : w.heap[p]? = some (.cells #[.pointer (some ⟨r,0,none⟩),.int .i64 x] 50)) (h2 : RS 82 w r σ) : PS w p r x σ := ⟨h,h2⟩
def Lst {α : Type} (In : Nat → Nat → World → Option Addr → List α → Prop) (B : Nat) (q : List α → Prop) (e : Ending) (w' : World) : Prop := ∃ A cap xs,q xs ∧ e = .returned (.slice A xs.length cap) ∧ In B w'.heap.size w' A xs
set_option maxHeartbeats 4000000 in
theorem c1_any (y1 y2 y3 : Int) (σ3 : St) (p r kb : Nat) (σ : St) (w : World) (h : PS w p r 0 σ) (hpr : p ≠ r) (hK : w.heap[kb]? = some (.cells #[.pointer (some ⟨p,0,none⟩)] 46))
    (HC0 : ∀ w,PS w p r 0 σ → Calls Tryz.prog 43 #[.pointer (some ⟨p,0,none⟩)] w fun e w' => e = .returned (.agg #[.int .i64 y1,.int .i64 y2,.int .i64 y3]) ∧ PS w' p r 0 σ3 ∧ Fr w.heap.size r p w w') :
    Calls Tryz.prog 42 #[.pointer (some ⟨kb,0,none⟩)] w fun e w' => e = .returned (.agg #[.int .i64 y1,.int .i64 y2,.int .i64 y3]) ∧ PS w' p r 0 σ3 ∧ Fr w.heap.size r p w w' := by
  have HC := Lib.hid HC0
  have HS : Hid (PS (w.alloc (.cells #[.int .i64 0,.int .i64 0,.int .i64 0] 58)) p r 0 σ) := ⟨lies_alloc h.1 _,RS.al h.2 _⟩
  have k0 : (w.alloc (.cells #[.int .i64 0,.int .i64 0,.int .i64 0] 58)).cell? ⟨kb,0,none⟩ = some (.pointer (some ⟨p,0,none⟩)) := lies_cell (lies_alloc hK _) 0
  have HF : Hid (Fr w.heap.size r p w (w.alloc (.cells #[.int .i64 0,.int .i64 0,.int .i64 0] 58))) := Fr.al Fr.refl _
  have VB : Hid ((w.alloc (.cells #[.int .i64 0,.int .i64 0,.int .i64 0] 58)).heap[w.heap.size]? = some (.cells #[.int .i64 0,.int .i64 0,.int .i64 0] 58)) := heap_alloc_new w _
  have hsz : (w.alloc (.cells #[.int .i64 0,.int .i64 0,.int .i64 0] 58)).heap.size = w.heap.size + 1 := World.size_alloc _ _
  have hpw := lies_lt h.1
  have hrw := h.2.lt
  have hzz := zero_win
  clear h HC0 hK
  go_enter Tryz.func42,Tryz.ntmps42
  go_upto_region 1 with (fail)
  obtain ⟨W1,hW1⟩ : ∃ W,w.alloc (.cells #[.int .i64 0,.int .i64 0,.int .i64 0] 58) = W := ⟨_,rfl⟩
  rw [hW1] at HS HF VB k0 hsz ⊢
  clear hW1
  obtain ⟨vb,hvb⟩ : ∃ n,w.heap.size = n := ⟨_,rfl⟩
  rw [hvb] at HF VB hpw hrw hsz ⊢
  have HHB := Lib.hid hvb
  have HSZ := Lib.hid hsz
  clear hvb hsz
  go_wp2_with (first
    | (go_at_call 43;(with_reducible refine (HC.out _ HS.out).mono ?_);rintro e w2 ⟨rfl,hs2,hf2⟩
       (have HS2 := Lib.hid hs2)
       (have HF2 : Hid (Fr vb r p w w2) := HF.out.trans (hf2.mono (by have := HSZ.out;omega)))
       (have VB2 := Lib.hid ((hf2.block vb (by have := HSZ.out;omega) (by omega) (by omega) (lies_lt VB.out)).trans VB.out))
       (clear hs2 hf2 HS HF VB k0 HC)
       (have VB := VB2)
       (clear VB2)
       (have f0 := lies_frozen VB.out 0)
       (have f1 := lies_frozen VB.out 1)
       (have f2 := lies_frozen VB.out 2)
       (obtain ⟨q0,q1,q2⟩ := cells_3 VB.out)))
  (try simp only [Exit.inBlock,Exit.then])
  obtain ⟨k0,k1,k2,_⟩ := read_3 (y0 := .int .i64 y1) (y1 := .int .i64 y2) (y2 := .int .i64 y3) VB.out
  refine bodyPost_ret (by simp [results,Tryz.results42,go_sem,k0,k1,k2];try rfl) rfl ?_
  rw [HHB.out]
  exact ⟨rfl,⟨(far_3 (by omega)).trans HS2.out.1,RS.keep HS2.out.2 (far_3 (by omega))⟩,frs_3 HF2.out (Nat.le_refl _)⟩
set_option maxHeartbeats 4000000 in
theorem rlistI (p r n : Nat) (σ0 σ1 σ' : St) (l : List Int) (w : World) (h : PS w p r 0 σ0) (hpr : p ≠ r) (h1 : rd 2 σ0 = ((n : Int),σ1)) (h2 : PitotImg.manyS (rd 2) n σ1 = (l,σ')) :
    Calls Tryz.prog 39 #[.pointer (some ⟨p,0,none⟩),.func (.func 38) #[.pointer (some ⟨r,0,none⟩)] #[]] w fun e w' => Lst IntsIn w.heap.size (fun xs => xs = l) e w' ∧ PS w' p r 0 σ' ∧ Fr w.heap.size r p w w' := by
  have HN1 := Lib.hid (pU16_of (r := r) h1)
  have hnb := rd_ge h1
  have hN : n < 65536 := by have : (n : Int) < 65536 := hnb.2;omega
  have HPR := Lib.hid hpr
  have HP : Hid (w.heap[p]? = some (.cells #[.pointer (some ⟨r,0,none⟩),.int .i64 0] 50)) := h.1
  have HR : Hid (RS 82 w r σ0) := h.2
  have H2 := Lib.hid h2
  have hpw := lies_lt h.1
  have hrw := h.2.lt
  have c0 := lies_cell h.1 0
  clear h hpr h1 h2 hnb
  go_enter Tryz.func39,Tryz.ntmps39
  go_wp2_with (go_at_call 38;(with_reducible refine (HN1.out _ HR.out).mono ?_);rintro e w2 ⟨rfl,hw2,hg2⟩)
  have HP2 := Lib.hid (lies_grown HP.out hg2 HPR.out)
  have HR2 := Lib.hid hw2
  have HF2 : Hid (Fr w.heap.size r p w w2) := Fr.grown hg2
  obtain ⟨B,hB⟩ : ∃ n,w.heap.size = n := ⟨_,rfl⟩
  rw [hB] at HF2 hpw hrw
  have HBB := Lib.hid hB
  clear HP HR hw2 hg2 c0 HN1 hB
  have HOW : Hid (w2.ownsRow B 3 1 (.slice none 0 0) 0 (enI [])) := World.ownsRow_nil _ _ _ _
  go_loopw [5,11] (fun v5 v11 wr => ∃ (i : Nat) (σ : St) (acc : List Int),i ≤ n ∧ v11 = .int .i64 i ∧ acc.length = i ∧ Hid (acc ++ (PitotImg.manyS (rd 2) (n - i) σ).1 = l) ∧ Hid ((PitotImg.manyS (rd 2) (n - i) σ).2 = σ') ∧ Hid (wr.heap[p]? = some (.cells #[.pointer (some ⟨r,0,none⟩),.int .i64 0] 50)) ∧ Hid (RS 82 wr r σ) ∧ Hid (Fr B r p w wr) ∧ Hid (wr.ownsRow B 3 1 v5 i (enI acc))) (fun _ v11 _ => n - (intOf v11).toNat)
  case atStart => exact ⟨0,σ1,[],Nat.zero_le _,rfl,rfl,by show _ = _;rw [Nat.sub_zero,H2.out];rfl,by show _ = _;rw [Nat.sub_zero,H2.out],HP2,HR2,HF2,HOW⟩
  case round =>
    obtain ⟨i,σ,acc,hi,rfl,hal,ha1,ha2,HP,HR,HF,HO⟩ := hrel
    clear HP2 HR2 HF2 HOW
    have HE := Lib.hid (perr_any p r 0 σ wr ⟨HP.out,HR.out⟩)
    obtain ⟨Rg,hRg⟩ : ∃ R,(decide (i < n) && σ.isSome) = R := ⟨_,rfl⟩
    cases Rg
    case true =>
      have hlt : i < n := by
        have h := hRg
        simp only [Bool.and_eq_true,decide_eq_true_eq] at h
        exact h.1
      have e1 : decide ((i : Int) < (n : Int)) = true := decide_eq_true (by omega)
      have e1' : decide (i < n) = true := decide_eq_true hlt
      have HE2 : Hid (Calls Tryz.prog 50 #[.pointer (some ⟨p,0,none⟩)] wr fun e w' => e = .returned (.int .i64 0) ∧ wr = w') := by
        have h := HE.out
        cases σ with
        | none => simp at hRg
        | some l => exact h
      clear HE
      obtain ⟨v,σ4,HX⟩ := rd_of 2 σ
      have HNv := Lib.hid (pU16_of (r := r) HX.out)
      have HGO := Lib.hid (many_go (p := (rd 2)) hRg HX.out)
      have HGO1 := HGO.out.2
      rw [HGO1] at ha1 ha2
      clear HGO HGO1 hRg
      obtain ⟨ii,hii,hzz,hs3,hb3'⟩ := info_parts info3
      go_wp2_with (first
        | (go_at_call 50;(with_reducible refine (HE2.out).mono ?_);rintro e w' ⟨rfl,rfl⟩)
        | (go_at_call 38;(with_reducible refine (HNv.out _ HR.out).mono ?_);rintro e V ⟨rfl,hw,hg⟩
           (have HPV := Lib.hid (lies_grown HP.out hg HPR.out))
           (have HRV := Lib.hid hw)
           (have HFV := Lib.hid (Fr.of_grown HF.out hg))
           (have HOV := Lib.hid (own_grown HO.out hg (by omega)))
           (clear HP HR HF HO hw hg)
           (have HPA := Lib.hid (lies_alloc (o := .cells #[.int .i64 v] 3) HPV.out))
           (have HRA := Lib.hid (RS.al HRV.out (.cells #[.int .i64 v] 3)))
           (have HFA := Lib.hid (Fr.al HFV.out (.cells #[.int .i64 v] 3)))
           (have HOA := Lib.hid (HOV.out.alloc (.cells #[.int .i64 v] 3)))
           (have HNW : Hid (∀ j u,([Value.int .i64 v])[j]? = some u → (V.alloc (.cells #[.int .i64 v] 3)).cell? ((⟨V.heap.size,0,none⟩ : Addr).add j) = some u) := World.news_of_block (heap_alloc_new V _))
           (have HONE : Hid (∀ u ∈ ([Value.int .i64 v]),u.oneCell' = true) := fun u hu => by rw [List.mem_singleton.1 hu];rfl)
           (have hbs : Hid (B ≤ (V.alloc (.cells #[.int .i64 v] 3)).heap.size) := by (have h1 := HFA.out.size);(have h2 := HBB.out);show _ ≤ _;omega)
)
        | (at_builtin;refine wpList_append_lies _ rfl _ _ 23 (by rfl) B 3 ii _ 1 8 Tryz.underlying23 hii hzz hs3 hb3' rfl (by omega) u5 i _ (by rfl) HOA.out ⟨V.heap.size,0,none⟩ 1 1 ([Value.int .i64 v]) (by rfl) (by rfl) HNW.out HONE.out (by omega) (by unfold maxLen;omega) (by omega) hbs.out _ rfl ?_;intro gq cp w5 hrow5 hg5 hgb5 hgl5))
      have HPX := Lib.hid ((hg5.block p (lies_lt HPA.out) (own_neg HOA.out (by omega))).trans HPA.out)
      have HRX := Lib.hid (RS.keep HRA.out (hg5.block r HRA.out.lt (own_neg HOA.out (by omega))))
      have HFX := Lib.hid (Fr.app HFA.out HOA.out hg5)
      have HOX : Hid (w5.ownsRow B 3 1 (.slice (some ⟨gq,0,none⟩) (i + 1) cp) (i + 1) (enI (acc ++ [v]))) := by
        show World.ownsRow _ _ _ _ _ _ _
        rw [show enI (acc ++ [v]) = enI acc ++ [.int .i64 v] by simp [enI]]
        exact hrow5
      go_roundw
      case rel => exact ⟨i + 1,σ4,acc ++ [v],by omega,by go_num,by simp [hal],by show _ = _;rw [← ha1.out,List.append_assoc];rfl,ha2,HPX,HRX,HFX,HOX⟩
      case measure => simp [intOf];omega
    case false =>
      rw [many_end hRg hi] at ha1 ha2
      have ha1 : acc = l := by have := ha1.out;simpa using this
      have HA1 := Lib.hid ha1
      have HA2 : Hid (σ = σ') := ha2.out
      obtain ⟨A,cap,hrv,HIN0⟩ := ints_row HO.out hal.symm
      have HIN := Lib.hid HIN0
      have HRV := Lib.hid hrv
      clear ha1 ha2 HIN0 hrv HO
      by_cases hlt : i < n
      · have e1 : decide ((i : Int) < (n : Int)) = true := decide_eq_true (by omega)
        have e1' : decide (i < n) = true := decide_eq_true hlt
        have hsn : σ = none := by
          cases σ with
          | none => rfl
          | some l => rw [e1'] at hRg;simp at hRg
        have HE2 : Hid (Calls Tryz.prog 50 #[.pointer (some ⟨p,0,none⟩)] wr fun e w' => e = .returned (.int .i64 10) ∧ wr = w') := by
          have h := HE.out
          rw [hsn] at h
          exact h
        clear HE hRg hsn
        go_wp2_with (go_at_call 50;(with_reducible refine (HE2.out).mono ?_);rintro e w' ⟨rfl,rfl⟩)
        go_returns
        rw [HBB.out]
        exact ⟨⟨A,cap,acc,HA1.out,by show Ending.returned u5 = _;rw [HRV.out],HIN.out⟩,⟨HP.out,by rw [← HA2.out];exact HR.out⟩,HF.out⟩
      · have e1 : decide ((i : Int) < (n : Int)) = false := decide_eq_false (by omega)
        have e1' : decide (i < n) = false := decide_eq_false hlt
        clear HE hRg
        go_wp2_with fail
        go_returns
        rw [HBB.out]
        exact ⟨⟨A,cap,acc,HA1.out,by show Ending.returned u5 = _;rw [HRV.out],HIN.out⟩,⟨HP.out,by rw [← HA2.out];exact HR.out⟩,HF.out⟩
set_option maxHeartbeats 4000000 in
theorem rlistW (p r kb n : Nat) (σ0 σ1 σ' : St) (l : List PitotConf.Win) (w : World) (h : PS w p r 0 σ0) (hpr : p ≠ r) (hK : w.heap[kb]? = some (.cells #[.pointer (some ⟨p,0,none⟩)] 46)) (hkr : kb ≠ r) (hkp : kb ≠ p) (h1 : rd 2 σ0 = ((n : Int),σ1)) (h2 : PitotImg.manyS PitotImg.winS n σ1 = (l,σ')) :
    Calls Tryz.prog 41 #[.pointer (some ⟨p,0,none⟩),.func (.func 42) #[] #[.pointer (some ⟨kb,0,none⟩)]] w fun e w' => Lst WnsIn w.heap.size (fun xs => xs.map Wn.pl = l) e w' ∧ PS w' p r 0 σ' ∧ Fr w.heap.size r p w w' := by
  have HN1 := Lib.hid (pU16_of (r := r) h1)
  have hnb := rd_ge h1
  have hN : n < 65536 := by have : (n : Int) < 65536 := hnb.2;omega
  have HPR := Lib.hid hpr
  have HP : Hid (w.heap[p]? = some (.cells #[.pointer (some ⟨r,0,none⟩),.int .i64 0] 50)) := h.1
  have HR : Hid (RS 82 w r σ0) := h.2
  have H2 := Lib.hid h2
  have HK : Hid (w.heap[kb]? = some (.cells #[.pointer (some ⟨p,0,none⟩)] 46)) := hK
  have hkw := lies_lt hK
  have hpw := lies_lt h.1
  have hrw := h.2.lt
  have c0 := lies_cell h.1 0
  clear h hpr h1 h2 hnb
  go_enter Tryz.func41,Tryz.ntmps41
  go_wp2_with (go_at_call 38;(with_reducible refine (HN1.out _ HR.out).mono ?_);rintro e w2 ⟨rfl,hw2,hg2⟩)
  have HP2 := Lib.hid (lies_grown HP.out hg2 HPR.out)
  have HR2 := Lib.hid hw2
  have HF2 : Hid (Fr w.heap.size r p w w2) := Fr.grown hg2
  have HK2 := Lib.hid (lies_grown HK.out hg2 hkr)
  obtain ⟨B,hB⟩ : ∃ n,w.heap.size = n := ⟨_,rfl⟩
  rw [hB] at HF2 hpw hrw hkw
  have HBB := Lib.hid hB
  clear HP HR hw2 hg2 c0 HN1 hB HK hK
  have HOW : Hid (w2.ownsRow B 58 3 (.slice none 0 0) 0 ([])) := World.ownsRow_nil _ _ _ _
  go_loopw [5,11] (fun v5 v11 wr => ∃ (i : Nat) (σ : St) (acc : List Wn),i ≤ n ∧ v11 = .int .i64 i ∧ acc.length = i ∧ Hid (acc.map Wn.pl ++ (PitotImg.manyS PitotImg.winS (n - i) σ).1 = l) ∧ Hid ((PitotImg.manyS PitotImg.winS (n - i) σ).2 = σ') ∧ Hid (wr.heap[p]? = some (.cells #[.pointer (some ⟨r,0,none⟩),.int .i64 0] 50)) ∧ Hid (RS 82 wr r σ) ∧ Hid (Fr B r p w wr) ∧ Hid (wr.ownsRow B 58 3 v5 i (acc.flatMap Wn.enc)) ∧ Hid (wr.heap[kb]? = some (.cells #[.pointer (some ⟨p,0,none⟩)] 46))) (fun _ v11 _ => n - (intOf v11).toNat)
  case atStart => exact ⟨0,σ1,[],Nat.zero_le _,rfl,rfl,by show _ = _;rw [Nat.sub_zero,H2.out];rfl,by show _ = _;rw [Nat.sub_zero,H2.out],HP2,HR2,HF2,HOW,HK2⟩
  case round =>
    obtain ⟨i,σ,acc,hi,rfl,hal,ha1,ha2,HP,HR,HF,HO,HK⟩ := hrel
    clear HP2 HR2 HF2 HOW HK2
    have HE := Lib.hid (perr_any p r 0 σ wr ⟨HP.out,HR.out⟩)
    obtain ⟨Rg,hRg⟩ : ∃ R,(decide (i < n) && σ.isSome) = R := ⟨_,rfl⟩
    cases Rg
    case true =>
      have hlt : i < n := by
        have h := hRg
        simp only [Bool.and_eq_true,decide_eq_true_eq] at h
        exact h.1
      have e1 : decide ((i : Int) < (n : Int)) = true := decide_eq_true (by omega)
      have e1' : decide (i < n) = true := decide_eq_true hlt
      have HE2 : Hid (Calls Tryz.prog 50 #[.pointer (some ⟨p,0,none⟩)] wr fun e w' => e = .returned (.int .i64 0) ∧ wr = w') := by
        have h := HE.out
        cases σ with
        | none => simp at hRg
        | some l => exact h
      clear HE
      obtain ⟨y1,τ1,HE1⟩ := rd_of 2 σ
      obtain ⟨y2,τ2,HE3⟩ := rd_of 4 τ1
      obtain ⟨y3,τ3,HE4⟩ := rd_of 4 τ2
      have HX : Hid (PitotImg.winS σ = (⟨y1,y2,y3⟩,τ3)) := by show _ = _;unfold PitotImg.winS;rw [HE1.out,HE3.out,HE4.out]
      have HNv : Hid (∀ w,PS w p r 0 σ → w.heap[kb]? = some (.cells #[.pointer (some ⟨p,0,none⟩)] 46) → Calls Tryz.prog 42 #[.pointer (some ⟨kb,0,none⟩)] w fun e w' => e = .returned (.agg #[.int .i64 y1,.int .i64 y2,.int .i64 y3]) ∧ PS w' p r 0 τ3 ∧ Fr w.heap.size r p w w') := fun w hs hk => c1_any y1 y2 y3 τ3 p r kb σ w hs HPR.out hk (fun w hs => rwin_any p r y1 y2 y3 σ τ1 τ2 τ3 w hs HPR.out HE1.out HE3.out HE4.out)
      have HGO := Lib.hid (many_go (p := PitotImg.winS) hRg HX.out)
      have HGO1 := HGO.out.2
      rw [HGO1] at ha1 ha2
      clear HGO HGO1 hRg
      obtain ⟨ii,hii,hzz,hs3,hb3'⟩ := info_parts infoW
      go_wp2_with (first
        | (go_at_call 50;(with_reducible refine (HE2.out).mono ?_);rintro e w' ⟨rfl,rfl⟩)
        | (go_at_call 42;(with_reducible refine (HNv.out _ (ps_mk HP.out HR.out) HK.out).mono ?_);rintro e V ⟨rfl,hw,hf⟩
           (have HPV := Lib.hid hw.1)
           (have HRV := Lib.hid hw.2)
           (have HFV := Lib.hid (HF.out.trans (hf.mono (by (have h1 := HF.out.size);(have h2 := HBB.out);omega))))
           (have HOV := Lib.hid (own_fr HO.out hf (Nat.le_refl _) (by omega) (.inl (by omega))))
           (have HKV := Lib.hid ((hf.block kb (lies_lt HK.out) hkr hkp (lies_lt HK.out)).trans HK.out))
           (have HKA := Lib.hid (lies_alloc (o := .cells #[.int .i64 y1,.int .i64 y2,.int .i64 y3] 58) HKV.out))
           (clear HP HR HF HO HK hw hf)
           (have HPA := Lib.hid (lies_alloc (o := .cells #[.int .i64 y1,.int .i64 y2,.int .i64 y3] 58) HPV.out))
           (have HRA := Lib.hid (RS.al HRV.out (.cells #[.int .i64 y1,.int .i64 y2,.int .i64 y3] 58)))
           (have HFA := Lib.hid (Fr.al HFV.out (.cells #[.int .i64 y1,.int .i64 y2,.int .i64 y3] 58)))
           (have HOA := Lib.hid (HOV.out.alloc (.cells #[.int .i64 y1,.int .i64 y2,.int .i64 y3] 58)))
           (have HNW : Hid (∀ j u,(Wn.enc ⟨y1,y2,y3⟩)[j]? = some u → (V.alloc (.cells #[.int .i64 y1,.int .i64 y2,.int .i64 y3] 58)).cell? ((⟨V.heap.size,0,none⟩ : Addr).add j) = some u) := World.news_of_block (heap_alloc_new V _))
           (have HONE : Hid (∀ u ∈ (Wn.enc ⟨y1,y2,y3⟩),u.oneCell' = true) := Wn.enc_one _)
           (have hbs : Hid (B ≤ (V.alloc (.cells #[.int .i64 y1,.int .i64 y2,.int .i64 y3] 58)).heap.size) := by (have h1 := HFA.out.size);(have h2 := HBB.out);show _ ≤ _;omega)
)
        | (at_builtin;refine wpList_append_lies _ rfl _ _ 24 (by rfl) B 58 ii _ 3 24 Tryz.underlying24 hii hzz hs3 hb3' rfl (by omega) u5 i _ (by rfl) HOA.out ⟨V.heap.size,0,none⟩ 1 1 (Wn.enc ⟨y1,y2,y3⟩) (by rfl) (by rfl) HNW.out HONE.out (by omega) (by unfold maxLen;omega) (by omega) hbs.out _ rfl ?_;intro gq cp w5 hrow5 hg5 hgb5 hgl5))
      have HPX := Lib.hid ((hg5.block p (lies_lt HPA.out) (own_neg HOA.out (by omega))).trans HPA.out)
      have HRX := Lib.hid (RS.keep HRA.out (hg5.block r HRA.out.lt (own_neg HOA.out (by omega))))
      have HFX := Lib.hid (Fr.app HFA.out HOA.out hg5)
      have HOX : Hid (w5.ownsRow B 58 3 (.slice (some ⟨gq,0,none⟩) (i + 1) cp) (i + 1) ((acc ++ [(⟨y1,y2,y3⟩ : Wn)]).flatMap Wn.enc)) := by
        show World.ownsRow _ _ _ _ _ _ _
        rw [List.flatMap_append,List.flatMap_singleton]
        exact hrow5
      have HKX := Lib.hid ((hg5.block kb (lies_lt HKA.out) (own_neg HOA.out (by omega))).trans HKA.out)
      go_roundw
      case rel => exact ⟨i + 1,τ3,acc ++ [(⟨y1,y2,y3⟩ : Wn)],by omega,by go_num,by simp [hal],by show _ = _;rw [← ha1.out,List.map_append,List.append_assoc];rfl,ha2,HPX,HRX,HFX,HOX,HKX⟩
      case measure => simp [intOf];omega
    case false =>
      rw [many_end hRg hi] at ha1 ha2
      have ha1 : acc.map Wn.pl = l := by have := ha1.out;simpa using this
      have HA1 := Lib.hid ha1
      have HA2 : Hid (σ = σ') := ha2.out
      obtain ⟨A,cap,hrv,HIN0⟩ := Wns_row HO.out hal.symm
      have HIN := Lib.hid HIN0
      have HRV := Lib.hid hrv
      clear ha1 ha2 HIN0 hrv HO
      by_cases hlt : i < n
      · have e1 : decide ((i : Int) < (n : Int)) = true := decide_eq_true (by omega)
        have e1' : decide (i < n) = true := decide_eq_true hlt
        have hsn : σ = none := by
          cases σ with
          | none => rfl
          | some l => rw [e1'] at hRg;simp at hRg
        have HE2 : Hid (Calls Tryz.prog 50 #[.pointer (some ⟨p,0,none⟩)] wr fun e w' => e = .returned (.int .i64 10) ∧ wr = w') := by
          have h := HE.out
          rw [hsn] at h
          exact h
        clear HE hRg hsn
        go_wp2_with (go_at_call 50;(with_reducible refine (HE2.out).mono ?_);rintro e w' ⟨rfl,rfl⟩)
        go_returns
        rw [HBB.out]
        exact ⟨⟨A,cap,acc,HA1.out,by show Ending.returned u5 = _;rw [HRV.out],HIN.out⟩,⟨HP.out,by rw [← HA2.out];exact HR.out⟩,HF.out⟩
      · have e1 : decide ((i : Int) < (n : Int)) = false := decide_eq_false (by omega)
        have e1' : decide (i < n) = false := decide_eq_false hlt
        clear HE hRg
        go_wp2_with fail
        go_returns
        rw [HBB.out]
        exact ⟨⟨A,cap,acc,HA1.out,by show Ending.returned u5 = _;rw [HRV.out],HIN.out⟩,⟨HP.out,by rw [← HA2.out];exact HR.out⟩,HF.out⟩
end Go.Proofs.YtdgkanamceeheaaGreat.Im
