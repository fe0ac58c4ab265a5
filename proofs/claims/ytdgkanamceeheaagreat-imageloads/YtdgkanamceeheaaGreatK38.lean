/- The program's reader: a port. -/
import Derived.Test.YtdgkanamceeheaaGreatK36
import Derived.Test.YtdgkanamceeheaaGreatK0
set_option linter.unusedVariables false
set_option maxRecDepth 100000
set_option linter.unusedVariables false
namespace Go.Proofs.YtdgkanamceeheaaGreat.Im
open Go.RowKit
open PitotImg (St rd)
set_option maxHeartbeats 8000000 in
theorem rport_any (p r : Nat) (y1 y2 y3 yb y5 y7 y8 y9 yh yl : Int) (σ σ1 σ2 σ3 σ4 σ5 σ6 σ7 σ8 σ9 σ10 : St) (w : World) (h : PS w p r 0 σ) (hpr : p ≠ r) (h1 : rd 4 σ = (y1,σ1)) (h2 : rd 2 σ1 = (y2,σ2)) (h3 : rd 2 σ2 = (y3,σ3)) (h4 : rd 1 σ3 = (yb,σ4)) (h5 : rd 2 σ4 = (y5,σ5)) (h6 : rd 2 σ5 = (y7,σ6)) (h7 : rd 2 σ6 = (y8,σ7)) (h8 : rd 2 σ7 = (y9,σ8)) (h9 : rd 4 σ8 = (yh,σ9)) (h10 : rd 4 σ9 = (yl,σ10)) :
    Calls Tryz.prog 49 #[.pointer (some ⟨p,0,none⟩)] w fun e w' => e = .returned (.agg #[.int .i64 y1,.int .i64 y2,.int .i64 y3,.int .i64 (yb / 64),.bool (decide (yb / 32 % 2 = 1)),.int .i64 y5,.int .i64 (yb % 32),.int .i64 y7,.int .i64 y8,.int .i64 y9,.int .i64 (PitotImg.joinF yh yl)]) ∧ PS w' p r (wr1 (PitotImg.wrongF yh yl && σ10.isSome)) σ10 ∧ Fr w.heap.size r p w w' := by
  have HN1 := Lib.hid (pU32_of (r := r) h1)
  have HN2 := Lib.hid (pU16_of (r := r) h2)
  have HN3 := Lib.hid (pU16_of (r := r) h3)
  have HN5 := Lib.hid (pU16_of (r := r) h5)
  have HN6 := Lib.hid (pU16_of (r := r) h6)
  have HN7 := Lib.hid (pU16_of (r := r) h7)
  have HN8 := Lib.hid (pU16_of (r := r) h8)
  have HEb := Lib.hid h4
  have HFR := Lib.hid (fun w hs => fresh_any p r yh yl σ8 σ9 σ10 w hs hpr h9 h10)
  have HWD := Lib.hid portWide_any
  obtain ⟨q0,hq0⟩ : ∃ q,yb / 64 = q := ⟨_,rfl⟩
  obtain ⟨q1,hq1⟩ : ∃ q,yb / 32 % 2 = q := ⟨_,rfl⟩
  obtain ⟨q2,hq2⟩ : ∃ q,yb % 32 = q := ⟨_,rfl⟩
  have hqq := byte_port h4
  rw [hq0,hq1,hq2] at hqq
  have HQQ := Lib.hid hqq
  obtain ⟨bq,hbq⟩ : ∃ b,decide (q1 = 1) = b := ⟨_,rfl⟩
  have hbq' : (q1 == 1) = bq := hbq
  obtain ⟨fr,hfr⟩ : ∃ x,PitotImg.joinF yh yl = x := ⟨_,rfl⟩
  obtain ⟨xx,hxx⟩ : ∃ x,wr1 (PitotImg.wrongF yh yl && σ10.isSome) = x := ⟨_,rfl⟩
  rw [hfr,hxx] at HFR
  rw [hq0,hq1,hq2,hbq,hfr,hxx]
  clear h1 h2 h3 h4 h5 h6 h7 h8 h9 h10 hq0 hq1 hq2 hqq hfr hxx
  have HPR := Lib.hid hpr
  have HP : Hid ((w.alloc (.cells #[.int .i64 0,.int .i64 0,.int .i64 0,.int .i64 0,.bool false,.int .i64 0,.int .i64 0,.int .i64 0,.int .i64 0,.int .i64 0,.int .i64 0] 62)).heap[p]? = some (.cells #[.pointer (some ⟨r,0,none⟩),.int .i64 0] 50)) := lies_alloc h.1 _
  have HR : Hid (RS 82 (w.alloc (.cells #[.int .i64 0,.int .i64 0,.int .i64 0,.int .i64 0,.bool false,.int .i64 0,.int .i64 0,.int .i64 0,.int .i64 0,.int .i64 0,.int .i64 0] 62)) r σ) := RS.al h.2 _
  have HF : Hid (Fr w.heap.size r p w (w.alloc (.cells #[.int .i64 0,.int .i64 0,.int .i64 0,.int .i64 0,.bool false,.int .i64 0,.int .i64 0,.int .i64 0,.int .i64 0,.int .i64 0,.int .i64 0] 62))) := Fr.al Fr.refl _
  have RB : Hid ((w.alloc (.cells #[.int .i64 0,.int .i64 0,.int .i64 0,.int .i64 0,.bool false,.int .i64 0,.int .i64 0,.int .i64 0,.int .i64 0,.int .i64 0,.int .i64 0] 62)).heap[w.heap.size]? = some (.cells #[.int .i64 0,.int .i64 0,.int .i64 0,.int .i64 0,.bool false,.int .i64 0,.int .i64 0,.int .i64 0,.int .i64 0,.int .i64 0,.int .i64 0] 62)) := heap_alloc_new w _
  have hpw := lies_lt h.1
  have hrw := h.2.lt
  have HB0 : Hid (w.heap.size ≤ w.heap.size) := Nat.le_refl _
  have hzv := zero_prt
  clear h hpr
  go_enter Tryz.func49,Tryz.ntmps49
  go_upto_region 1 with (fail)
  obtain ⟨W1,hW1⟩ : ∃ W,w.alloc (.cells #[.int .i64 0,.int .i64 0,.int .i64 0,.int .i64 0,.bool false,.int .i64 0,.int .i64 0,.int .i64 0,.int .i64 0,.int .i64 0,.int .i64 0] 62) = W := ⟨_,rfl⟩
  rw [hW1] at HP HR HF RB ⊢
  clear hW1 hzv
  obtain ⟨rv,hrv⟩ : ∃ n,w.heap.size = n := ⟨_,rfl⟩
  obtain ⟨B,hB⟩ : ∃ n,w.heap.size = n := ⟨_,rfl⟩
  rw [hB] at HF hpw hrw HB0
  have hBrv : B = rv := hB.symm.trans hrv
  rw [hrv] at RB ⊢
  have HHB := Lib.hid hB
  clear hB hrv
  have hBr : B ≤ rv := by omega
  have HB1 : Hid (B ≤ w.heap.size) := by show _ ≤ _;have := HHB.out;omega
  clear hBrv
  refine prt1 HN1 HN2 HN3 HPR HP HR HF HB1 RB (by omega) (by omega) (by omega) (fun _ _ _ _ _ h => h) ?_
  clear HP HR HF RB HB0 HN1 HN2 HN3
  intro wc vb hp0 hr0 hf0 hrb0 hvb0 hBv hrvv z0 z1 z2 z3 z4 z5 z6 z7 z8 z9 z10 z11 z12 z13 z14 z15
  have HP := Lib.hid hp0
  have HR := Lib.hid hr0
  have HF := Lib.hid hf0
  have RB := Lib.hid hrb0
  have VB := Lib.hid hvb0
  clear hp0 hr0 hf0 hrb0 hvb0
  have HY : Hid (∀ (k ca : Nat) (w : World),PS w p r 0 σ3 → w.heap[k]? = some (.cells #[.int .i64 2,.int .i64 1,.int .i64 5] 3) → k ≠ r → Calls Tryz.prog 86 #[.pointer (some ⟨p,0,none⟩),.slice (some ⟨k,0,none⟩) 3 ca] w fun e w' => e = .returned (.agg #[.int .i64 q0,.int .i64 q1,.int .i64 q2]) ∧ PS w' p r 0 σ4 ∧ Fr w.heap.size r p w w') := fun k ca w h1 h2 h3 => byte_any p r ca k [2,1,5] q0 q1 q2 yb σ3 σ4 w h1 HPR.out (ints3 h2) h3 rfl rfl HEb.out HQQ.out rfl
  have hza := zero_a3
  go_upto_region 3 with (first
    | (go_at_call 88;(with_reducible refine (HWD.out _).mono ?_);rintro e V1 ⟨⟨k,rfl,hk1,hk2⟩,hb1⟩
       (have HP1 := Lib.hid (lies_below HP.out hb1 (lies_lt HP.out)))
       (have HR1 := Lib.hid (RS.keep HR.out (hb1.block r HR.out.lt)))
       (have HF1 := Lib.hid (HF.out.trans ((Fr.ofB (a := r) (b := p) hb1).mono (by (have h1 := HF.out.size);(have h2 := HHB.out);omega))))
       (have RB1 := Lib.hid (lies_below RB.out hb1 (lies_lt RB.out)))
       (have VB1 := Lib.hid (lies_below VB.out hb1 (lies_lt VB.out)))
       (have HK1 := Lib.hid hk2)
       (have hkr : k ≠ r := by (have h1 := HR.out.lt);omega)
       (have hkb : vb < k := by (have h1 := lies_lt VB.out);omega)
       (clear HP HR HF RB VB hk2 hb1))
    | (go_at_call 86;(with_reducible refine (HY.out _ _ _ (ps_mk HP1.out HR1.out) HK1.out hkr).mono ?_);rintro e V2 ⟨rfl,hs2,hf2⟩
       (have HP := Lib.hid hs2.1)
       (have HR := Lib.hid hs2.2)
       (have HF := Lib.hid (HF1.out.trans (hf2.mono (by (have h1 := HF1.out.size);(have h2 := HHB.out);omega))))
       (have RB := Lib.hid ((hf2.block rv (lies_lt RB1.out) (by omega) (by omega) (lies_lt RB1.out)).trans RB1.out))
       (have VB := Lib.hid ((hf2.block vb (lies_lt VB1.out) (by omega) (by omega) (lies_lt VB1.out)).trans VB1.out))
       (clear hs2 hf2 HP1 HR1 HF1 RB1 VB1 HK1)))
  have hvab : vb < V2.heap.size := lies_lt VB.out
  have HPd := Lib.hid (lies_alloc (o := .cells #[.int .i64 q0,.int .i64 q1,.int .i64 q2] 133) HP.out)
  have HRd := Lib.hid (RS.al HR.out (.cells #[.int .i64 q0,.int .i64 q1,.int .i64 q2] 133))
  have HFd := Lib.hid (Fr.al HF.out (.cells #[.int .i64 q0,.int .i64 q1,.int .i64 q2] 133))
  have RBd := Lib.hid (lies_alloc (o := .cells #[.int .i64 q0,.int .i64 q1,.int .i64 q2] 133) RB.out)
  have VBd := Lib.hid (lies_alloc (o := .cells #[.int .i64 q0,.int .i64 q1,.int .i64 q2] 133) VB.out)
  have AB : Hid ((V2.alloc (.cells #[.int .i64 q0,.int .i64 q1,.int .i64 q2] 133)).heap[V2.heap.size]? = some (.cells #[.int .i64 q0,.int .i64 q1,.int .i64 q2] 133)) := heap_alloc_new V2 _
  clear HP HR HF RB VB hza HY HWD HEb
  have HP := HPd
  have HR := HRd
  have HF := HFd
  have RB := RBd
  have VB := VBd
  clear HPd HRd HFd RBd VBd
  obtain ⟨W3,hW3⟩ : ∃ W,V2.alloc (.cells #[.int .i64 q0,.int .i64 q1,.int .i64 q2] 133) = W := ⟨_,rfl⟩
  rw [hW3] at HP HR HF RB VB AB ⊢
  clear hW3
  obtain ⟨ab,hab⟩ : ∃ n,V2.heap.size = n := ⟨_,rfl⟩
  rw [hab] at AB hvab ⊢
  clear hab
  have AB2 := AB
  have HPd : Hid ((World.drew W3).heap[p]? = _) := HP.out
  have HRd : Hid (RS 82 (World.drew W3) r _) := HR.out
  have HFd := Lib.hid (HF.out.trans Fr.dr)
  have RBd : Hid ((World.drew W3).heap[_]? = _) := RB.out
  have VBd : Hid ((World.drew W3).heap[_]? = _) := VB.out
  have AB2d : Hid ((World.drew W3).heap[_]? = _) := AB2.out
  clear HP HR HF RB VB AB2
  have HP := HPd
  have HR := HRd
  have HF := HFd
  have RB := RBd
  have VB := VBd
  have AB2 := AB2d
  clear HPd HRd HFd RBd VBd AB2d
  refine wp_region_held_drew (S := (fun w' => w'.heap[ab]? = W3.heap[ab]?)) (by kernel_rfl) ?_ (fun hHeld => ?_)
  · exact rfl
  obtain ⟨Wd0,hWd⟩ : ∃ X,World.drew W3 = X := ⟨_,rfl⟩
  have hWd1 : (World.drew W3) = Wd0 := hWd
  rw [hWd] at HP HR HF RB VB AB2 hHeld ⊢
  clear hWd hWd1
  refine tK 0 ?_ rfl (by kernel_rfl) rfl (by intro w;go_simp<;>with_reducible rfl) (fun _ _ _ h=>h) hHeld
  try simp only [Act.put,yA,yB,yC]
  refine tX 1 ?_ rfl (by kernel_rfl) rfl (by intro w hSw;(try dsimp only at hSw);have a0 := lies_cell (hSw.trans AB.out) 0;clear hSw;go_simp<;>with_reducible rfl) (fun _ _ _ h=>h) hHeld
  try simp only [Act.put,yA,yB,yC]
  refine tK 2 ?_ rfl (by kernel_rfl) rfl (by intro w;go_simp<;>with_reducible rfl) (fun _ _ _ h=>h) hHeld
  try simp only [Act.put,yA,yB,yC]
  refine tX 3 ?_ rfl (by kernel_rfl) rfl (by intro w hSw;(try dsimp only at hSw);have a1 := lies_cell (hSw.trans AB.out) 1;clear hSw;go_simp<;>with_reducible rfl) (fun _ _ _ h=>h) hHeld
  try simp only [Act.put,yA,yB,yC]
  refine tK 4 ?_ rfl (by kernel_rfl) rfl (by intro w;go_simp<;>with_reducible rfl) (fun _ _ _ h=>h) hHeld
  try simp only [Act.put,yA,yB,yC]
  refine tK 5 ?_ rfl (by kernel_rfl) rfl (by intro w;go_simp<;>with_reducible rfl) (fun _ _ _ h=>h) hHeld
  try simp only [Act.put,yA,yB,yC]
  refine tX 6 ?_ rfl (by kernel_rfl) rfl (by intro w hSw;(try dsimp only at hSw);have a2 := lies_cell (hSw.trans AB.out) 2;clear hSw;go_simp<;>with_reducible rfl) (fun _ _ _ h=>h) hHeld
  try simp only [Act.put,yA,yB,yC]
  refine tK 7 ?_ rfl (by kernel_rfl) rfl (by intro w;go_simp<;>with_reducible rfl) (fun _ _ _ h=>h) hHeld
  try simp only [Act.put,yA,yB,yC]
  refine rY 8 [] ?_ (by kernel_rfl)
  refine rC rfl (fun K hK => ?_) AllReadyH.nil
  have ff := lies_frozen VB.out 3
  have qq := lies_cell VB.out 3
  go_simp
  clear ff qq
  have HPd : Hid ((Wd0.setCell ⟨vb,3,none⟩ (.int .i64 q0)).heap[p]? = _) := (heap_set_ne (by omega)).trans HP.out
  have HRd : Hid (RS 82 (Wd0.setCell ⟨vb,3,none⟩ (.int .i64 q0)) r _) := RS.keep HR.out (heap_set_ne (by omega))
  have HFd : Hid (Fr _ r p _ (Wd0.setCell ⟨vb,3,none⟩ (.int .i64 q0))) := Fr.setN HF.out (by omega)
  have VBd : Hid ((Wd0.setCell ⟨vb,3,none⟩ (.int .i64 q0)).heap[vb]? = some (.cells #[.int .i64 y1,.int .i64 y2,.int .i64 y3,.int .i64 q0,.bool false,.int .i64 0,.int .i64 0,.int .i64 0,.int .i64 0,.int .i64 0,.int .i64 0] 62)) := lies_set VB.out 3 _
  have RBd : Hid ((Wd0.setCell ⟨vb,3,none⟩ (.int .i64 q0)).heap[_]? = _) := (heap_set_ne (by omega)).trans RB.out
  have AB2d : Hid ((Wd0.setCell ⟨vb,3,none⟩ (.int .i64 q0)).heap[_]? = _) := (heap_set_ne (by omega)).trans AB2.out
  clear HP HR HF VB RB AB2
  have HP := HPd
  have HR := HRd
  have HF := HFd
  have VB := VBd
  have RB := RBd
  have AB2 := AB2d
  clear HPd HRd HFd VBd RBd AB2d
  generalize Wd0.setCell ⟨vb,3,none⟩ (.int .i64 q0) = Wd1 at HP HR HF VB RB AB2 ⊢
  refine hK.out _ _ ?_ (fun hHeld => ?_)
  · exact AB2.out.trans AB.out.symm
  clear hK K
  try simp only [Act.put,yA,yB,yC]
  refine tK 9 ?_ rfl (by kernel_rfl) rfl (by intro w;go_simp<;>with_reducible rfl) (fun _ _ _ h=>h) hHeld
  try simp only [Act.put,yA,yB,yC]
  refine rY 10 [] ?_ (by kernel_rfl)
  refine rC rfl (fun K hK => ?_) AllReadyH.nil
  have ff := lies_frozen VB.out 4
  have qq := lies_cell VB.out 4
  go_simp
  clear ff qq
  have HPd : Hid ((Wd1.setCell ⟨vb,4,none⟩ (.bool bq)).heap[p]? = _) := (heap_set_ne (by omega)).trans HP.out
  have HRd : Hid (RS 82 (Wd1.setCell ⟨vb,4,none⟩ (.bool bq)) r _) := RS.keep HR.out (heap_set_ne (by omega))
  have HFd : Hid (Fr _ r p _ (Wd1.setCell ⟨vb,4,none⟩ (.bool bq))) := Fr.setN HF.out (by omega)
  have VBd : Hid ((Wd1.setCell ⟨vb,4,none⟩ (.bool bq)).heap[vb]? = some (.cells #[.int .i64 y1,.int .i64 y2,.int .i64 y3,.int .i64 q0,.bool bq,.int .i64 0,.int .i64 0,.int .i64 0,.int .i64 0,.int .i64 0,.int .i64 0] 62)) := lies_set VB.out 4 _
  have RBd : Hid ((Wd1.setCell ⟨vb,4,none⟩ (.bool bq)).heap[_]? = _) := (heap_set_ne (by omega)).trans RB.out
  have AB2d : Hid ((Wd1.setCell ⟨vb,4,none⟩ (.bool bq)).heap[_]? = _) := (heap_set_ne (by omega)).trans AB2.out
  clear HP HR HF VB RB AB2
  have HP := HPd
  have HR := HRd
  have HF := HFd
  have VB := VBd
  have RB := RBd
  have AB2 := AB2d
  clear HPd HRd HFd VBd RBd AB2d
  generalize Wd1.setCell ⟨vb,4,none⟩ (.bool bq) = Wd2 at HP HR HF VB RB AB2 ⊢
  refine hK.out _ _ ?_ (fun hHeld => ?_)
  · exact AB2.out.trans AB.out.symm
  clear hK K
  try simp only [Act.put,yA,yB,yC]
  refine tK 11 ?_ rfl (by kernel_rfl) rfl (by intro w;go_simp<;>with_reducible rfl) (fun _ _ _ h=>h) hHeld
  try simp only [Act.put,yA,yB,yC]
  refine rY 12 [] ?_ (by kernel_rfl)
  refine rC rfl (fun K hK => ?_) AllReadyH.nil
  have ff := lies_frozen VB.out 6
  have qq := lies_cell VB.out 6
  go_simp
  clear ff qq
  have HPd : Hid ((Wd2.setCell ⟨vb,6,none⟩ (.int .i64 q2)).heap[p]? = _) := (heap_set_ne (by omega)).trans HP.out
  have HRd : Hid (RS 82 (Wd2.setCell ⟨vb,6,none⟩ (.int .i64 q2)) r _) := RS.keep HR.out (heap_set_ne (by omega))
  have HFd : Hid (Fr _ r p _ (Wd2.setCell ⟨vb,6,none⟩ (.int .i64 q2))) := Fr.setN HF.out (by omega)
  have VBd : Hid ((Wd2.setCell ⟨vb,6,none⟩ (.int .i64 q2)).heap[vb]? = some (.cells #[.int .i64 y1,.int .i64 y2,.int .i64 y3,.int .i64 q0,.bool bq,.int .i64 0,.int .i64 q2,.int .i64 0,.int .i64 0,.int .i64 0,.int .i64 0] 62)) := lies_set VB.out 6 _
  have RBd : Hid ((Wd2.setCell ⟨vb,6,none⟩ (.int .i64 q2)).heap[_]? = _) := (heap_set_ne (by omega)).trans RB.out
  have AB2d : Hid ((Wd2.setCell ⟨vb,6,none⟩ (.int .i64 q2)).heap[_]? = _) := (heap_set_ne (by omega)).trans AB2.out
  clear HP HR HF VB RB AB2
  have HP := HPd
  have HR := HRd
  have HF := HFd
  have VB := VBd
  have RB := RBd
  have AB2 := AB2d
  clear HPd HRd HFd VBd RBd AB2d
  generalize Wd2.setCell ⟨vb,6,none⟩ (.int .i64 q2) = Wd3 at HP HR HF VB RB AB2 ⊢
  refine hK.out _ _ ?_ (fun hHeld => ?_)
  · exact AB2.out.trans AB.out.symm
  clear hK K
  try simp only [Act.put,yA,yB,yC]
  refine wpAnyH_done (by kernel_rfl) ?_ _
  clear hHeld
  clear AB AB2 hbq hbq'
  go_upto_region 4 with (fail)
  have HPd : Hid ((World.drew Wd3).heap[p]? = _) := HP.out
  have HRd : Hid (RS 82 (World.drew Wd3) r _) := HR.out
  have HFd := Lib.hid (HF.out.trans Fr.dr)
  have RBd : Hid ((World.drew Wd3).heap[_]? = _) := RB.out
  have VBd : Hid ((World.drew Wd3).heap[_]? = _) := VB.out
  clear HP HR HF RB VB
  have HP := HPd
  have HR := HRd
  have HF := HFd
  have RB := RBd
  have VB := VBd
  clear HPd HRd HFd RBd VBd
  refine wp_region_held_drew (S := (fun w' => w'.cell? ⟨p,0,none⟩ = some (.pointer (some ⟨r,0,none⟩)))) (by kernel_rfl) ?_ (fun hHeld => ?_)
  · exact lies_cell HP.out 0
  obtain ⟨We0,hWd⟩ : ∃ X,World.drew Wd3 = X := ⟨_,rfl⟩
  have hWd1 : (World.drew Wd3) = We0 := hWd
  rw [hWd] at HP HR HF RB VB hHeld ⊢
  clear hWd hWd1
  refine tK 0 ?_ rfl (by kernel_rfl) rfl (by intro w;go_simp<;>with_reducible rfl) (fun _ _ _ h=>h) hHeld
  try simp only [Act.put,yA,yB,yC]
  refine tK 1 ?_ rfl (by kernel_rfl) rfl (by intro w;go_simp<;>with_reducible rfl) (fun _ _ _ h=>h) hHeld
  try simp only [Act.put,yA,yB,yC]
  refine tK 2 ?_ rfl (by kernel_rfl) rfl (by intro w;go_simp<;>with_reducible rfl) (fun _ _ _ h=>h) hHeld
  try simp only [Act.put,yA,yB,yC]
  refine tX 3 ?_ rfl (by kernel_rfl) rfl (by intro w hSw;(try dsimp only at hSw);have c0 := hSw;clear hSw;go_simp<;>with_reducible rfl) (fun _ _ _ h=>h) hHeld
  try simp only [Act.put,yA,yB,yC]
  refine tK 5 ?_ rfl (by kernel_rfl) rfl (by intro w;go_simp<;>with_reducible rfl) (fun _ _ _ h=>h) hHeld
  try simp only [Act.put,yA,yB,yC]
  refine tK 6 ?_ rfl (by kernel_rfl) rfl (by intro w;go_simp<;>with_reducible rfl) (fun _ _ _ h=>h) hHeld
  try simp only [Act.put,yA,yB,yC]
  refine tK 7 ?_ rfl (by kernel_rfl) rfl (by intro w;go_simp<;>with_reducible rfl) (fun _ _ _ h=>h) hHeld
  try simp only [Act.put,yA,yB,yC]
  refine tX 8 ?_ rfl (by kernel_rfl) rfl (by intro w hSw;(try dsimp only at hSw);have c0 := hSw;clear hSw;go_simp<;>with_reducible rfl) (fun _ _ _ h=>h) hHeld
  try simp only [Act.put,yA,yB,yC]
  refine tK 10 ?_ rfl (by kernel_rfl) rfl (by intro w;go_simp<;>with_reducible rfl) (fun _ _ _ h=>h) hHeld
  try simp only [Act.put,yA,yB,yC]
  refine tK 11 ?_ rfl (by kernel_rfl) rfl (by intro w;go_simp<;>with_reducible rfl) (fun _ _ _ h=>h) hHeld
  try simp only [Act.put,yA,yB,yC]
  refine tK 12 ?_ rfl (by kernel_rfl) rfl (by intro w;go_simp<;>with_reducible rfl) (fun _ _ _ h=>h) hHeld
  try simp only [Act.put,yA,yB,yC]
  refine tX 13 ?_ rfl (by kernel_rfl) rfl (by intro w hSw;(try dsimp only at hSw);have c0 := hSw;clear hSw;go_simp<;>with_reducible rfl) (fun _ _ _ h=>h) hHeld
  try simp only [Act.put,yA,yB,yC]
  refine tK 15 ?_ rfl (by kernel_rfl) rfl (by intro w;go_simp<;>with_reducible rfl) (fun _ _ _ h=>h) hHeld
  try simp only [Act.put,yA,yB,yC]
  refine tK 16 ?_ rfl (by kernel_rfl) rfl (by intro w;go_simp<;>with_reducible rfl) (fun _ _ _ h=>h) hHeld
  try simp only [Act.put,yA,yB,yC]
  refine tK 17 ?_ rfl (by kernel_rfl) rfl (by intro w;go_simp<;>with_reducible rfl) (fun _ _ _ h=>h) hHeld
  try simp only [Act.put,yA,yB,yC]
  refine tX 18 ?_ rfl (by kernel_rfl) rfl (by intro w hSw;(try dsimp only at hSw);have c0 := hSw;clear hSw;go_simp<;>with_reducible rfl) (fun _ _ _ h=>h) hHeld
  try simp only [Act.put,yA,yB,yC]
  refine rY 4 [] ?_ (by kernel_rfl)
  refine rC rfl (fun K hK => ?_) AllReadyH.nil
  have c0 := lies_cell HP.out 0
  go_simp
  (go_at_call 38;(with_reducible refine (HN5.out _ HR.out).mono ?_);rintro e V ⟨rfl,hw,hg⟩;go_wp2_with fail)
  clear c0
  have HPd := Lib.hid (lies_grown HP.out hg HPR.out)
  have HRd := Lib.hid hw
  have HFd := Lib.hid (Fr.of_grown (b := p) HF.out hg)
  have RBd := Lib.hid (lies_grown RB.out hg (by omega))
  have VBd := Lib.hid (lies_grown VB.out hg (by omega))
  clear HP HR HF RB VB hg hw
  have HP := HPd
  have HR := HRd
  have HF := HFd
  have RB := RBd
  have VB := VBd
  clear HPd HRd HFd RBd VBd
  refine hK.out _ _ ?_ (fun hHeld => ?_)
  · exact lies_cell HP.out 0
  clear hK K
  try simp only [Act.put,yA,yB,yC]
  refine tK 20 ?_ rfl (by kernel_rfl) rfl (by intro w;go_simp<;>with_reducible rfl) (fun _ _ _ h=>h) hHeld
  try simp only [Act.put,yA,yB,yC]
  refine rY 9 [] ?_ (by kernel_rfl)
  refine rC rfl (fun K hK => ?_) AllReadyH.nil
  have c0 := lies_cell HP.out 0
  go_simp
  (go_at_call 38;(with_reducible refine (HN6.out _ HR.out).mono ?_);rintro e V ⟨rfl,hw,hg⟩;go_wp2_with fail)
  clear c0
  have HPd := Lib.hid (lies_grown HP.out hg HPR.out)
  have HRd := Lib.hid hw
  have HFd := Lib.hid (Fr.of_grown (b := p) HF.out hg)
  have RBd := Lib.hid (lies_grown RB.out hg (by omega))
  have VBd := Lib.hid (lies_grown VB.out hg (by omega))
  clear HP HR HF RB VB hg hw
  have HP := HPd
  have HR := HRd
  have HF := HFd
  have RB := RBd
  have VB := VBd
  clear HPd HRd HFd RBd VBd
  refine hK.out _ _ ?_ (fun hHeld => ?_)
  · exact lies_cell HP.out 0
  clear hK K
  try simp only [Act.put,yA,yB,yC]
  refine rY 14 [] ?_ (by kernel_rfl)
  refine rC rfl (fun K hK => ?_) AllReadyH.nil
  have c0 := lies_cell HP.out 0
  go_simp
  (go_at_call 38;(with_reducible refine (HN7.out _ HR.out).mono ?_);rintro e V ⟨rfl,hw,hg⟩;go_wp2_with fail)
  clear c0
  have HPd := Lib.hid (lies_grown HP.out hg HPR.out)
  have HRd := Lib.hid hw
  have HFd := Lib.hid (Fr.of_grown (b := p) HF.out hg)
  have RBd := Lib.hid (lies_grown RB.out hg (by omega))
  have VBd := Lib.hid (lies_grown VB.out hg (by omega))
  clear HP HR HF RB VB hg hw
  have HP := HPd
  have HR := HRd
  have HF := HFd
  have RB := RBd
  have VB := VBd
  clear HPd HRd HFd RBd VBd
  refine hK.out _ _ ?_ (fun hHeld => ?_)
  · exact lies_cell HP.out 0
  clear hK K
  try simp only [Act.put,yA,yB,yC]
  refine rY 19 [] ?_ (by kernel_rfl)
  refine rC rfl (fun K hK => ?_) AllReadyH.nil
  have c0 := lies_cell HP.out 0
  go_simp
  (go_at_call 38;(with_reducible refine (HN8.out _ HR.out).mono ?_);rintro e V ⟨rfl,hw,hg⟩;go_wp2_with fail)
  clear c0
  have HPd := Lib.hid (lies_grown HP.out hg HPR.out)
  have HRd := Lib.hid hw
  have HFd := Lib.hid (Fr.of_grown (b := p) HF.out hg)
  have RBd := Lib.hid (lies_grown RB.out hg (by omega))
  have VBd := Lib.hid (lies_grown VB.out hg (by omega))
  clear HP HR HF RB VB hg hw
  have HP := HPd
  have HR := HRd
  have HF := HFd
  have RB := RBd
  have VB := VBd
  clear HPd HRd HFd RBd VBd
  refine hK.out _ _ ?_ (fun hHeld => ?_)
  · exact lies_cell HP.out 0
  clear hK K
  try simp only [Act.put,yA,yB,yC]
  refine rY 21 [] ?_ (by kernel_rfl)
  refine rC rfl (fun K hK => ?_) AllReadyH.nil
  have ff := lies_frozen VB.out 5
  have qq := lies_cell VB.out 5
  go_simp
  clear ff qq
  have HPd : Hid ((V.setCell ⟨vb,5,none⟩ (.int .i64 y5)).heap[p]? = _) := (heap_set_ne (by omega)).trans HP.out
  have HRd : Hid (RS 82 (V.setCell ⟨vb,5,none⟩ (.int .i64 y5)) r _) := RS.keep HR.out (heap_set_ne (by omega))
  have HFd : Hid (Fr _ r p _ (V.setCell ⟨vb,5,none⟩ (.int .i64 y5))) := Fr.setN HF.out (by omega)
  have VBd : Hid ((V.setCell ⟨vb,5,none⟩ (.int .i64 y5)).heap[vb]? = some (.cells #[.int .i64 y1,.int .i64 y2,.int .i64 y3,.int .i64 q0,.bool bq,.int .i64 y5,.int .i64 q2,.int .i64 0,.int .i64 0,.int .i64 0,.int .i64 0] 62)) := lies_set VB.out 5 _
  have RBd : Hid ((V.setCell ⟨vb,5,none⟩ (.int .i64 y5)).heap[_]? = _) := (heap_set_ne (by omega)).trans RB.out
  clear HP HR HF VB RB
  have HP := HPd
  have HR := HRd
  have HF := HFd
  have VB := VBd
  have RB := RBd
  clear HPd HRd HFd VBd RBd
  generalize V.setCell ⟨vb,5,none⟩ (.int .i64 y5) = Ue0 at HP HR HF VB RB ⊢
  refine hK.out _ _ ?_ (fun hHeld => ?_)
  · exact lies_cell HP.out 0
  clear hK K
  try simp only [Act.put,yA,yB,yC]
  refine tK 22 ?_ rfl (by kernel_rfl) rfl (by intro w;go_simp<;>with_reducible rfl) (fun _ _ _ h=>h) hHeld
  try simp only [Act.put,yA,yB,yC]
  refine rY 23 [] ?_ (by kernel_rfl)
  refine rC rfl (fun K hK => ?_) AllReadyH.nil
  have ff := lies_frozen VB.out 7
  have qq := lies_cell VB.out 7
  go_simp
  clear ff qq
  have HPd : Hid ((Ue0.setCell ⟨vb,7,none⟩ (.int .i64 y7)).heap[p]? = _) := (heap_set_ne (by omega)).trans HP.out
  have HRd : Hid (RS 82 (Ue0.setCell ⟨vb,7,none⟩ (.int .i64 y7)) r _) := RS.keep HR.out (heap_set_ne (by omega))
  have HFd : Hid (Fr _ r p _ (Ue0.setCell ⟨vb,7,none⟩ (.int .i64 y7))) := Fr.setN HF.out (by omega)
  have VBd : Hid ((Ue0.setCell ⟨vb,7,none⟩ (.int .i64 y7)).heap[vb]? = some (.cells #[.int .i64 y1,.int .i64 y2,.int .i64 y3,.int .i64 q0,.bool bq,.int .i64 y5,.int .i64 q2,.int .i64 y7,.int .i64 0,.int .i64 0,.int .i64 0] 62)) := lies_set VB.out 7 _
  have RBd : Hid ((Ue0.setCell ⟨vb,7,none⟩ (.int .i64 y7)).heap[_]? = _) := (heap_set_ne (by omega)).trans RB.out
  clear HP HR HF VB RB
  have HP := HPd
  have HR := HRd
  have HF := HFd
  have VB := VBd
  have RB := RBd
  clear HPd HRd HFd VBd RBd
  generalize Ue0.setCell ⟨vb,7,none⟩ (.int .i64 y7) = Ue1 at HP HR HF VB RB ⊢
  refine hK.out _ _ ?_ (fun hHeld => ?_)
  · exact lies_cell HP.out 0
  clear hK K
  try simp only [Act.put,yA,yB,yC]
  refine tK 24 ?_ rfl (by kernel_rfl) rfl (by intro w;go_simp<;>with_reducible rfl) (fun _ _ _ h=>h) hHeld
  try simp only [Act.put,yA,yB,yC]
  refine rY 25 [] ?_ (by kernel_rfl)
  refine rC rfl (fun K hK => ?_) AllReadyH.nil
  have ff := lies_frozen VB.out 8
  have qq := lies_cell VB.out 8
  go_simp
  clear ff qq
  have HPd : Hid ((Ue1.setCell ⟨vb,8,none⟩ (.int .i64 y8)).heap[p]? = _) := (heap_set_ne (by omega)).trans HP.out
  have HRd : Hid (RS 82 (Ue1.setCell ⟨vb,8,none⟩ (.int .i64 y8)) r _) := RS.keep HR.out (heap_set_ne (by omega))
  have HFd : Hid (Fr _ r p _ (Ue1.setCell ⟨vb,8,none⟩ (.int .i64 y8))) := Fr.setN HF.out (by omega)
  have VBd : Hid ((Ue1.setCell ⟨vb,8,none⟩ (.int .i64 y8)).heap[vb]? = some (.cells #[.int .i64 y1,.int .i64 y2,.int .i64 y3,.int .i64 q0,.bool bq,.int .i64 y5,.int .i64 q2,.int .i64 y7,.int .i64 y8,.int .i64 0,.int .i64 0] 62)) := lies_set VB.out 8 _
  have RBd : Hid ((Ue1.setCell ⟨vb,8,none⟩ (.int .i64 y8)).heap[_]? = _) := (heap_set_ne (by omega)).trans RB.out
  clear HP HR HF VB RB
  have HP := HPd
  have HR := HRd
  have HF := HFd
  have VB := VBd
  have RB := RBd
  clear HPd HRd HFd VBd RBd
  generalize Ue1.setCell ⟨vb,8,none⟩ (.int .i64 y8) = Ue2 at HP HR HF VB RB ⊢
  refine hK.out _ _ ?_ (fun hHeld => ?_)
  · exact lies_cell HP.out 0
  clear hK K
  try simp only [Act.put,yA,yB,yC]
  refine tK 26 ?_ rfl (by kernel_rfl) rfl (by intro w;go_simp<;>with_reducible rfl) (fun _ _ _ h=>h) hHeld
  try simp only [Act.put,yA,yB,yC]
  refine rY 27 [] ?_ (by kernel_rfl)
  refine rC rfl (fun K hK => ?_) AllReadyH.nil
  have ff := lies_frozen VB.out 9
  have qq := lies_cell VB.out 9
  go_simp
  clear ff qq
  have HPd : Hid ((Ue2.setCell ⟨vb,9,none⟩ (.int .i64 y9)).heap[p]? = _) := (heap_set_ne (by omega)).trans HP.out
  have HRd : Hid (RS 82 (Ue2.setCell ⟨vb,9,none⟩ (.int .i64 y9)) r _) := RS.keep HR.out (heap_set_ne (by omega))
  have HFd : Hid (Fr _ r p _ (Ue2.setCell ⟨vb,9,none⟩ (.int .i64 y9))) := Fr.setN HF.out (by omega)
  have VBd : Hid ((Ue2.setCell ⟨vb,9,none⟩ (.int .i64 y9)).heap[vb]? = some (.cells #[.int .i64 y1,.int .i64 y2,.int .i64 y3,.int .i64 q0,.bool bq,.int .i64 y5,.int .i64 q2,.int .i64 y7,.int .i64 y8,.int .i64 y9,.int .i64 0] 62)) := lies_set VB.out 9 _
  have RBd : Hid ((Ue2.setCell ⟨vb,9,none⟩ (.int .i64 y9)).heap[_]? = _) := (heap_set_ne (by omega)).trans RB.out
  clear HP HR HF VB RB
  have HP := HPd
  have HR := HRd
  have HF := HFd
  have VB := VBd
  have RB := RBd
  clear HPd HRd HFd VBd RBd
  generalize Ue2.setCell ⟨vb,9,none⟩ (.int .i64 y9) = Ue3 at HP HR HF VB RB ⊢
  refine hK.out _ _ ?_ (fun hHeld => ?_)
  · exact lies_cell HP.out 0
  clear hK K
  try simp only [Act.put,yA,yB,yC]
  refine wpAnyH_done (by kernel_rfl) ?_ _
  clear hHeld
  go_upto_region 6 with (first
    | (go_at_call 89;(with_reducible refine (HFR.out _ (ps_mk HP.out HR.out)).mono ?_);rintro e U ⟨rfl,hs,hf⟩
       (have hlB : B ≤ Ue3.heap.size := by (have h1 := HF.out.size);(have h2 := HHB.out);omega)
       (have HP2 := Lib.hid hs.1)
       (have HR2 := Lib.hid hs.2)
       (have HF2 := Lib.hid (HF.out.trans (hf.mono hlB)))
       (have RB2 := Lib.hid ((hf.block rv (lies_lt RB.out) (by omega) (by omega) (lies_lt RB.out)).trans RB.out))
       (have VB2 := Lib.hid ((hf.block vb (lies_lt VB.out) (by omega) (by omega) (lies_lt VB.out)).trans VB.out))
       (have ff := lies_frozen VB2.out 10)
       (have qq := lies_cell VB2.out 10)
       (clear HP HR HF RB VB hs hf)))
  clear ff qq
  have HP : Hid ((U.setCell ⟨vb,10,none⟩ (.int .i64 fr)).heap[p]? = _) := (heap_set_ne (by omega)).trans HP2.out
  have HR : Hid (RS 82 (U.setCell ⟨vb,10,none⟩ (.int .i64 fr)) r _) := RS.keep HR2.out (heap_set_ne (by omega))
  have HF : Hid (Fr _ r p _ (U.setCell ⟨vb,10,none⟩ (.int .i64 fr))) := Fr.setN HF2.out (by omega)
  have RB : Hid ((U.setCell ⟨vb,10,none⟩ (.int .i64 fr)).heap[rv]? = _) := (heap_set_ne (by omega)).trans RB2.out
  have VB : Hid ((U.setCell ⟨vb,10,none⟩ (.int .i64 fr)).heap[vb]? = some (.cells #[.int .i64 y1,.int .i64 y2,.int .i64 y3,.int .i64 q0,.bool bq,.int .i64 y5,.int .i64 q2,.int .i64 y7,.int .i64 y8,.int .i64 y9,.int .i64 fr] 62)) := lies_set VB2.out 10 _
  clear HP2 HR2 HF2 RB2 VB2 hlB
  generalize U.setCell ⟨vb,10,none⟩ (.int .i64 fr) = Ug at HP HR HF RB VB ⊢
  obtain ⟨g0,g1,g2,g3,g4,g5,g6,g7,g8,g9,g10⟩ := cells_11 VB.out
  have f0 := lies_frozen RB.out 0
  have f1 := lies_frozen RB.out 1
  have f2 := lies_frozen RB.out 2
  have f3 := lies_frozen RB.out 3
  have f4 := lies_frozen RB.out 4
  have f5 := lies_frozen RB.out 5
  have f6 := lies_frozen RB.out 6
  have f7 := lies_frozen RB.out 7
  have f8 := lies_frozen RB.out 8
  have f9 := lies_frozen RB.out 9
  have f10 := lies_frozen RB.out 10
  obtain ⟨r0,r1,r2,r3,r4,r5,r6,r7,r8,r9,r10⟩ := cells_11 RB.out
  go_wp2
  (try simp only [Exit.inBlock,Exit.then])
  obtain ⟨k0,k1,k2,k3,k4,k5,k6,k7,k8,k9,k10,_⟩ := read_11 (y0 := .int .i64 y1) (y1 := .int .i64 y2) (y2 := .int .i64 y3) (y3 := .int .i64 q0) (y4 := .bool bq) (y5 := .int .i64 y5) (y6 := .int .i64 q2) (y7 := .int .i64 y7) (y8 := .int .i64 y8) (y9 := .int .i64 y9) (y10 := .int .i64 fr) RB.out
  refine bodyPost_ret (by simp [results,Tryz.results49,go_sem,k0,k1,k2,k3,k4,k5,k6,k7,k8,k9,k10];try rfl) rfl ?_
  rw [HHB.out]
  exact ⟨rfl,⟨(far_11 (by omega)).trans HP.out,RS.keep HR.out (far_11 (by omega))⟩,frs_11 HF.out (by omega)⟩
end Go.Proofs.YtdgkanamceeheaaGreat.Im
