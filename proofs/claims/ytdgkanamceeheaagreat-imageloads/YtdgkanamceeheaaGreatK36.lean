/- The program's reader: a link. -/
import Derived.Test.YtdgkanamceeheaaGreatK35
import Derived.Test.YtdgkanamceeheaaGreatK0
set_option linter.unusedVariables false
set_option maxRecDepth 100000
set_option linter.unusedVariables false
namespace Go.Proofs.YtdgkanamceeheaaGreat.Im
open Go.RowKit
open PitotImg (St rd)
theorem Fr.set1 {base a b i : Nat} {u : Value} {w : World} : Fr base a b w (w.setCell ⟨b,i,none⟩ u) := Fr.set Fr.refl
theorem ints3 {w : World} {k : Nat} {a b c : Int} {T : TypeId} (h : w.heap[k]? = some (.cells #[.int .i64 a,.int .i64 b,.int .i64 c] T)) : Bi.IntsAt w (some ⟨k,0,none⟩) [a,b,c] := fun _ => ⟨k,0,rfl,lies_lt h,fun i hi => by
  match i,hi with
  | 0,_ => exact lies_cell h 0
  | 1,_ => exact lies_cell h 1
  | 2,_ => exact lies_cell h 2⟩
theorem byte_link {b : Int} {σ σ' : St} (h : rd 1 σ = (b,σ')) : Bi.unpack [4,1,3] 8 b.toNat = [b / 16,b / 8 % 2,b % 8] := by
  have h1 := rd_ge h
  have h2 : b < 256 := h1.2
  obtain ⟨n,rfl⟩ := Int.eq_ofNat_of_zero_le h1.1
  show [(((n : Int).toNat / 2 ^ 4 % 2 ^ 4 : Nat) : Int),(((n : Int).toNat / 2 ^ 3 % 2 ^ 1 : Nat) : Int),(((n : Int).toNat / 2 ^ 0 % 2 ^ 3 : Nat) : Int)] = _
  rw [Int.toNat_natCast]
  simp only [Nat.reducePow,List.cons.injEq,and_true]
  omega
theorem byte_port {b : Int} {σ σ' : St} (h : rd 1 σ = (b,σ')) : Bi.unpack [2,1,5] 8 b.toNat = [b / 64,b / 32 % 2,b % 32] := by
  have h1 := rd_ge h
  have h2 : b < 256 := h1.2
  obtain ⟨n,rfl⟩ := Int.eq_ofNat_of_zero_le h1.1
  show [(((n : Int).toNat / 2 ^ 6 % 2 ^ 2 : Nat) : Int),(((n : Int).toNat / 2 ^ 5 % 2 ^ 1 : Nat) : Int),(((n : Int).toNat / 2 ^ 0 % 2 ^ 5 : Nat) : Int)] = _
  rw [Int.toNat_natCast]
  simp only [Nat.reducePow,List.cons.injEq,and_true]
  omega
def VRes (B : Nat) (y1 y2 yb y4 y5 : Int) (tos : List Int) (e : Ending) (w' : World) : Prop := ∃ TA cap,e = .returned (.agg #[.int .i64 y1,.int .i64 y2,.int .i64 (yb / 16),.int .i64 y4,.bool (decide (yb / 8 % 2 = 1)),.int .i64 (yb % 8),.int .i64 y5,.slice TA tos.length cap]) ∧ IntsIn B w'.heap.size w' TA tos
set_option maxHeartbeats 8000000 in
theorem rvl_any (p r nu : Nat) (y1 y2 yb y4 y5 : Int) (tos : List Int) (σ σ1 σ2 σ3 σ4 σ5 σ6 σ7 : St) (w : World) (h : PS w p r 0 σ) (hpr : p ≠ r) (h1 : rd 2 σ = (y1,σ1)) (h2 : rd 2 σ1 = (y2,σ2)) (h3 : rd 1 σ2 = (yb,σ3)) (h4 : rd 2 σ3 = (y4,σ4)) (h5 : rd 4 σ4 = (y5,σ5)) (h6 : rd 2 σ5 = ((nu : Int),σ6)) (h7 : PitotImg.manyS (rd 2) nu σ6 = (tos,σ7)) :
    Calls Tryz.prog 46 #[.pointer (some ⟨p,0,none⟩)] w fun e w' => VRes w.heap.size y1 y2 yb y4 y5 tos e w' ∧ PS w' p r 0 σ7 ∧ Fr w.heap.size r p w w' := by
  have HN1 := Lib.hid (pU16_of (r := r) h1)
  have HN2 := Lib.hid (pU16_of (r := r) h2)
  have HN4 := Lib.hid (pU16_of (r := r) h4)
  have HN5 := Lib.hid (pU32_of (r := r) h5)
  have HEb := Lib.hid h3
  have HL : Hid (∀ w,PS w p r 0 σ5 → Calls Tryz.prog 39 #[.pointer (some ⟨p,0,none⟩),.func (.func 38) #[.pointer (some ⟨r,0,none⟩)] #[]] w fun e w' => Lst IntsIn w.heap.size (fun xs => xs = tos) e w' ∧ PS w' p r 0 σ7 ∧ Fr w.heap.size r p w w') := fun w hs => rlistI p r nu σ5 σ6 σ7 tos w hs hpr h6 h7
  have HWD := Lib.hid linkWide_any
  obtain ⟨q0,hq0⟩ : ∃ q,yb / 16 = q := ⟨_,rfl⟩
  obtain ⟨q1,hq1⟩ : ∃ q,yb / 8 % 2 = q := ⟨_,rfl⟩
  obtain ⟨q2,hq2⟩ : ∃ q,yb % 8 = q := ⟨_,rfl⟩
  have hqq := byte_link h3
  rw [hq0,hq1,hq2] at hqq
  have HQQ := Lib.hid hqq
  obtain ⟨bq,hbq⟩ : ∃ b,decide (q1 = 1) = b := ⟨_,rfl⟩
  have hbq' : (q1 == 1) = bq := hbq
  have HRES : Hid (∀ B TA cap (w' : World),IntsIn B w'.heap.size w' TA tos → VRes B y1 y2 yb y4 y5 tos (.returned (.agg #[.int .i64 y1,.int .i64 y2,.int .i64 q0,.int .i64 y4,.bool bq,.int .i64 q2,.int .i64 y5,.slice TA tos.length cap])) w') := fun B TA cap w' hin => ⟨TA,cap,by rw [hq0,hq1,hq2,hbq],hin⟩
  clear h1 h2 h3 h4 h5 h6 h7 hq0 hq1 hq2 hqq
  have HPR := Lib.hid hpr
  have HP : Hid ((w.alloc (.cells #[.int .i64 0,.int .i64 0,.int .i64 0,.int .i64 0,.bool false,.int .i64 0,.int .i64 0,.slice none 0 0] 60)).heap[p]? = some (.cells #[.pointer (some ⟨r,0,none⟩),.int .i64 0] 50)) := lies_alloc h.1 _
  have HR : Hid (RS 82 (w.alloc (.cells #[.int .i64 0,.int .i64 0,.int .i64 0,.int .i64 0,.bool false,.int .i64 0,.int .i64 0,.slice none 0 0] 60)) r σ) := RS.al h.2 _
  have HF : Hid (Fr w.heap.size r p w (w.alloc (.cells #[.int .i64 0,.int .i64 0,.int .i64 0,.int .i64 0,.bool false,.int .i64 0,.int .i64 0,.slice none 0 0] 60))) := Fr.al Fr.refl _
  have RB : Hid ((w.alloc (.cells #[.int .i64 0,.int .i64 0,.int .i64 0,.int .i64 0,.bool false,.int .i64 0,.int .i64 0,.slice none 0 0] 60)).heap[w.heap.size]? = some (.cells #[.int .i64 0,.int .i64 0,.int .i64 0,.int .i64 0,.bool false,.int .i64 0,.int .i64 0,.slice none 0 0] 60)) := heap_alloc_new w _
  have hpw := lies_lt h.1
  have hrw := h.2.lt
  have HB0 : Hid (w.heap.size ≤ w.heap.size) := Nat.le_refl _
  have hzv := zero_vl
  clear h hpr
  go_enter Tryz.func46,Tryz.ntmps46
  go_upto_region 1 with (fail)
  obtain ⟨W1,hW1⟩ : ∃ W,w.alloc (.cells #[.int .i64 0,.int .i64 0,.int .i64 0,.int .i64 0,.bool false,.int .i64 0,.int .i64 0,.slice none 0 0] 60) = W := ⟨_,rfl⟩
  rw [hW1] at HP HR HF RB ⊢
  clear hW1 hzv
  obtain ⟨rv,hrv⟩ : ∃ n,w.heap.size = n := ⟨_,rfl⟩
  obtain ⟨B,hB⟩ : ∃ n,w.heap.size = n := ⟨_,rfl⟩
  rw [hB] at HF hpw hrw HB0
  have hBrv : B = rv := hB.symm.trans hrv
  rw [hrv] at RB ⊢
  have HHB := Lib.hid hB
  clear hB hrv
  have hBr : B ≤ rv := by omega
  have HB1 : Hid (B ≤ w.heap.size) := by show _ ≤ _;have := HHB.out;omega
  clear hBrv
  refine vl1 HN1 HN2 HPR HP HR HF HB1 RB (by omega) (by omega) (by omega) (fun _ _ _ _ _ h => h) ?_
  clear HP HR HF RB HB0 HN1 HN2
  intro wc vb hp0 hr0 hf0 hrb0 hvb0 hBv hrvv z0 z1 z2 z3 z4 z5 z6 z7 z8 z9 z10
  have HP := Lib.hid hp0
  have HR := Lib.hid hr0
  have HF := Lib.hid hf0
  have RB := Lib.hid hrb0
  have VB := Lib.hid hvb0
  clear hp0 hr0 hf0 hrb0 hvb0
  have HY : Hid (∀ (k ca : Nat) (w : World),PS w p r 0 σ2 → w.heap[k]? = some (.cells #[.int .i64 4,.int .i64 1,.int .i64 3] 3) → k ≠ r → Calls Tryz.prog 86 #[.pointer (some ⟨p,0,none⟩),.slice (some ⟨k,0,none⟩) 3 ca] w fun e w' => e = .returned (.agg #[.int .i64 q0,.int .i64 q1,.int .i64 q2]) ∧ PS w' p r 0 σ3 ∧ Fr w.heap.size r p w w') := fun k ca w h1 h2 h3 => byte_any p r ca k [4,1,3] q0 q1 q2 yb σ2 σ3 w h1 HPR.out (ints3 h2) h3 rfl rfl HEb.out HQQ.out rfl
  have hza := zero_a3
  go_upto_region 3 with (first
    | (go_at_call 87;(with_reducible refine (HWD.out _).mono ?_);rintro e V1 ⟨⟨k,rfl,hk1,hk2⟩,hb1⟩
       (have HP1 := Lib.hid (lies_below HP.out hb1 (lies_lt HP.out)))
       (have HR1 := Lib.hid (RS.keep HR.out (hb1.block r HR.out.lt)))
       (have HF1 := Lib.hid (HF.out.trans ((Fr.ofB (a := r) (b := p) hb1).mono (by (have h1 := HF.out.size);(have h2 := HHB.out);omega))))
       (have RB1 := Lib.hid (lies_below RB.out hb1 (lies_lt RB.out)))
       (have VB1 := Lib.hid (lies_below VB.out hb1 (lies_lt VB.out)))
       (have HK1 := Lib.hid hk2)
       (have hkr : k ≠ r := by (have h1 := HR.out.lt);omega)
       (have hkb : vb < k := by (have h1 := lies_lt VB.out);omega)
       (clear HP HR HF RB VB hk2 hb1))
    | (go_at_call 86;(with_reducible refine (HY.out _ _ _ (ps_mk HP1.out HR1.out) HK1.out hkr).mono ?_);rintro e V2 ⟨rfl,hs2,hf2⟩
       (have HP := Lib.hid hs2.1)
       (have HR := Lib.hid hs2.2)
       (have HF := Lib.hid (HF1.out.trans (hf2.mono (by (have h1 := HF1.out.size);(have h2 := HHB.out);omega))))
       (have RB := Lib.hid ((hf2.block rv (lies_lt RB1.out) (by omega) (by omega) (lies_lt RB1.out)).trans RB1.out))
       (have VB := Lib.hid ((hf2.block vb (lies_lt VB1.out) (by omega) (by omega) (lies_lt VB1.out)).trans VB1.out))
       (clear hs2 hf2 HP1 HR1 HF1 RB1 VB1 HK1)))
  have hvab : vb < V2.heap.size := lies_lt VB.out
  have HPd := Lib.hid (lies_alloc (o := .cells #[.int .i64 q0,.int .i64 q1,.int .i64 q2] 133) HP.out)
  have HRd := Lib.hid (RS.al HR.out (.cells #[.int .i64 q0,.int .i64 q1,.int .i64 q2] 133))
  have HFd := Lib.hid (Fr.al HF.out (.cells #[.int .i64 q0,.int .i64 q1,.int .i64 q2] 133))
  have RBd := Lib.hid (lies_alloc (o := .cells #[.int .i64 q0,.int .i64 q1,.int .i64 q2] 133) RB.out)
  have VBd := Lib.hid (lies_alloc (o := .cells #[.int .i64 q0,.int .i64 q1,.int .i64 q2] 133) VB.out)
  have AB : Hid ((V2.alloc (.cells #[.int .i64 q0,.int .i64 q1,.int .i64 q2] 133)).heap[V2.heap.size]? = some (.cells #[.int .i64 q0,.int .i64 q1,.int .i64 q2] 133)) := heap_alloc_new V2 _
  clear HP HR HF RB VB hza HY HWD HEb
  have HP := HPd
  have HR := HRd
  have HF := HFd
  have RB := RBd
  have VB := VBd
  clear HPd HRd HFd RBd VBd
  obtain ⟨W3,hW3⟩ : ∃ W,V2.alloc (.cells #[.int .i64 q0,.int .i64 q1,.int .i64 q2] 133) = W := ⟨_,rfl⟩
  rw [hW3] at HP HR HF RB VB AB ⊢
  clear hW3
  obtain ⟨ab,hab⟩ : ∃ n,V2.heap.size = n := ⟨_,rfl⟩
  rw [hab] at AB hvab ⊢
  clear hab
  have AB2 := AB
  have HPd : Hid ((World.drew W3).heap[p]? = _) := HP.out
  have HRd : Hid (RS 82 (World.drew W3) r _) := HR.out
  have HFd := Lib.hid (HF.out.trans Fr.dr)
  have RBd : Hid ((World.drew W3).heap[_]? = _) := RB.out
  have VBd : Hid ((World.drew W3).heap[_]? = _) := VB.out
  have AB2d : Hid ((World.drew W3).heap[_]? = _) := AB2.out
  clear HP HR HF RB VB AB2
  have HP := HPd
  have HR := HRd
  have HF := HFd
  have RB := RBd
  have VB := VBd
  have AB2 := AB2d
  clear HPd HRd HFd RBd VBd AB2d
  refine wp_region_held_drew (S := (fun w' => w'.heap[ab]? = W3.heap[ab]?)) (by kernel_rfl) ?_ (fun hHeld => ?_)
  · exact rfl
  obtain ⟨Wd0,hWd⟩ : ∃ X,World.drew W3 = X := ⟨_,rfl⟩
  have hWd1 : (World.drew W3) = Wd0 := hWd
  rw [hWd] at HP HR HF RB VB AB2 hHeld ⊢
  clear hWd hWd1
  refine tK 0 ?_ rfl (by kernel_rfl) rfl (by intro w;go_simp<;>with_reducible rfl) (fun _ _ _ h=>h) hHeld
  try simp only [Act.put,yA,yB,yC]
  refine tX 1 ?_ rfl (by kernel_rfl) rfl (by intro w hSw;(try dsimp only at hSw);have a0 := lies_cell (hSw.trans AB.out) 0;clear hSw;go_simp<;>with_reducible rfl) (fun _ _ _ h=>h) hHeld
  try simp only [Act.put,yA,yB,yC]
  refine tK 2 ?_ rfl (by kernel_rfl) rfl (by intro w;go_simp<;>with_reducible rfl) (fun _ _ _ h=>h) hHeld
  try simp only [Act.put,yA,yB,yC]
  refine tX 3 ?_ rfl (by kernel_rfl) rfl (by intro w hSw;(try dsimp only at hSw);have a1 := lies_cell (hSw.trans AB.out) 1;clear hSw;go_simp<;>with_reducible rfl) (fun _ _ _ h=>h) hHeld
  try simp only [Act.put,yA,yB,yC]
  refine tK 4 ?_ rfl (by kernel_rfl) rfl (by intro w;go_simp<;>with_reducible rfl) (fun _ _ _ h=>h) hHeld
  try simp only [Act.put,yA,yB,yC]
  refine tK 5 ?_ rfl (by kernel_rfl) rfl (by intro w;go_simp<;>with_reducible rfl) (fun _ _ _ h=>h) hHeld
  try simp only [Act.put,yA,yB,yC]
  refine tX 6 ?_ rfl (by kernel_rfl) rfl (by intro w hSw;(try dsimp only at hSw);have a2 := lies_cell (hSw.trans AB.out) 2;clear hSw;go_simp<;>with_reducible rfl) (fun _ _ _ h=>h) hHeld
  try simp only [Act.put,yA,yB,yC]
  refine tK 7 ?_ rfl (by kernel_rfl) rfl (by intro w;go_simp<;>with_reducible rfl) (fun _ _ _ h=>h) hHeld
  try simp only [Act.put,yA,yB,yC]
  refine rY 8 [] ?_ (by kernel_rfl)
  refine rC rfl (fun K hK => ?_) AllReadyH.nil
  have ff := lies_frozen VB.out 2
  have qq := lies_cell VB.out 2
  go_simp
  clear ff qq
  have HPd : Hid ((Wd0.setCell ⟨vb,2,none⟩ (.int .i64 q0)).heap[p]? = _) := (heap_set_ne (by omega)).trans HP.out
  have HRd : Hid (RS 82 (Wd0.setCell ⟨vb,2,none⟩ (.int .i64 q0)) r _) := RS.keep HR.out (heap_set_ne (by omega))
  have HFd : Hid (Fr _ r p _ (Wd0.setCell ⟨vb,2,none⟩ (.int .i64 q0))) := Fr.setN HF.out (by omega)
  have VBd : Hid ((Wd0.setCell ⟨vb,2,none⟩ (.int .i64 q0)).heap[vb]? = some (.cells #[.int .i64 y1,.int .i64 y2,.int .i64 q0,.int .i64 0,.bool false,.int .i64 0,.int .i64 0,.slice none 0 0] 60)) := lies_set VB.out 2 _
  have RBd : Hid ((Wd0.setCell ⟨vb,2,none⟩ (.int .i64 q0)).heap[_]? = _) := (heap_set_ne (by omega)).trans RB.out
  have AB2d : Hid ((Wd0.setCell ⟨vb,2,none⟩ (.int .i64 q0)).heap[_]? = _) := (heap_set_ne (by omega)).trans AB2.out
  clear HP HR HF VB RB AB2
  have HP := HPd
  have HR := HRd
  have HF := HFd
  have VB := VBd
  have RB := RBd
  have AB2 := AB2d
  clear HPd HRd HFd VBd RBd AB2d
  generalize Wd0.setCell ⟨vb,2,none⟩ (.int .i64 q0) = Wd1 at HP HR HF VB RB AB2 ⊢
  refine hK.out _ _ ?_ (fun hHeld => ?_)
  · exact AB2.out.trans AB.out.symm
  clear hK K
  try simp only [Act.put,yA,yB,yC]
  refine tK 9 ?_ rfl (by kernel_rfl) rfl (by intro w;go_simp<;>with_reducible rfl) (fun _ _ _ h=>h) hHeld
  try simp only [Act.put,yA,yB,yC]
  refine rY 10 [] ?_ (by kernel_rfl)
  refine rC rfl (fun K hK => ?_) AllReadyH.nil
  have ff := lies_frozen VB.out 4
  have qq := lies_cell VB.out 4
  go_simp
  clear ff qq
  have HPd : Hid ((Wd1.setCell ⟨vb,4,none⟩ (.bool bq)).heap[p]? = _) := (heap_set_ne (by omega)).trans HP.out
  have HRd : Hid (RS 82 (Wd1.setCell ⟨vb,4,none⟩ (.bool bq)) r _) := RS.keep HR.out (heap_set_ne (by omega))
  have HFd : Hid (Fr _ r p _ (Wd1.setCell ⟨vb,4,none⟩ (.bool bq))) := Fr.setN HF.out (by omega)
  have VBd : Hid ((Wd1.setCell ⟨vb,4,none⟩ (.bool bq)).heap[vb]? = some (.cells #[.int .i64 y1,.int .i64 y2,.int .i64 q0,.int .i64 0,.bool bq,.int .i64 0,.int .i64 0,.slice none 0 0] 60)) := lies_set VB.out 4 _
  have RBd : Hid ((Wd1.setCell ⟨vb,4,none⟩ (.bool bq)).heap[_]? = _) := (heap_set_ne (by omega)).trans RB.out
  have AB2d : Hid ((Wd1.setCell ⟨vb,4,none⟩ (.bool bq)).heap[_]? = _) := (heap_set_ne (by omega)).trans AB2.out
  clear HP HR HF VB RB AB2
  have HP := HPd
  have HR := HRd
  have HF := HFd
  have VB := VBd
  have RB := RBd
  have AB2 := AB2d
  clear HPd HRd HFd VBd RBd AB2d
  generalize Wd1.setCell ⟨vb,4,none⟩ (.bool bq) = Wd2 at HP HR HF VB RB AB2 ⊢
  refine hK.out _ _ ?_ (fun hHeld => ?_)
  · exact AB2.out.trans AB.out.symm
  clear hK K
  try simp only [Act.put,yA,yB,yC]
  refine tK 11 ?_ rfl (by kernel_rfl) rfl (by intro w;go_simp<;>with_reducible rfl) (fun _ _ _ h=>h) hHeld
  try simp only [Act.put,yA,yB,yC]
  refine rY 12 [] ?_ (by kernel_rfl)
  refine rC rfl (fun K hK => ?_) AllReadyH.nil
  have ff := lies_frozen VB.out 5
  have qq := lies_cell VB.out 5
  go_simp
  clear ff qq
  have HPd : Hid ((Wd2.setCell ⟨vb,5,none⟩ (.int .i64 q2)).heap[p]? = _) := (heap_set_ne (by omega)).trans HP.out
  have HRd : Hid (RS 82 (Wd2.setCell ⟨vb,5,none⟩ (.int .i64 q2)) r _) := RS.keep HR.out (heap_set_ne (by omega))
  have HFd : Hid (Fr _ r p _ (Wd2.setCell ⟨vb,5,none⟩ (.int .i64 q2))) := Fr.setN HF.out (by omega)
  have VBd : Hid ((Wd2.setCell ⟨vb,5,none⟩ (.int .i64 q2)).heap[vb]? = some (.cells #[.int .i64 y1,.int .i64 y2,.int .i64 q0,.int .i64 0,.bool bq,.int .i64 q2,.int .i64 0,.slice none 0 0] 60)) := lies_set VB.out 5 _
  have RBd : Hid ((Wd2.setCell ⟨vb,5,none⟩ (.int .i64 q2)).heap[_]? = _) := (heap_set_ne (by omega)).trans RB.out
  have AB2d : Hid ((Wd2.setCell ⟨vb,5,none⟩ (.int .i64 q2)).heap[_]? = _) := (heap_set_ne (by omega)).trans AB2.out
  clear HP HR HF VB RB AB2
  have HP := HPd
  have HR := HRd
  have HF := HFd
  have VB := VBd
  have RB := RBd
  have AB2 := AB2d
  clear HPd HRd HFd VBd RBd AB2d
  generalize Wd2.setCell ⟨vb,5,none⟩ (.int .i64 q2) = Wd3 at HP HR HF VB RB AB2 ⊢
  refine hK.out _ _ ?_ (fun hHeld => ?_)
  · exact AB2.out.trans AB.out.symm
  clear hK K
  try simp only [Act.put,yA,yB,yC]
  refine wpAnyH_done (by kernel_rfl) ?_ _
  clear hHeld
  clear AB AB2 hbq hbq'
  go_upto_region 4 with (fail)
  have HPd : Hid ((World.drew Wd3).heap[p]? = _) := HP.out
  have HRd : Hid (RS 82 (World.drew Wd3) r _) := HR.out
  have HFd := Lib.hid (HF.out.trans Fr.dr)
  have RBd : Hid ((World.drew Wd3).heap[_]? = _) := RB.out
  have VBd : Hid ((World.drew Wd3).heap[_]? = _) := VB.out
  clear HP HR HF RB VB
  have HP := HPd
  have HR := HRd
  have HF := HFd
  have RB := RBd
  have VB := VBd
  clear HPd HRd HFd RBd VBd
  refine wp_region_held_drew (S := (fun w' => w'.cell? ⟨p,0,none⟩ = some (.pointer (some ⟨r,0,none⟩)))) (by kernel_rfl) ?_ (fun hHeld => ?_)
  · exact lies_cell HP.out 0
  obtain ⟨We0,hWd⟩ : ∃ X,World.drew Wd3 = X := ⟨_,rfl⟩
  have hWd1 : (World.drew Wd3) = We0 := hWd
  rw [hWd] at HP HR HF RB VB hHeld ⊢
  clear hWd hWd1
  refine tK 0 ?_ rfl (by kernel_rfl) rfl (by intro w;go_simp<;>with_reducible rfl) (fun _ _ _ h=>h) hHeld
  try simp only [Act.put,yA,yB,yC]
  refine tK 1 ?_ rfl (by kernel_rfl) rfl (by intro w;go_simp<;>with_reducible rfl) (fun _ _ _ h=>h) hHeld
  try simp only [Act.put,yA,yB,yC]
  refine tK 2 ?_ rfl (by kernel_rfl) rfl (by intro w;go_simp<;>with_reducible rfl) (fun _ _ _ h=>h) hHeld
  try simp only [Act.put,yA,yB,yC]
  refine tX 3 ?_ rfl (by kernel_rfl) rfl (by intro w hSw;(try dsimp only at hSw);have c0 := hSw;clear hSw;go_simp<;>with_reducible rfl) (fun _ _ _ h=>h) hHeld
  try simp only [Act.put,yA,yB,yC]
  refine tK 5 ?_ rfl (by kernel_rfl) rfl (by intro w;go_simp<;>with_reducible rfl) (fun _ _ _ h=>h) hHeld
  try simp only [Act.put,yA,yB,yC]
  refine tK 6 ?_ rfl (by kernel_rfl) rfl (by intro w;go_simp<;>with_reducible rfl) (fun _ _ _ h=>h) hHeld
  try simp only [Act.put,yA,yB,yC]
  refine tK 7 ?_ rfl (by kernel_rfl) rfl (by intro w;go_simp<;>with_reducible rfl) (fun _ _ _ h=>h) hHeld
  try simp only [Act.put,yA,yB,yC]
  refine tX 8 ?_ rfl (by kernel_rfl) rfl (by intro w hSw;(try dsimp only at hSw);have c0 := hSw;clear hSw;go_simp<;>with_reducible rfl) (fun _ _ _ h=>h) hHeld
  try simp only [Act.put,yA,yB,yC]
  refine tK 10 ?_ rfl (by kernel_rfl) rfl (by intro w;go_simp<;>with_reducible rfl) (fun _ _ _ h=>h) hHeld
  try simp only [Act.put,yA,yB,yC]
  refine tK 11 ?_ rfl (by kernel_rfl) rfl (by intro w;go_simp<;>with_reducible rfl) (fun _ _ _ h=>h) hHeld
  try simp only [Act.put,yA,yB,yC]
  refine tK 12 ?_ rfl (by kernel_rfl) rfl (by intro w;go_simp<;>with_reducible rfl) (fun _ _ _ h=>h) hHeld
  try simp only [Act.put,yA,yB,yC]
  refine tK 13 ?_ rfl (by kernel_rfl) rfl (by intro w;go_simp<;>with_reducible rfl) (fun _ _ _ h=>h) hHeld
  try simp only [Act.put,yA,yB,yC]
  refine tX 14 ?_ rfl (by kernel_rfl) rfl (by intro w hSw;(try dsimp only at hSw);have c0 := hSw;clear hSw;go_simp<;>with_reducible rfl) (fun _ _ _ h=>h) hHeld
  try simp only [Act.put,yA,yB,yC]
  refine tK 15 ?_ rfl (by kernel_rfl) rfl (by intro w;go_simp<;>with_reducible rfl) (fun _ _ _ h=>h) hHeld
  try simp only [Act.put,yA,yB,yC]
  refine rY 4 [] ?_ (by kernel_rfl)
  refine rC rfl (fun K hK => ?_) AllReadyH.nil
  have c0 := lies_cell HP.out 0
  go_simp
  (go_at_call 38;(with_reducible refine (HN4.out _ HR.out).mono ?_);rintro e V ⟨rfl,hw,hg⟩;go_wp2_with fail)
  clear c0
  have HPd := Lib.hid (lies_grown HP.out hg HPR.out)
  have HRd := Lib.hid hw
  have HFd := Lib.hid (Fr.of_grown (b := p) HF.out hg)
  have RBd := Lib.hid (lies_grown RB.out hg (by omega))
  have VBd := Lib.hid (lies_grown VB.out hg (by omega))
  clear HP HR HF RB VB hg hw
  have HP := HPd
  have HR := HRd
  have HF := HFd
  have RB := RBd
  have VB := VBd
  clear HPd HRd HFd RBd VBd
  refine hK.out _ _ ?_ (fun hHeld => ?_)
  · exact lies_cell HP.out 0
  clear hK K
  try simp only [Act.put,yA,yB,yC]
  refine tK 17 ?_ rfl (by kernel_rfl) rfl (by intro w;go_simp<;>with_reducible rfl) (fun _ _ _ h=>h) hHeld
  try simp only [Act.put,yA,yB,yC]
  refine rY 9 [] ?_ (by kernel_rfl)
  refine rC rfl (fun K hK => ?_) AllReadyH.nil
  have c0 := lies_cell HP.out 0
  go_simp
  (go_at_call 40;(with_reducible refine (HN5.out _ HR.out).mono ?_);rintro e V ⟨rfl,hw,hg⟩;go_wp2_with fail)
  clear c0
  have HPd := Lib.hid (lies_grown HP.out hg HPR.out)
  have HRd := Lib.hid hw
  have HFd := Lib.hid (Fr.of_grown (b := p) HF.out hg)
  have RBd := Lib.hid (lies_grown RB.out hg (by omega))
  have VBd := Lib.hid (lies_grown VB.out hg (by omega))
  clear HP HR HF RB VB hg hw
  have HP := HPd
  have HR := HRd
  have HF := HFd
  have RB := RBd
  have VB := VBd
  clear HPd HRd HFd RBd VBd
  refine hK.out _ _ ?_ (fun hHeld => ?_)
  · exact lies_cell HP.out 0
  clear hK K
  try simp only [Act.put,yA,yB,yC]
  refine rY 16 [] ?_ (by kernel_rfl)
  refine rC rfl (fun K hK => ?_) AllReadyH.nil
  have c0 := lies_cell HP.out 0
  go_simp
  (go_at_call 39;(with_reducible refine (HL.out _ (ps_mk HP.out HR.out)).mono ?_);rintro e U ⟨⟨TA,tcap,xs,hxs,rfl,hin⟩,hs,hf⟩;go_wp2_with fail)
  clear c0
  have hxs : xs = tos := hxs
  rw [hxs] at hin
  (try rw [hxs])
  clear hxs
  have hlv : vb < V.heap.size := lies_lt VB.out
  have hlB : B ≤ V.heap.size := by (have h1 := HF.out.size);(have h2 := HHB.out);omega
  have HPd := Lib.hid hs.1
  have HRd := Lib.hid hs.2
  have HFd := Lib.hid (HF.out.trans (hf.mono hlB))
  have RBd := Lib.hid ((hf.block rv (lies_lt RB.out) (by omega) (by omega) (lies_lt RB.out)).trans RB.out)
  have VBd := Lib.hid ((hf.block vb (lies_lt VB.out) (by omega) (by omega) (lies_lt VB.out)).trans VB.out)
  have HIN := Lib.hid hin
  clear HP HR HF RB VB hs hf hin
  have HP := HPd
  have HR := HRd
  have HF := HFd
  have RB := RBd
  have VB := VBd
  clear HPd HRd HFd RBd VBd
  obtain ⟨lo,hlo⟩ : ∃ n,V.heap.size = n := ⟨_,rfl⟩
  rw [hlo] at HIN hlv hlB
  clear hlo
  obtain ⟨hi,hhi⟩ : ∃ n,U.heap.size = n := ⟨_,rfl⟩
  rw [hhi] at HIN
  have HHI : Hid (hi ≤ U.heap.size) := by show _ ≤ _;omega
  have HHI : Hid (hi ≤ U.heap.size) := by show _ ≤ _;omega
  clear hhi
  refine hK.out _ _ ?_ (fun hHeld => ?_)
  · exact lies_cell HP.out 0
  clear hK K
  try simp only [Act.put,yA,yB,yC]
  refine rY 18 [] ?_ (by kernel_rfl)
  refine rC rfl (fun K hK => ?_) AllReadyH.nil
  have ff := lies_frozen VB.out 3
  have qq := lies_cell VB.out 3
  go_simp
  clear ff qq
  have HPd : Hid ((U.setCell ⟨vb,3,none⟩ (.int .i64 y4)).heap[p]? = _) := (heap_set_ne (by omega)).trans HP.out
  have HRd : Hid (RS 82 (U.setCell ⟨vb,3,none⟩ (.int .i64 y4)) r _) := RS.keep HR.out (heap_set_ne (by omega))
  have HFd : Hid (Fr _ r p _ (U.setCell ⟨vb,3,none⟩ (.int .i64 y4))) := Fr.setN HF.out (by omega)
  have VBd : Hid ((U.setCell ⟨vb,3,none⟩ (.int .i64 y4)).heap[vb]? = some (.cells #[.int .i64 y1,.int .i64 y2,.int .i64 q0,.int .i64 y4,.bool bq,.int .i64 q2,.int .i64 0,.slice none 0 0] 60)) := lies_set VB.out 3 _
  have RBd : Hid ((U.setCell ⟨vb,3,none⟩ (.int .i64 y4)).heap[_]? = _) := (heap_set_ne (by omega)).trans RB.out
  have HHId : Hid (hi ≤ (U.setCell ⟨vb,3,none⟩ (.int .i64 y4)).heap.size) := by (have h1 := HHI.out);show _ ≤ _;simpa [World.setCell] using h1
  have HINd : Hid (IntsIn _ _ (U.setCell ⟨vb,3,none⟩ (.int .i64 y4)) _ _) := HIN.out.fr (a := r) (c := vb) (Fr.set1 (base := hi)) (Nat.le_refl _) (by omega) (by omega)
  clear HP HR HF VB RB HIN HHI
  have HP := HPd
  have HR := HRd
  have HF := HFd
  have VB := VBd
  have RB := RBd
  have HIN := HINd
  have HHI := HHId
  clear HPd HRd HFd VBd RBd HINd HHId
  generalize U.setCell ⟨vb,3,none⟩ (.int .i64 y4) = Ue0 at HP HR HF VB RB HIN HHI ⊢
  refine hK.out _ _ ?_ (fun hHeld => ?_)
  · exact lies_cell HP.out 0
  clear hK K
  try simp only [Act.put,yA,yB,yC]
  refine tK 19 ?_ rfl (by kernel_rfl) rfl (by intro w;go_simp<;>with_reducible rfl) (fun _ _ _ h=>h) hHeld
  try simp only [Act.put,yA,yB,yC]
  refine rY 20 [] ?_ (by kernel_rfl)
  refine rC rfl (fun K hK => ?_) AllReadyH.nil
  have ff := lies_frozen VB.out 6
  have qq := lies_cell VB.out 6
  go_simp
  clear ff qq
  have HPd : Hid ((Ue0.setCell ⟨vb,6,none⟩ (.int .i64 y5)).heap[p]? = _) := (heap_set_ne (by omega)).trans HP.out
  have HRd : Hid (RS 82 (Ue0.setCell ⟨vb,6,none⟩ (.int .i64 y5)) r _) := RS.keep HR.out (heap_set_ne (by omega))
  have HFd : Hid (Fr _ r p _ (Ue0.setCell ⟨vb,6,none⟩ (.int .i64 y5))) := Fr.setN HF.out (by omega)
  have VBd : Hid ((Ue0.setCell ⟨vb,6,none⟩ (.int .i64 y5)).heap[vb]? = some (.cells #[.int .i64 y1,.int .i64 y2,.int .i64 q0,.int .i64 y4,.bool bq,.int .i64 q2,.int .i64 y5,.slice none 0 0] 60)) := lies_set VB.out 6 _
  have RBd : Hid ((Ue0.setCell ⟨vb,6,none⟩ (.int .i64 y5)).heap[_]? = _) := (heap_set_ne (by omega)).trans RB.out
  have HHId : Hid (hi ≤ (Ue0.setCell ⟨vb,6,none⟩ (.int .i64 y5)).heap.size) := by (have h1 := HHI.out);show _ ≤ _;simpa [World.setCell] using h1
  have HINd : Hid (IntsIn _ _ (Ue0.setCell ⟨vb,6,none⟩ (.int .i64 y5)) _ _) := HIN.out.fr (a := r) (c := vb) (Fr.set1 (base := hi)) (Nat.le_refl _) (by omega) (by omega)
  clear HP HR HF VB RB HIN HHI
  have HP := HPd
  have HR := HRd
  have HF := HFd
  have VB := VBd
  have RB := RBd
  have HIN := HINd
  have HHI := HHId
  clear HPd HRd HFd VBd RBd HINd HHId
  generalize Ue0.setCell ⟨vb,6,none⟩ (.int .i64 y5) = Ue1 at HP HR HF VB RB HIN HHI ⊢
  refine hK.out _ _ ?_ (fun hHeld => ?_)
  · exact lies_cell HP.out 0
  clear hK K
  try simp only [Act.put,yA,yB,yC]
  refine tK 21 ?_ rfl (by kernel_rfl) rfl (by intro w;go_simp<;>with_reducible rfl) (fun _ _ _ h=>h) hHeld
  try simp only [Act.put,yA,yB,yC]
  refine rY 22 [] ?_ (by kernel_rfl)
  refine rC rfl (fun K hK => ?_) AllReadyH.nil
  have ff := lies_frozen VB.out 7
  have qq := lies_cell VB.out 7
  go_simp
  clear ff qq
  have HPd : Hid ((Ue1.setCell ⟨vb,7,none⟩ (.slice TA tos.length tcap)).heap[p]? = _) := (heap_set_ne (by omega)).trans HP.out
  have HRd : Hid (RS 82 (Ue1.setCell ⟨vb,7,none⟩ (.slice TA tos.length tcap)) r _) := RS.keep HR.out (heap_set_ne (by omega))
  have HFd : Hid (Fr _ r p _ (Ue1.setCell ⟨vb,7,none⟩ (.slice TA tos.length tcap))) := Fr.setN HF.out (by omega)
  have VBd : Hid ((Ue1.setCell ⟨vb,7,none⟩ (.slice TA tos.length tcap)).heap[vb]? = some (.cells #[.int .i64 y1,.int .i64 y2,.int .i64 q0,.int .i64 y4,.bool bq,.int .i64 q2,.int .i64 y5,.slice TA tos.length tcap] 60)) := lies_set VB.out 7 _
  have RBd : Hid ((Ue1.setCell ⟨vb,7,none⟩ (.slice TA tos.length tcap)).heap[_]? = _) := (heap_set_ne (by omega)).trans RB.out
  have HHId : Hid (hi ≤ (Ue1.setCell ⟨vb,7,none⟩ (.slice TA tos.length tcap)).heap.size) := by (have h1 := HHI.out);show _ ≤ _;simpa [World.setCell] using h1
  have HINd : Hid (IntsIn _ _ (Ue1.setCell ⟨vb,7,none⟩ (.slice TA tos.length tcap)) _ _) := HIN.out.fr (a := r) (c := vb) (Fr.set1 (base := hi)) (Nat.le_refl _) (by omega) (by omega)
  clear HP HR HF VB RB HIN HHI
  have HP := HPd
  have HR := HRd
  have HF := HFd
  have VB := VBd
  have RB := RBd
  have HIN := HINd
  have HHI := HHId
  clear HPd HRd HFd VBd RBd HINd HHId
  generalize Ue1.setCell ⟨vb,7,none⟩ (.slice TA tos.length tcap) = Ue2 at HP HR HF VB RB HIN HHI ⊢
  refine hK.out _ _ ?_ (fun hHeld => ?_)
  · exact lies_cell HP.out 0
  clear hK K
  try simp only [Act.put,yA,yB,yC]
  refine wpAnyH_done (by kernel_rfl) ?_ _
  clear hHeld
  have hsz8 : hi ≤ Ue2.heap.size := by have := HHI.out;exact this
  obtain ⟨g0,g1,g2,g3,g4,g5,g6,g7⟩ := cells_8 VB.out
  have f0 := lies_frozen RB.out 0
  have f1 := lies_frozen RB.out 1
  have f2 := lies_frozen RB.out 2
  have f3 := lies_frozen RB.out 3
  have f4 := lies_frozen RB.out 4
  have f5 := lies_frozen RB.out 5
  have f6 := lies_frozen RB.out 6
  have f7 := lies_frozen RB.out 7
  obtain ⟨r0,r1,r2,r3,r4,r5,r6,r7⟩ := cells_8 RB.out
  go_wp2
  (try simp only [Exit.inBlock,Exit.then])
  obtain ⟨k0,k1,k2,k3,k4,k5,k6,k7,_⟩ := read_8 (y0 := .int .i64 y1) (y1 := .int .i64 y2) (y2 := .int .i64 q0) (y3 := .int .i64 y4) (y4 := .bool bq) (y5 := .int .i64 q2) (y6 := .int .i64 y5) (y7 := .slice TA tos.length tcap) RB.out
  refine bodyPost_ret (by simp [results,Tryz.results46,go_sem,k0,k1,k2,k3,k4,k5,k6,k7];try rfl) rfl ?_
  rw [HHB.out]
  refine ⟨?_,⟨(far_8 (by omega)).trans HP.out,RS.keep HR.out (far_8 (by omega))⟩,frs_8 HF.out (by omega)⟩
  have F8 : Fr hi r rv Ue2 ((((((((Ue2.setCell ⟨rv,0,none⟩ (.int .i64 y1)).setCell ⟨rv,1,none⟩ (.int .i64 y2)).setCell ⟨rv,2,none⟩ (.int .i64 q0)).setCell ⟨rv,3,none⟩ (.int .i64 y4)).setCell ⟨rv,4,none⟩ (.bool bq)).setCell ⟨rv,5,none⟩ (.int .i64 q2)).setCell ⟨rv,6,none⟩ (.int .i64 y5)).setCell ⟨rv,7,none⟩ (.slice TA tos.length tcap)) := Fr.set (Fr.set (Fr.set (Fr.set (Fr.set (Fr.set (Fr.set (Fr.set Fr.refl)))))))
  exact HRES.out B TA tcap _ ((HIN.out.fr F8 (by omega) (by omega) (by omega)).mono (by omega) (Nat.le_trans hsz8 F8.size))
end Go.Proofs.YtdgkanamceeheaaGreat.Im
