/- The program writes a window; numbers of one byte. -/
import Derived.Test.YtdgkanamceeheaaGreatK5
import Derived.Test.YtdgkanamceeheaaGreatK0
import Derived.Deep.RegionHeld3
set_option linter.unusedVariables false
set_option maxRecDepth 100000
set_option linter.unusedVariables false
namespace Go.Proofs.YtdgkanamceeheaaGreat.Im
open Go.RowKit
theorem lies_grown {w w' : World} {g b : Nat} {cs : Array Value} {t : TypeId} (h : w.heap[g]? = some (.cells cs t)) (hg : w.grownBy w' (some b)) (hne : g ≠ b) : w'.heap[g]? = some (.cells cs t) :=
  (hg.block g (lies_lt h) (by simpa using hne)).trans h
theorem linkWide_any (w : World) : Calls Tryz.prog 87 #[] w fun e w' => (∃ k,e = .returned (.slice (some ⟨k,0,none⟩) 3 3) ∧ w.heap.size ≤ k ∧ w'.heap[k]? = some (.cells #[.int .i64 4,.int .i64 1,.int .i64 3] 3)) ∧ Below w.heap.size w w' := by
  have H := Lib.hid (heap_alloc_new w (.cells #[.int .i64 4,.int .i64 1,.int .i64 3] 3))
  go_enter Tryz.func87,Tryz.ntmps87
  go_wp2
  go_returns
  exact ⟨⟨_,rfl,Nat.le_refl _,H.out⟩,(Below.refl _ w).alloc (Nat.le_refl _) _⟩
theorem portWide_any (w : World) : Calls Tryz.prog 88 #[] w fun e w' => (∃ k,e = .returned (.slice (some ⟨k,0,none⟩) 3 3) ∧ w.heap.size ≤ k ∧ w'.heap[k]? = some (.cells #[.int .i64 2,.int .i64 1,.int .i64 5] 3)) ∧ Below w.heap.size w w' := by
  have H := Lib.hid (heap_alloc_new w (.cells #[.int .i64 2,.int .i64 1,.int .i64 5] 3))
  go_enter Tryz.func88,Tryz.ntmps88
  go_wp2
  go_returns
  exact ⟨⟨_,rfl,Nat.le_refl _,H.out⟩,(Below.refl _ w).alloc (Nat.le_refl _) _⟩
def bitOf (h : Bool) : Int := if h = true then 1 else 0
theorem bit_any (h : Bool) (w : World) : Calls Tryz.prog 97 #[.bool h] w fun e w' => e = .returned (.int .i64 (bitOf h)) ∧ w = w' := by
  cases h
  · go_enter Tryz.func97,Tryz.ntmps97
    go_wp2
    go_returns
    exact ⟨rfl,rfl⟩
  · go_enter Tryz.func97,Tryz.ntmps97
    go_wp2
    go_returns
    exact ⟨rfl,rfl⟩
theorem ints_three {w : World} {x y z : Int} {k : Nat} {t : TypeId} (hk : w.heap[k]? = some (.cells #[.int .i64 x,.int .i64 y,.int .i64 z] t)) : Bi.IntsAt w (some ⟨k,0,none⟩) [x,y,z] := by
  intro _
  refine ⟨k,0,rfl,lies_lt hk,fun i hi => ?_⟩
  have hi : i < 3 := by simpa using hi
  match i,hi with
  | 0,_ => exact lies_cell hk 0
  | 1,_ => exact lies_cell hk 1
  | 2,_ => exact lies_cell hk 2
theorem bits3_any (b n : Nat) (l l2 : List UInt8) (p q : Nat) (x0 x1 x2 y0 y1 y2 : Int) (t1 t2 : TypeId) (w : World) (h : Bi.WrAt w b n (some l)) (hp : w.heap[p]? = some (.cells #[.int .i64 x0,.int .i64 x1,.int .i64 x2] t1)) (hq : w.heap[q]? = some (.cells #[.int .i64 y0,.int .i64 y1,.int .i64 y2] t2)) (hst : Bi.bitsStep (some l) [x0,x1,x2] [y0,y1,y2] = some l2) (hll : l.length ≤ 900000) :
    Calls Tryz.prog 96 #[.pointer (some ⟨b,0,none⟩),.slice (some ⟨p,0,none⟩) 3 3,.slice (some ⟨q,0,none⟩) 3 3] w fun e w' => e = .returned (.tuple #[]) ∧ Bi.WrAt w' b (n + 1) (some l2) ∧ w.grownBy w' (some b) := by
  have h1 := Bi.bits_any b n (some l) (some ⟨p,0,none⟩) (some ⟨q,0,none⟩) 3 3 [x0,x1,x2] [y0,y1,y2] w h (ints_three hp) (ints_three hq) (by simp) (fun l' e => by cases e;exact hll)
  rw [hst] at h1
  exact h1
theorem wr_drew {w : World} {b n : Nat} {st : Option (List UInt8)} (h : Bi.WrAt w b n st) : Bi.WrAt w.drew b n st := h.keep fun _ _ => rfl
theorem grown_drewR {a w : World} {r : Option Nat} (h : a.grownBy w r) : a.grownBy w.drew r := ⟨h.os,h.tape,h.output,h.size,h.block⟩
set_option maxHeartbeats 4000000 in
theorem vl_byte {W : World} {b vb n : Nat} {l : List UInt8} {vid vhost vbag vsmax vsubs vskew : Int} {vhigh : Bool} {tA : Option Addr} {tl tc : Nat} (HW : Hid (Bi.WrAt W b n (some l))) (HV : Hid (W.heap[vb]? = some (.cells #[.int .i64 vid,.int .i64 vhost,.int .i64 vbag,.int .i64 vsmax,.bool vhigh,.int .i64 vsubs,.int .i64 vskew,.slice tA tl tc] 60))) (HNE : Hid (vb ≠ b)) (HBL : Hid (b < W.heap.size)) (HLW : Hid (∀ w,Calls Tryz.prog 87 #[] w fun e w' => (∃ k,e = .returned (.slice (some ⟨k,0,none⟩) 3 3) ∧ w.heap.size ≤ k ∧ w'.heap[k]? = some (.cells #[.int .i64 4,.int .i64 1,.int .i64 3] 3)) ∧ Below w.heap.size w w')) (HBT : Hid (∀ w,Calls Tryz.prog 97 #[.bool vhigh] w fun e w' => e = .returned (.int .i64 (bitOf vhigh)) ∧ w = w')) (HST : Hid (Bi.bitsStep (some l) [4,1,3] [vbag,bitOf vhigh,vsubs] = some (l ++ PitotImg.w 1 (16 * vbag + 8 * bitOf vhigh + vsubs)))) (HLL : Hid (l.length ≤ 900000)) {u1 u2 u4 u5 u6 u7 u8 u9 aa ac ae af ag ah ai aj ak am ao ap aq ar au av aw ax ay aA aB aC aD aE aF aG aH : Value} {Q : Exit → Act → World → Prop} (HPN : ∀ (p : List PanicEntry) (a : Act) (dd : Nat) (vv : Value) (w : World),Q (.panic p) (a.put (some dd) vv) w → Q (.panic p) a w) (hQ : ∀ (wc : World),Bi.WrAt wc b (n + 1) (some (l ++ PitotImg.w 1 (16 * vbag + 8 * bitOf vhigh + vsubs))) → W.grownBy wc (some b) → ∀ x12 x13 x14 x15 x16 x17 x18 x19 x20 x21 x22 : Value,Q .normal ⟨#[.pointer (some ⟨b,0,none⟩),u1,u2,.pointer (some ⟨vb,0,none⟩),u4,u5,u6,u7,u8,u9,aa,ac,x12,x13,x14,x15,x16,x17,x18,x19,x20,x21,x22,ar,au,av,aw,ax,ay,aA,aB,aC,aD,aE,aF,aG,aH],[]⟩ wc) :
    Code.wp Tryz.prog (Code.region 3 #[⟨some 12,.move (.tmp 0),68,"write.go:36",#[],none⟩,⟨some 13,.call ⟨.value (.func 87),#[],#[]⟩,23,"write.go:36",#[],none⟩,⟨some 14,.fieldAddr 60 (.tmp 3) 2,0,"write.go:36",#[],none⟩,⟨some 15,.load 3 (.tmp 14),3,"write.go:36",#[⟨2,.data⟩],none⟩,⟨some 16,.fieldAddr 60 (.tmp 3) 4,0,"write.go:36",#[],none⟩,⟨some 17,.load 4 (.tmp 16),4,"write.go:36",#[⟨4,.data⟩],none⟩,⟨some 18,.call ⟨.value (.func 97),#[.tmp 17],#[4]⟩,3,"write.go:36",#[⟨5,.data⟩,⟨1,.chain⟩],none⟩,⟨some 19,.fieldAddr 60 (.tmp 3) 5,0,"write.go:36",#[],none⟩,⟨some 20,.load 3 (.tmp 19),3,"write.go:36",#[⟨7,.data⟩],none⟩,⟨some 21,.buildSlice 23 3 #[(0,.tmp 15),(1,.tmp 18),(2,.tmp 20)],23,"write.go:36",#[⟨3,.data⟩,⟨6,.data⟩,⟨8,.data⟩],none⟩,⟨some 22,.call ⟨.value (.func 96),#[.tmp 12,.tmp 13,.tmp 21],#[68,23,23]⟩,0,"write.go:36",#[⟨0,.data⟩,⟨1,.data⟩,⟨9,.data⟩,⟨6,.chain⟩],none⟩] true) Q ⟨#[.pointer (some ⟨b,0,none⟩),u1,u2,.pointer (some ⟨vb,0,none⟩),u4,u5,u6,u7,u8,u9,aa,ac,ae,af,ag,ah,ai,aj,ak,am,ao,ap,aq,ar,au,av,aw,ax,ay,aA,aB,aC,aD,aE,aF,aG,aH],[]⟩ W := by
  refine wp_region_held_drew (S := fun w' => W.grownBy w' (some b)) (by kernel_rfl) ?_ (fun hHeld => ?_)
  · exact grown_drewR (World.grownBy.refl W _)
  refine tN 0 ?_ rfl (by kernel_rfl) rfl (by intro w;go_simp<;>with_reducible rfl) HPN hHeld
  try simp only [Act.put,yA,yB,yC]
  refine tN 2 ?_ rfl (by kernel_rfl) rfl (by intro w;go_simp<;>with_reducible rfl) HPN hHeld
  try simp only [Act.put,yA,yB,yC]
  refine tY 3 ?_ rfl (by kernel_rfl) rfl (by intro w hSw;(try dsimp only at hSw);obtain ⟨x0,x1,x2,x3,x4,x5,x6,x7⟩ := cells_8 (lies_grown HV.out hSw HNE.out);clear hSw;go_simp<;>with_reducible rfl) HPN hHeld
  try simp only [Act.put,yA,yB,yC]
  refine tN 4 ?_ rfl (by kernel_rfl) rfl (by intro w;go_simp<;>with_reducible rfl) HPN hHeld
  try simp only [Act.put,yA,yB,yC]
  refine tY 5 ?_ rfl (by kernel_rfl) rfl (by intro w hSw;(try dsimp only at hSw);obtain ⟨x0,x1,x2,x3,x4,x5,x6,x7⟩ := cells_8 (lies_grown HV.out hSw HNE.out);clear hSw;go_simp<;>with_reducible rfl) HPN hHeld
  try simp only [Act.put,yA,yB,yC]
  refine tN 7 ?_ rfl (by kernel_rfl) rfl (by intro w;go_simp<;>with_reducible rfl) HPN hHeld
  try simp only [Act.put,yA,yB,yC]
  refine tY 8 ?_ rfl (by kernel_rfl) rfl (by intro w hSw;(try dsimp only at hSw);obtain ⟨x0,x1,x2,x3,x4,x5,x6,x7⟩ := cells_8 (lies_grown HV.out hSw HNE.out);clear hSw;go_simp<;>with_reducible rfl) HPN hHeld
  try simp only [Act.put,yA,yB,yC]
  refine rY 1 [] ?_ (by kernel_rfl)
  refine rC rfl (fun K hK => ?_) AllReadyH.nil
  go_simp
  (go_at_call 87;(with_reducible refine (HLW.out _).mono ?_);rintro e Va ⟨⟨p,rfl,hp1,hp2⟩,hb⟩;go_wp2_with fail)
  have GA : Hid (W.grownBy Va (some b)) := Bi.grown_trans (grown_drewR (World.grownBy.refl W _)) (Bi.grown_of_below hb)
  have HPP := Lib.hid hp2
  have hpb : b < p := Nat.lt_of_lt_of_le HBL.out hp1
  have HWA : Hid (Bi.WrAt Va b n (some l)) := (wr_drew HW.out).below hb
  clear hp1 hp2 hb
  refine hK.out _ _ ?_ (fun hHeld => ?_)
  · exact GA.out
  clear hK K
  try simp only [Act.put,yA,yB,yC]
  refine rY 6 [] ?_ (by kernel_rfl)
  refine rC rfl (fun K hK => ?_) AllReadyH.nil
  go_simp
  (go_at_call 97;(with_reducible refine (HBT.out _).mono ?_);rintro e Vb ⟨rfl,hb⟩;go_wp2_with fail)
  subst hb
  refine hK.out _ _ ?_ (fun hHeld => ?_)
  · exact GA.out
  clear hK K
  try simp only [Act.put,yA,yB,yC]
  refine rY 9 [] ?_ (by kernel_rfl)
  refine rC rfl (fun K hK => ?_) AllReadyH.nil
  go_simp
  have GB : Hid (W.grownBy (Va.alloc (.cells #[.int .i64 vbag,.int .i64 (bitOf vhigh),.int .i64 vsubs] 3)) (some b)) := Bi.grown_trans GA.out (Bi.grown_alloc _)
  have HQQ : Hid ((Va.alloc (.cells #[.int .i64 vbag,.int .i64 (bitOf vhigh),.int .i64 vsubs] 3)).heap[Va.heap.size]? = some (.cells #[.int .i64 vbag,.int .i64 (bitOf vhigh),.int .i64 vsubs] 3)) := heap_alloc_new Va _
  have HPB : Hid ((Va.alloc (.cells #[.int .i64 vbag,.int .i64 (bitOf vhigh),.int .i64 vsubs] 3)).heap[p]? = some (.cells #[.int .i64 4,.int .i64 1,.int .i64 3] 3)) := lies_alloc HPP.out _
  have HWB : Hid (Bi.WrAt (Va.alloc (.cells #[.int .i64 vbag,.int .i64 (bitOf vhigh),.int .i64 vsubs] 3)) b n (some l)) := HWA.out.below ((Below.refl _ Va).alloc (Nat.le_refl _) _)
  refine hK.out _ _ ?_ (fun hHeld => ?_)
  · exact GB.out
  clear hK K
  try simp only [Act.put,yA,yB,yC]
  refine rY 10 [] ?_ (by kernel_rfl)
  refine rC rfl (fun K hK => ?_) AllReadyH.nil
  go_simp
  (go_at_call 96;(with_reducible refine (bits3_any b n l _ p Va.heap.size _ _ _ _ _ _ _ _ _ HWB.out HPB.out HQQ.out HST.out HLL.out).mono ?_);rintro e Vc ⟨rfl,hw,hg⟩;go_wp2_with fail)
  have GC : Hid (W.grownBy Vc (some b)) := Bi.grown_trans GB.out hg
  clear hg
  refine hK.out _ _ ?_ (fun hHeld => ?_)
  · exact GC.out
  clear hK K
  try simp only [Act.put,yA,yB,yC]
  refine wpAnyH_done (by kernel_rfl) ?_ _
  clear hHeld
  exact hQ _ hw GC.out _ _ _ _ _ _ _ _ _ _ _
set_option maxHeartbeats 4000000 in
theorem prt_byte {W : World} {b vb n : Nat} {l : List UInt8} {qid qhost qpart qkind qvl qsub qudp qsize qdepth qfresh : Int} {qout : Bool} (HW : Hid (Bi.WrAt W b n (some l))) (HV : Hid (W.heap[vb]? = some (.cells #[.int .i64 qid,.int .i64 qhost,.int .i64 qpart,.int .i64 qkind,.bool qout,.int .i64 qvl,.int .i64 qsub,.int .i64 qudp,.int .i64 qsize,.int .i64 qdepth,.int .i64 qfresh] 62))) (HNE : Hid (vb ≠ b)) (HBL : Hid (b < W.heap.size)) (HLW : Hid (∀ w,Calls Tryz.prog 88 #[] w fun e w' => (∃ k,e = .returned (.slice (some ⟨k,0,none⟩) 3 3) ∧ w.heap.size ≤ k ∧ w'.heap[k]? = some (.cells #[.int .i64 2,.int .i64 1,.int .i64 5] 3)) ∧ Below w.heap.size w w')) (HBT : Hid (∀ w,Calls Tryz.prog 97 #[.bool qout] w fun e w' => e = .returned (.int .i64 (bitOf qout)) ∧ w = w')) (HST : Hid (Bi.bitsStep (some l) [2,1,5] [qkind,bitOf qout,qsub] = some (l ++ PitotImg.w 1 (64 * qkind + 32 * bitOf qout + qsub)))) (HLL : Hid (l.length ≤ 900000)) {u1 u2 u4 u5 u6 u7 u8 u9 aa ac ae af ag ah ai aj ak am ao ap aq ar au av aw ax ay aA aB aC aD aE aF aG aH aI aJ aK aL aM aN aO aP aQ aR aS aT aU aV aW aX : Value} {Q : Exit → Act → World → Prop} (HPN : ∀ (p : List PanicEntry) (a : Act) (dd : Nat) (vv : Value) (w : World),Q (.panic p) (a.put (some dd) vv) w → Q (.panic p) a w) (hQ : ∀ (wc : World),Bi.WrAt wc b (n + 1) (some (l ++ PitotImg.w 1 (64 * qkind + 32 * bitOf qout + qsub))) → W.grownBy wc (some b) → ∀ x16 x17 x18 x19 x20 x21 x22 x23 x24 x25 x26 : Value,Q .normal ⟨#[.pointer (some ⟨b,0,none⟩),u1,u2,.pointer (some ⟨vb,0,none⟩),u4,u5,u6,u7,u8,u9,aa,ac,ae,af,ag,ah,x16,x17,x18,x19,x20,x21,x22,x23,x24,x25,x26,ax,ay,aA,aB,aC,aD,aE,aF,aG,aH,aI,aJ,aK,aL,aM,aN,aO,aP,aQ,aR,aS,aT,aU,aV,aW,aX],[]⟩ wc) :
    Code.wp Tryz.prog (Code.region 4 #[⟨some 16,.move (.tmp 0),68,"write.go:46",#[],none⟩,⟨some 17,.call ⟨.value (.func 88),#[],#[]⟩,23,"write.go:46",#[],none⟩,⟨some 18,.fieldAddr 62 (.tmp 3) 3,0,"write.go:46",#[],none⟩,⟨some 19,.load 3 (.tmp 18),3,"write.go:46",#[⟨2,.data⟩],none⟩,⟨some 20,.fieldAddr 62 (.tmp 3) 4,0,"write.go:46",#[],none⟩,⟨some 21,.load 4 (.tmp 20),4,"write.go:46",#[⟨4,.data⟩],none⟩,⟨some 22,.call ⟨.value (.func 97),#[.tmp 21],#[4]⟩,3,"write.go:46",#[⟨5,.data⟩,⟨1,.chain⟩],none⟩,⟨some 23,.fieldAddr 62 (.tmp 3) 6,0,"write.go:46",#[],none⟩,⟨some 24,.load 3 (.tmp 23),3,"write.go:46",#[⟨7,.data⟩],none⟩,⟨some 25,.buildSlice 23 3 #[(0,.tmp 19),(1,.tmp 22),(2,.tmp 24)],23,"write.go:46",#[⟨3,.data⟩,⟨6,.data⟩,⟨8,.data⟩],none⟩,⟨some 26,.call ⟨.value (.func 96),#[.tmp 16,.tmp 17,.tmp 25],#[68,23,23]⟩,0,"write.go:46",#[⟨0,.data⟩,⟨1,.data⟩,⟨9,.data⟩,⟨6,.chain⟩],none⟩] true) Q ⟨#[.pointer (some ⟨b,0,none⟩),u1,u2,.pointer (some ⟨vb,0,none⟩),u4,u5,u6,u7,u8,u9,aa,ac,ae,af,ag,ah,ai,aj,ak,am,ao,ap,aq,ar,au,av,aw,ax,ay,aA,aB,aC,aD,aE,aF,aG,aH,aI,aJ,aK,aL,aM,aN,aO,aP,aQ,aR,aS,aT,aU,aV,aW,aX],[]⟩ W := by
  refine wp_region_held_drew (S := fun w' => W.grownBy w' (some b)) (by kernel_rfl) ?_ (fun hHeld => ?_)
  · exact grown_drewR (World.grownBy.refl W _)
  refine tN 0 ?_ rfl (by kernel_rfl) rfl (by intro w;go_simp<;>with_reducible rfl) HPN hHeld
  try simp only [Act.put,yA,yB,yC]
  refine tN 2 ?_ rfl (by kernel_rfl) rfl (by intro w;go_simp<;>with_reducible rfl) HPN hHeld
  try simp only [Act.put,yA,yB,yC]
  refine tY 3 ?_ rfl (by kernel_rfl) rfl (by intro w hSw;(try dsimp only at hSw);obtain ⟨x0,x1,x2,x3,x4,x5,x6,x7,x8,x9,x10⟩ := cells_11 (lies_grown HV.out hSw HNE.out);clear hSw;go_simp<;>with_reducible rfl) HPN hHeld
  try simp only [Act.put,yA,yB,yC]
  refine tN 4 ?_ rfl (by kernel_rfl) rfl (by intro w;go_simp<;>with_reducible rfl) HPN hHeld
  try simp only [Act.put,yA,yB,yC]
  refine tY 5 ?_ rfl (by kernel_rfl) rfl (by intro w hSw;(try dsimp only at hSw);obtain ⟨x0,x1,x2,x3,x4,x5,x6,x7,x8,x9,x10⟩ := cells_11 (lies_grown HV.out hSw HNE.out);clear hSw;go_simp<;>with_reducible rfl) HPN hHeld
  try simp only [Act.put,yA,yB,yC]
  refine tN 7 ?_ rfl (by kernel_rfl) rfl (by intro w;go_simp<;>with_reducible rfl) HPN hHeld
  try simp only [Act.put,yA,yB,yC]
  refine tY 8 ?_ rfl (by kernel_rfl) rfl (by intro w hSw;(try dsimp only at hSw);obtain ⟨x0,x1,x2,x3,x4,x5,x6,x7,x8,x9,x10⟩ := cells_11 (lies_grown HV.out hSw HNE.out);clear hSw;go_simp<;>with_reducible rfl) HPN hHeld
  try simp only [Act.put,yA,yB,yC]
  refine rY 1 [] ?_ (by kernel_rfl)
  refine rC rfl (fun K hK => ?_) AllReadyH.nil
  go_simp
  (go_at_call 88;(with_reducible refine (HLW.out _).mono ?_);rintro e Va ⟨⟨p,rfl,hp1,hp2⟩,hb⟩;go_wp2_with fail)
  have GA : Hid (W.grownBy Va (some b)) := Bi.grown_trans (grown_drewR (World.grownBy.refl W _)) (Bi.grown_of_below hb)
  have HPP := Lib.hid hp2
  have hpb : b < p := Nat.lt_of_lt_of_le HBL.out hp1
  have HWA : Hid (Bi.WrAt Va b n (some l)) := (wr_drew HW.out).below hb
  clear hp1 hp2 hb
  refine hK.out _ _ ?_ (fun hHeld => ?_)
  · exact GA.out
  clear hK K
  try simp only [Act.put,yA,yB,yC]
  refine rY 6 [] ?_ (by kernel_rfl)
  refine rC rfl (fun K hK => ?_) AllReadyH.nil
  go_simp
  (go_at_call 97;(with_reducible refine (HBT.out _).mono ?_);rintro e Vb ⟨rfl,hb⟩;go_wp2_with fail)
  subst hb
  refine hK.out _ _ ?_ (fun hHeld => ?_)
  · exact GA.out
  clear hK K
  try simp only [Act.put,yA,yB,yC]
  refine rY 9 [] ?_ (by kernel_rfl)
  refine rC rfl (fun K hK => ?_) AllReadyH.nil
  go_simp
  have GB : Hid (W.grownBy (Va.alloc (.cells #[.int .i64 qkind,.int .i64 (bitOf qout),.int .i64 qsub] 3)) (some b)) := Bi.grown_trans GA.out (Bi.grown_alloc _)
  have HQQ : Hid ((Va.alloc (.cells #[.int .i64 qkind,.int .i64 (bitOf qout),.int .i64 qsub] 3)).heap[Va.heap.size]? = some (.cells #[.int .i64 qkind,.int .i64 (bitOf qout),.int .i64 qsub] 3)) := heap_alloc_new Va _
  have HPB : Hid ((Va.alloc (.cells #[.int .i64 qkind,.int .i64 (bitOf qout),.int .i64 qsub] 3)).heap[p]? = some (.cells #[.int .i64 2,.int .i64 1,.int .i64 5] 3)) := lies_alloc HPP.out _
  have HWB : Hid (Bi.WrAt (Va.alloc (.cells #[.int .i64 qkind,.int .i64 (bitOf qout),.int .i64 qsub] 3)) b n (some l)) := HWA.out.below ((Below.refl _ Va).alloc (Nat.le_refl _) _)
  refine hK.out _ _ ?_ (fun hHeld => ?_)
  · exact GB.out
  clear hK K
  try simp only [Act.put,yA,yB,yC]
  refine rY 10 [] ?_ (by kernel_rfl)
  refine rC rfl (fun K hK => ?_) AllReadyH.nil
  go_simp
  (go_at_call 96;(with_reducible refine (bits3_any b n l _ p Va.heap.size _ _ _ _ _ _ _ _ _ HWB.out HPB.out HQQ.out HST.out HLL.out).mono ?_);rintro e Vc ⟨rfl,hw,hg⟩;go_wp2_with fail)
  have GC : Hid (W.grownBy Vc (some b)) := Bi.grown_trans GB.out hg
  clear hg
  refine hK.out _ _ ?_ (fun hHeld => ?_)
  · exact GC.out
  clear hK K
  try simp only [Act.put,yA,yB,yC]
  refine wpAnyH_done (by kernel_rfl) ?_ _
  clear hHeld
  exact hQ _ hw GC.out _ _ _ _ _ _ _ _ _ _ _
end Go.Proofs.YtdgkanamceeheaaGreat.Im
