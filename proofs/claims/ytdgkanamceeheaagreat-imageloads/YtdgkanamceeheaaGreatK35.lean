/- The program's reader: links, ports: the regions that make them. -/
import Derived.Test.YtdgkanamceeheaaGreatK34
import Derived.Test.YtdgkanamceeheaaGreatK0
set_option linter.unusedVariables false
set_option maxRecDepth 100000
set_option linter.unusedVariables false
namespace Go.Proofs.YtdgkanamceeheaaGreat.Im
open Go.RowKit
open PitotImg (St rd)
set_option maxHeartbeats 4000000 in
theorem vl1 {W w0 : World} {B p r rv : Nat} {RO : Array Value} {RT : TypeId} {σ σa σe : St} {y1 y2 : Int} (HN1 : Hid (∀ w,RS 82 w r σ → Calls Tryz.prog 38 #[.pointer (some ⟨r,0,none⟩)] w fun e w' => e = .returned (.int .i64 y1) ∧ RS 82 w' r σa ∧ w.grownBy w' (some r))) (HN2 : Hid (∀ w,RS 82 w r σa → Calls Tryz.prog 38 #[.pointer (some ⟨r,0,none⟩)] w fun e w' => e = .returned (.int .i64 y2) ∧ RS 82 w' r σe ∧ w.grownBy w' (some r))) (HPR : Hid (p ≠ r)) (HP : Hid (W.heap[p]? = some (.cells #[.pointer (some ⟨r,0,none⟩),.int .i64 0] 50))) (HR : Hid (RS 82 W r σ)) (HF : Hid (Fr B r p w0 W)) (HB0 : Hid (B ≤ w0.heap.size)) (RB : Hid (W.heap[rv]? = some (.cells RO RT))) (hrvr : rv ≠ r) (hpB : p < B) (hrB : r < B) {u1 u2 u3 u4 u5 u6 u7 u8 u9 aa ac ae af ag ah ai aj ak am ao ap aq ar au av aw ax ay aA aB aC aD aE aF aG aH aI aJ aK aL aM aN aO aP aQ aR aS aT aU : Value} {Q : Exit → Act → World → Prop} (HPN : ∀ (p : List PanicEntry) (a : Act) (dd : Nat) (vv : Value) (w : World),Q (.panic p) (a.put (some dd) vv) w → Q (.panic p) a w) (hQ : ∀ (wc : World) (vb : Nat),wc.heap[p]? = some (.cells #[.pointer (some ⟨r,0,none⟩),.int .i64 0] 50) → RS 82 wc r σe → Fr B r p w0 wc → wc.heap[rv]? = some (.cells RO RT) → wc.heap[vb]? = some (.cells #[.int .i64 y1,.int .i64 y2,.int .i64 0,.int .i64 0,.bool false,.int .i64 0,.int .i64 0,.slice none 0 0] 60) → B ≤ vb → rv < vb → ∀ x5 x6 x7 x8 x9 x10 x11 x12 x13 x14 x15 : Value,Q .normal ⟨#[(.pointer (some ⟨p,0,none⟩)),u1,u2,(.pointer (some ⟨vb,0,none⟩)),u4,x5,x6,x7,x8,x9,x10,x11,x12,x13,x14,x15,ai,aj,ak,am,ao,ap,aq,ar,au,av,aw,ax,ay,aA,aB,aC,aD,aE,aF,aG,aH,aI,aJ,aK,aL,aM,aN,aO,aP,aQ,aR,aS,aT,aU],[]⟩ wc) :
    Code.wp Tryz.prog (Code.region 1 #[⟨some 5,.move (.tmp 0),46,"read.go:56",#[],none⟩,⟨some 6,.nilCheck (.tmp 5),0,"read.go:56",#[⟨0,.data⟩],none⟩,⟨some 7,.fieldAddr 50 (.tmp 6) 0,0,"read.go:56",#[⟨1,.data⟩],none⟩,⟨some 8,.load 47 (.tmp 7),47,"read.go:56",#[⟨2,.data⟩],none⟩,⟨some 9,.call ⟨.value (.func 38),#[.tmp 8],#[47]⟩,3,"read.go:56",#[⟨3,.data⟩],none⟩,⟨some 10,.move (.tmp 0),46,"read.go:56",#[],none⟩,⟨some 11,.nilCheck (.tmp 10),0,"read.go:56",#[⟨5,.data⟩],none⟩,⟨some 12,.fieldAddr 50 (.tmp 11) 0,0,"read.go:56",#[⟨6,.data⟩],none⟩,⟨some 13,.load 47 (.tmp 12),47,"read.go:56",#[⟨7,.data⟩],none⟩,⟨some 14,.call ⟨.value (.func 38),#[.tmp 13],#[47]⟩,3,"read.go:56",#[⟨8,.data⟩,⟨4,.chain⟩],none⟩,⟨some 15,.build 60 #[(0,.tmp 9),(1,.tmp 14)],60,"read.go:56",#[⟨4,.data⟩,⟨9,.data⟩],none⟩,⟨some 3,.alloc 60,0,"read.go:56",#[],none⟩,⟨none,.store 60 (.tmp 3) (.tmp 15),0,"read.go:56",#[⟨11,.data⟩,⟨10,.data⟩,⟨9,.chain⟩,⟨0,.phase⟩,⟨1,.phase⟩,⟨2,.phase⟩,⟨3,.phase⟩,⟨4,.phase⟩,⟨5,.phase⟩,⟨6,.phase⟩,⟨7,.phase⟩,⟨8,.phase⟩,⟨9,.phase⟩,⟨10,.phase⟩,⟨11,.phase⟩],none⟩] true) Q ⟨#[(.pointer (some ⟨p,0,none⟩)),u1,u2,u3,u4,u5,u6,u7,u8,u9,aa,ac,ae,af,ag,ah,ai,aj,ak,am,ao,ap,aq,ar,au,av,aw,ax,ay,aA,aB,aC,aD,aE,aF,aG,aH,aI,aJ,aK,aL,aM,aN,aO,aP,aQ,aR,aS,aT,aU],[]⟩ W := by
  have HFW := HF
  have HPd : Hid ((World.drew W).heap[p]? = _) := HP.out
  have HRd : Hid (RS 82 (World.drew W) r _) := HR.out
  have HFd := Lib.hid (HF.out.trans Fr.dr)
  have RBd : Hid ((World.drew W).heap[_]? = _) := RB.out
  clear HP HR HF RB
  have HP := HPd
  have HR := HRd
  have HF := HFd
  have RB := RBd
  clear HPd HRd HFd RBd
  refine wp_region_held_drew (S := (fun w' => w'.cell? ⟨p,0,none⟩ = some (.pointer (some ⟨r,0,none⟩)))) (by kernel_rfl) ?_ (fun hHeld => ?_)
  · exact lies_cell HP.out 0
  refine tN 0 ?_ rfl (by kernel_rfl) rfl (by intro w;go_simp<;>with_reducible rfl) HPN hHeld
  try simp only [Act.put,yA,yB,yC]
  refine tN 1 ?_ rfl (by kernel_rfl) rfl (by intro w;go_simp<;>with_reducible rfl) HPN hHeld
  try simp only [Act.put,yA,yB,yC]
  refine tN 2 ?_ rfl (by kernel_rfl) rfl (by intro w;go_simp<;>with_reducible rfl) HPN hHeld
  try simp only [Act.put,yA,yB,yC]
  refine tY 3 ?_ rfl (by kernel_rfl) rfl (by intro w hSw;(try dsimp only at hSw);have c0 := hSw;clear hSw;go_simp<;>with_reducible rfl) HPN hHeld
  try simp only [Act.put,yA,yB,yC]
  refine tN 5 ?_ rfl (by kernel_rfl) rfl (by intro w;go_simp<;>with_reducible rfl) HPN hHeld
  try simp only [Act.put,yA,yB,yC]
  refine tN 6 ?_ rfl (by kernel_rfl) rfl (by intro w;go_simp<;>with_reducible rfl) HPN hHeld
  try simp only [Act.put,yA,yB,yC]
  refine tN 7 ?_ rfl (by kernel_rfl) rfl (by intro w;go_simp<;>with_reducible rfl) HPN hHeld
  try simp only [Act.put,yA,yB,yC]
  refine tY 8 ?_ rfl (by kernel_rfl) rfl (by intro w hSw;(try dsimp only at hSw);have c0 := hSw;clear hSw;go_simp<;>with_reducible rfl) HPN hHeld
  try simp only [Act.put,yA,yB,yC]
  refine rY 4 [11] ?_ (by kernel_rfl)
  refine rC rfl (fun K hK => ?_) (rC rfl (fun K hK => ?_) AllReadyH.nil)
  · have c0 := lies_cell HP.out 0
    go_simp
    (go_at_call 38;(with_reducible refine (HN1.out _ HR.out).mono ?_);rintro e V ⟨rfl,hw,hg⟩;go_wp2_with fail)
    clear c0
    have HPd := Lib.hid (lies_grown HP.out hg HPR.out)
    have HRd := Lib.hid hw
    have HFd := Lib.hid (Fr.of_grown (b := p) HF.out hg)
    have RBd := Lib.hid (lies_grown RB.out hg (by omega))
    clear HP HR HF RB hg hw
    have HP := HPd
    have HR := HRd
    have HF := HFd
    have RB := RBd
    clear HPd HRd HFd RBd
    refine hK.out _ _ ?_ (fun hHeld => ?_)
    · exact lies_cell HP.out 0
    clear hK K
    try simp only [Act.put,yA,yB,yC]
    refine rY 9 [11] ?_ (by kernel_rfl)
    refine rC rfl (fun K hK => ?_) (rC rfl (fun K hK => ?_) AllReadyH.nil)
    · have c0 := lies_cell HP.out 0
      go_simp
      (go_at_call 38;(with_reducible refine (HN2.out _ HR.out).mono ?_);rintro e V ⟨rfl,hw,hg⟩;go_wp2_with fail)
      clear c0
      have HPd := Lib.hid (lies_grown HP.out hg HPR.out)
      have HRd := Lib.hid hw
      have HFd := Lib.hid (Fr.of_grown (b := p) HF.out hg)
      have RBd := Lib.hid (lies_grown RB.out hg (by omega))
      clear HP HR HF RB hg hw
      have HP := HPd
      have HR := HRd
      have HF := HFd
      have RB := RBd
      clear HPd HRd HFd RBd
      refine hK.out _ _ ?_ (fun hHeld => ?_)
      · exact lies_cell HP.out 0
      clear hK K
      try simp only [Act.put,yA,yB,yC]
      refine tY 10 ?_ rfl (by kernel_rfl) rfl (by intro w hSw;(try dsimp only at hSw);have hz := zero_vl;clear hSw;go_simp<;>with_reducible rfl) HPN hHeld
      try simp only [Act.put,yA,yB,yC]
      refine rY 11 [] ?_ (by kernel_rfl)
      refine rC rfl (fun K hK => ?_) AllReadyH.nil
      have hz := zero_vl
      go_simp
      have HPd : Hid ((V.alloc (.cells #[.int .i64 0,.int .i64 0,.int .i64 0,.int .i64 0,.bool false,.int .i64 0,.int .i64 0,.slice none 0 0] 60)).heap[p]? = _) := lies_alloc (w := V) HP.out _
      have HRd : Hid (RS 82 (V.alloc (.cells #[.int .i64 0,.int .i64 0,.int .i64 0,.int .i64 0,.bool false,.int .i64 0,.int .i64 0,.slice none 0 0] 60)) r _) := RS.al (w := V) HR.out _
      have HFd : Hid (Fr B r p w0 (V.alloc (.cells #[.int .i64 0,.int .i64 0,.int .i64 0,.int .i64 0,.bool false,.int .i64 0,.int .i64 0,.slice none 0 0] 60))) := Fr.al HF.out _
      have RBd : Hid ((V.alloc (.cells #[.int .i64 0,.int .i64 0,.int .i64 0,.int .i64 0,.bool false,.int .i64 0,.int .i64 0,.slice none 0 0] 60)).heap[rv]? = _) := lies_alloc (w := V) RB.out _
      have VBd : Hid ((V.alloc (.cells #[.int .i64 0,.int .i64 0,.int .i64 0,.int .i64 0,.bool false,.int .i64 0,.int .i64 0,.slice none 0 0] 60)).heap[V.heap.size]? = some (.cells #[.int .i64 0,.int .i64 0,.int .i64 0,.int .i64 0,.bool false,.int .i64 0,.int .i64 0,.slice none 0 0] 60)) := heap_alloc_new V _
      have hvB : B ≤ V.heap.size := by (have h1 := HF.out.size);(have h2 := HB0.out);omega
      have hvrv : rv < V.heap.size := lies_lt (w := V) RB.out
      clear HP HR HF RB hz
      have HP := HPd
      have HR := HRd
      have HF := HFd
      have RB := RBd
      have VB := VBd
      clear HPd HRd HFd RBd VBd
      obtain ⟨Z,hZ⟩ : ∃ Z,(V.alloc (.cells #[.int .i64 0,.int .i64 0,.int .i64 0,.int .i64 0,.bool false,.int .i64 0,.int .i64 0,.slice none 0 0] 60)) = Z := ⟨_,rfl⟩
      rw [hZ] at HP HR HF RB VB ⊢
      clear hZ
      obtain ⟨vb,hvb⟩ : ∃ b,V.heap.size = b := ⟨_,rfl⟩
      rw [hvb] at VB hvB hvrv ⊢
      clear hvb
      refine hK.out _ _ ?_ (fun hHeld => ?_)
      · exact lies_cell HP.out 0
      clear hK K
      try simp only [Act.put,yA,yB,yC]
      refine rY 12 [] ?_ (by kernel_rfl)
      refine rC rfl (fun K hK => ?_) AllReadyH.nil
      have f0 := lies_frozen VB.out 0
      have f1 := lies_frozen VB.out 1
      have f2 := lies_frozen VB.out 2
      have f3 := lies_frozen VB.out 3
      have f4 := lies_frozen VB.out 4
      have f5 := lies_frozen VB.out 5
      have f6 := lies_frozen VB.out 6
      have f7 := lies_frozen VB.out 7
      obtain ⟨q0,q1,q2,q3,q4,q5,q6,q7⟩ := cells_8 VB.out
      go_simp
      clear f0 f1 f2 f3 f4 f5 f6 f7 q0 q1 q2 q3 q4 q5 q6 q7
      have HPd : Hid ((((((((((Z.setCell ⟨vb,0,none⟩ (.int .i64 y1)).setCell ⟨vb,1,none⟩ (.int .i64 y2)).setCell ⟨vb,2,none⟩ (.int .i64 0)).setCell ⟨vb,3,none⟩ (.int .i64 0)).setCell ⟨vb,4,none⟩ (.bool false)).setCell ⟨vb,5,none⟩ (.int .i64 0)).setCell ⟨vb,6,none⟩ (.int .i64 0)).setCell ⟨vb,7,none⟩ (.slice none 0 0))).heap[p]? = _) := (far_8 (by omega)).trans HP.out
      have HRd : Hid (RS 82 (((((((((Z.setCell ⟨vb,0,none⟩ (.int .i64 y1)).setCell ⟨vb,1,none⟩ (.int .i64 y2)).setCell ⟨vb,2,none⟩ (.int .i64 0)).setCell ⟨vb,3,none⟩ (.int .i64 0)).setCell ⟨vb,4,none⟩ (.bool false)).setCell ⟨vb,5,none⟩ (.int .i64 0)).setCell ⟨vb,6,none⟩ (.int .i64 0)).setCell ⟨vb,7,none⟩ (.slice none 0 0))) r _) := RS.keep HR.out (far_8 (by omega))
      have HFd : Hid (Fr _ r p _ (((((((((Z.setCell ⟨vb,0,none⟩ (.int .i64 y1)).setCell ⟨vb,1,none⟩ (.int .i64 y2)).setCell ⟨vb,2,none⟩ (.int .i64 0)).setCell ⟨vb,3,none⟩ (.int .i64 0)).setCell ⟨vb,4,none⟩ (.bool false)).setCell ⟨vb,5,none⟩ (.int .i64 0)).setCell ⟨vb,6,none⟩ (.int .i64 0)).setCell ⟨vb,7,none⟩ (.slice none 0 0)))) := frs_8 HF.out (by omega)
      have VBd : Hid ((((((((((Z.setCell ⟨vb,0,none⟩ (.int .i64 y1)).setCell ⟨vb,1,none⟩ (.int .i64 y2)).setCell ⟨vb,2,none⟩ (.int .i64 0)).setCell ⟨vb,3,none⟩ (.int .i64 0)).setCell ⟨vb,4,none⟩ (.bool false)).setCell ⟨vb,5,none⟩ (.int .i64 0)).setCell ⟨vb,6,none⟩ (.int .i64 0)).setCell ⟨vb,7,none⟩ (.slice none 0 0))).heap[vb]? = some (.cells #[.int .i64 y1,.int .i64 y2,.int .i64 0,.int .i64 0,.bool false,.int .i64 0,.int .i64 0,.slice none 0 0] 60)) := put_8 VB.out
      have RBd : Hid ((((((((((Z.setCell ⟨vb,0,none⟩ (.int .i64 y1)).setCell ⟨vb,1,none⟩ (.int .i64 y2)).setCell ⟨vb,2,none⟩ (.int .i64 0)).setCell ⟨vb,3,none⟩ (.int .i64 0)).setCell ⟨vb,4,none⟩ (.bool false)).setCell ⟨vb,5,none⟩ (.int .i64 0)).setCell ⟨vb,6,none⟩ (.int .i64 0)).setCell ⟨vb,7,none⟩ (.slice none 0 0))).heap[_]? = _) := (far_8 (by omega)).trans RB.out
      clear HP HR HF VB RB
      have HP := HPd
      have HR := HRd
      have HF := HFd
      have VB := VBd
      have RB := RBd
      clear HPd HRd HFd VBd RBd
      generalize (((((((Z.setCell ⟨vb,0,none⟩ (.int .i64 y1)).setCell ⟨vb,1,none⟩ (.int .i64 y2)).setCell ⟨vb,2,none⟩ (.int .i64 0)).setCell ⟨vb,3,none⟩ (.int .i64 0)).setCell ⟨vb,4,none⟩ (.bool false)).setCell ⟨vb,5,none⟩ (.int .i64 0)).setCell ⟨vb,6,none⟩ (.int .i64 0)).setCell ⟨vb,7,none⟩ (.slice none 0 0) = Zs at HP HR HF VB RB ⊢
      refine hK.out _ _ ?_ (fun hHeld => ?_)
      · exact lies_cell HP.out 0
      clear hK K
      try simp only [Act.put,yA,yB,yC]
      refine wpAnyH_done (by kernel_rfl) ?_ _
      clear hHeld
      exact hQ _ vb HP.out HR.out HF.out RB.out VB.out (by omega) (by omega) _ _ _ _ _ _ _ _ _ _ _
    · have hz := zero_vl
      go_simp
      have HPd : Hid ((V.alloc (.cells #[.int .i64 0,.int .i64 0,.int .i64 0,.int .i64 0,.bool false,.int .i64 0,.int .i64 0,.slice none 0 0] 60)).heap[p]? = _) := lies_alloc (w := V) HP.out _
      have HRd : Hid (RS 82 (V.alloc (.cells #[.int .i64 0,.int .i64 0,.int .i64 0,.int .i64 0,.bool false,.int .i64 0,.int .i64 0,.slice none 0 0] 60)) r _) := RS.al (w := V) HR.out _
      have HFd : Hid (Fr B r p w0 (V.alloc (.cells #[.int .i64 0,.int .i64 0,.int .i64 0,.int .i64 0,.bool false,.int .i64 0,.int .i64 0,.slice none 0 0] 60))) := Fr.al HF.out _
      have RBd : Hid ((V.alloc (.cells #[.int .i64 0,.int .i64 0,.int .i64 0,.int .i64 0,.bool false,.int .i64 0,.int .i64 0,.slice none 0 0] 60)).heap[rv]? = _) := lies_alloc (w := V) RB.out _
      have VBd : Hid ((V.alloc (.cells #[.int .i64 0,.int .i64 0,.int .i64 0,.int .i64 0,.bool false,.int .i64 0,.int .i64 0,.slice none 0 0] 60)).heap[V.heap.size]? = some (.cells #[.int .i64 0,.int .i64 0,.int .i64 0,.int .i64 0,.bool false,.int .i64 0,.int .i64 0,.slice none 0 0] 60)) := heap_alloc_new V _
      have hvB : B ≤ V.heap.size := by (have h1 := HF.out.size);(have h2 := HB0.out);omega
      have hvrv : rv < V.heap.size := lies_lt (w := V) RB.out
      clear HP HR HF RB hz
      have HP := HPd
      have HR := HRd
      have HF := HFd
      have RB := RBd
      have VB := VBd
      clear HPd HRd HFd RBd VBd
      obtain ⟨Z,hZ⟩ : ∃ Z,(V.alloc (.cells #[.int .i64 0,.int .i64 0,.int .i64 0,.int .i64 0,.bool false,.int .i64 0,.int .i64 0,.slice none 0 0] 60)) = Z := ⟨_,rfl⟩
      rw [hZ] at HP HR HF RB VB ⊢
      clear hZ
      obtain ⟨vb,hvb⟩ : ∃ b,V.heap.size = b := ⟨_,rfl⟩
      rw [hvb] at VB hvB hvrv ⊢
      clear hvb
      refine hK.out _ _ ?_ (fun hHeld => ?_)
      · exact lies_cell HP.out 0
      clear hK K
      try simp only [Act.put,yA,yB,yC]
      refine rY 9 [] ?_ (by kernel_rfl)
      refine rC rfl (fun K hK => ?_) AllReadyH.nil
      have c0 := lies_cell HP.out 0
      go_simp
      (go_at_call 38;(with_reducible refine (HN2.out _ HR.out).mono ?_);rintro e V ⟨rfl,hw,hg⟩;go_wp2_with fail)
      clear c0
      have HPd := Lib.hid (lies_grown HP.out hg HPR.out)
      have HRd := Lib.hid hw
      have HFd := Lib.hid (Fr.of_grown (b := p) HF.out hg)
      have RBd := Lib.hid (lies_grown RB.out hg (by omega))
      have VBd := Lib.hid (lies_grown VB.out hg (by omega))
      clear HP HR HF RB VB hg hw
      have HP := HPd
      have HR := HRd
      have HF := HFd
      have RB := RBd
      have VB := VBd
      clear HPd HRd HFd RBd VBd
      refine hK.out _ _ ?_ (fun hHeld => ?_)
      · exact lies_cell HP.out 0
      clear hK K
      try simp only [Act.put,yA,yB,yC]
      refine tY 10 ?_ rfl (by kernel_rfl) rfl (by intro w hSw;(try dsimp only at hSw);have hz := zero_vl;clear hSw;go_simp<;>with_reducible rfl) HPN hHeld
      try simp only [Act.put,yA,yB,yC]
      refine rY 12 [] ?_ (by kernel_rfl)
      refine rC rfl (fun K hK => ?_) AllReadyH.nil
      have f0 := lies_frozen VB.out 0
      have f1 := lies_frozen VB.out 1
      have f2 := lies_frozen VB.out 2
      have f3 := lies_frozen VB.out 3
      have f4 := lies_frozen VB.out 4
      have f5 := lies_frozen VB.out 5
      have f6 := lies_frozen VB.out 6
      have f7 := lies_frozen VB.out 7
      obtain ⟨q0,q1,q2,q3,q4,q5,q6,q7⟩ := cells_8 VB.out
      go_simp
      clear f0 f1 f2 f3 f4 f5 f6 f7 q0 q1 q2 q3 q4 q5 q6 q7
      have HPd : Hid ((((((((((V.setCell ⟨vb,0,none⟩ (.int .i64 y1)).setCell ⟨vb,1,none⟩ (.int .i64 y2)).setCell ⟨vb,2,none⟩ (.int .i64 0)).setCell ⟨vb,3,none⟩ (.int .i64 0)).setCell ⟨vb,4,none⟩ (.bool false)).setCell ⟨vb,5,none⟩ (.int .i64 0)).setCell ⟨vb,6,none⟩ (.int .i64 0)).setCell ⟨vb,7,none⟩ (.slice none 0 0))).heap[p]? = _) := (far_8 (by omega)).trans HP.out
      have HRd : Hid (RS 82 (((((((((V.setCell ⟨vb,0,none⟩ (.int .i64 y1)).setCell ⟨vb,1,none⟩ (.int .i64 y2)).setCell ⟨vb,2,none⟩ (.int .i64 0)).setCell ⟨vb,3,none⟩ (.int .i64 0)).setCell ⟨vb,4,none⟩ (.bool false)).setCell ⟨vb,5,none⟩ (.int .i64 0)).setCell ⟨vb,6,none⟩ (.int .i64 0)).setCell ⟨vb,7,none⟩ (.slice none 0 0))) r _) := RS.keep HR.out (far_8 (by omega))
      have HFd : Hid (Fr _ r p _ (((((((((V.setCell ⟨vb,0,none⟩ (.int .i64 y1)).setCell ⟨vb,1,none⟩ (.int .i64 y2)).setCell ⟨vb,2,none⟩ (.int .i64 0)).setCell ⟨vb,3,none⟩ (.int .i64 0)).setCell ⟨vb,4,none⟩ (.bool false)).setCell ⟨vb,5,none⟩ (.int .i64 0)).setCell ⟨vb,6,none⟩ (.int .i64 0)).setCell ⟨vb,7,none⟩ (.slice none 0 0)))) := frs_8 HF.out (by omega)
      have VBd : Hid ((((((((((V.setCell ⟨vb,0,none⟩ (.int .i64 y1)).setCell ⟨vb,1,none⟩ (.int .i64 y2)).setCell ⟨vb,2,none⟩ (.int .i64 0)).setCell ⟨vb,3,none⟩ (.int .i64 0)).setCell ⟨vb,4,none⟩ (.bool false)).setCell ⟨vb,5,none⟩ (.int .i64 0)).setCell ⟨vb,6,none⟩ (.int .i64 0)).setCell ⟨vb,7,none⟩ (.slice none 0 0))).heap[vb]? = some (.cells #[.int .i64 y1,.int .i64 y2,.int .i64 0,.int .i64 0,.bool false,.int .i64 0,.int .i64 0,.slice none 0 0] 60)) := put_8 VB.out
      have RBd : Hid ((((((((((V.setCell ⟨vb,0,none⟩ (.int .i64 y1)).setCell ⟨vb,1,none⟩ (.int .i64 y2)).setCell ⟨vb,2,none⟩ (.int .i64 0)).setCell ⟨vb,3,none⟩ (.int .i64 0)).setCell ⟨vb,4,none⟩ (.bool false)).setCell ⟨vb,5,none⟩ (.int .i64 0)).setCell ⟨vb,6,none⟩ (.int .i64 0)).setCell ⟨vb,7,none⟩ (.slice none 0 0))).heap[_]? = _) := (far_8 (by omega)).trans RB.out
      clear HP HR HF VB RB
      have HP := HPd
      have HR := HRd
      have HF := HFd
      have VB := VBd
      have RB := RBd
      clear HPd HRd HFd VBd RBd
      generalize (((((((V.setCell ⟨vb,0,none⟩ (.int .i64 y1)).setCell ⟨vb,1,none⟩ (.int .i64 y2)).setCell ⟨vb,2,none⟩ (.int .i64 0)).setCell ⟨vb,3,none⟩ (.int .i64 0)).setCell ⟨vb,4,none⟩ (.bool false)).setCell ⟨vb,5,none⟩ (.int .i64 0)).setCell ⟨vb,6,none⟩ (.int .i64 0)).setCell ⟨vb,7,none⟩ (.slice none 0 0) = Zs at HP HR HF VB RB ⊢
      refine hK.out _ _ ?_ (fun hHeld => ?_)
      · exact lies_cell HP.out 0
      clear hK K
      try simp only [Act.put,yA,yB,yC]
      refine wpAnyH_done (by kernel_rfl) ?_ _
      clear hHeld
      exact hQ _ vb HP.out HR.out HF.out RB.out VB.out (by omega) (by omega) _ _ _ _ _ _ _ _ _ _ _
  · have hz := zero_vl
    go_simp
    have HPd : Hid (((W.alloc (.cells #[.int .i64 0,.int .i64 0,.int .i64 0,.int .i64 0,.bool false,.int .i64 0,.int .i64 0,.slice none 0 0] 60)).drew).heap[p]? = _) := lies_alloc (w := W) HP.out _
    have HRd : Hid (RS 82 ((W.alloc (.cells #[.int .i64 0,.int .i64 0,.int .i64 0,.int .i64 0,.bool false,.int .i64 0,.int .i64 0,.slice none 0 0] 60)).drew) r _) := RS.al (w := W) HR.out _
    have HFd : Hid (Fr B r p w0 ((W.alloc (.cells #[.int .i64 0,.int .i64 0,.int .i64 0,.int .i64 0,.bool false,.int .i64 0,.int .i64 0,.slice none 0 0] 60)).drew)) := (Fr.al HFW.out _).trans Fr.dr
    have RBd : Hid (((W.alloc (.cells #[.int .i64 0,.int .i64 0,.int .i64 0,.int .i64 0,.bool false,.int .i64 0,.int .i64 0,.slice none 0 0] 60)).drew).heap[rv]? = _) := lies_alloc (w := W) RB.out _
    have VBd : Hid (((W.alloc (.cells #[.int .i64 0,.int .i64 0,.int .i64 0,.int .i64 0,.bool false,.int .i64 0,.int .i64 0,.slice none 0 0] 60)).drew).heap[W.heap.size]? = some (.cells #[.int .i64 0,.int .i64 0,.int .i64 0,.int .i64 0,.bool false,.int .i64 0,.int .i64 0,.slice none 0 0] 60)) := heap_alloc_new W _
    have hvB : B ≤ W.heap.size := by (have h1 := HFW.out.size);(have h2 := HB0.out);omega
    have hvrv : rv < W.heap.size := lies_lt (w := W) RB.out
    clear HP HR HF RB hz
    have HP := HPd
    have HR := HRd
    have HF := HFd
    have RB := RBd
    have VB := VBd
    clear HPd HRd HFd RBd VBd
    obtain ⟨Z,hZ⟩ : ∃ Z,((W.alloc (.cells #[.int .i64 0,.int .i64 0,.int .i64 0,.int .i64 0,.bool false,.int .i64 0,.int .i64 0,.slice none 0 0] 60)).drew) = Z := ⟨_,rfl⟩
    rw [hZ] at HP HR HF RB VB ⊢
    clear hZ
    obtain ⟨vb,hvb⟩ : ∃ b,W.heap.size = b := ⟨_,rfl⟩
    rw [hvb] at VB hvB hvrv ⊢
    clear hvb
    refine hK.out _ _ ?_ (fun hHeld => ?_)
    · exact lies_cell HP.out 0
    clear hK K
    try simp only [Act.put,yA,yB,yC]
    refine rY 4 [] ?_ (by kernel_rfl)
    refine rC rfl (fun K hK => ?_) AllReadyH.nil
    have c0 := lies_cell HP.out 0
    go_simp
    (go_at_call 38;(with_reducible refine (HN1.out _ HR.out).mono ?_);rintro e V ⟨rfl,hw,hg⟩;go_wp2_with fail)
    clear c0
    have HPd := Lib.hid (lies_grown HP.out hg HPR.out)
    have HRd := Lib.hid hw
    have HFd := Lib.hid (Fr.of_grown (b := p) HF.out hg)
    have RBd := Lib.hid (lies_grown RB.out hg (by omega))
    have VBd := Lib.hid (lies_grown VB.out hg (by omega))
    clear HP HR HF RB VB hg hw
    have HP := HPd
    have HR := HRd
    have HF := HFd
    have RB := RBd
    have VB := VBd
    clear HPd HRd HFd RBd VBd
    refine hK.out _ _ ?_ (fun hHeld => ?_)
    · exact lies_cell HP.out 0
    clear hK K
    try simp only [Act.put,yA,yB,yC]
    refine rY 9 [] ?_ (by kernel_rfl)
    refine rC rfl (fun K hK => ?_) AllReadyH.nil
    have c0 := lies_cell HP.out 0
    go_simp
    (go_at_call 38;(with_reducible refine (HN2.out _ HR.out).mono ?_);rintro e V ⟨rfl,hw,hg⟩;go_wp2_with fail)
    clear c0
    have HPd := Lib.hid (lies_grown HP.out hg HPR.out)
    have HRd := Lib.hid hw
    have HFd := Lib.hid (Fr.of_grown (b := p) HF.out hg)
    have RBd := Lib.hid (lies_grown RB.out hg (by omega))
    have VBd := Lib.hid (lies_grown VB.out hg (by omega))
    clear HP HR HF RB VB hg hw
    have HP := HPd
    have HR := HRd
    have HF := HFd
    have RB := RBd
    have VB := VBd
    clear HPd HRd HFd RBd VBd
    refine hK.out _ _ ?_ (fun hHeld => ?_)
    · exact lies_cell HP.out 0
    clear hK K
    try simp only [Act.put,yA,yB,yC]
    refine tY 10 ?_ rfl (by kernel_rfl) rfl (by intro w hSw;(try dsimp only at hSw);have hz := zero_vl;clear hSw;go_simp<;>with_reducible rfl) HPN hHeld
    try simp only [Act.put,yA,yB,yC]
    refine rY 12 [] ?_ (by kernel_rfl)
    refine rC rfl (fun K hK => ?_) AllReadyH.nil
    have f0 := lies_frozen VB.out 0
    have f1 := lies_frozen VB.out 1
    have f2 := lies_frozen VB.out 2
    have f3 := lies_frozen VB.out 3
    have f4 := lies_frozen VB.out 4
    have f5 := lies_frozen VB.out 5
    have f6 := lies_frozen VB.out 6
    have f7 := lies_frozen VB.out 7
    obtain ⟨q0,q1,q2,q3,q4,q5,q6,q7⟩ := cells_8 VB.out
    go_simp
    clear f0 f1 f2 f3 f4 f5 f6 f7 q0 q1 q2 q3 q4 q5 q6 q7
    have HPd : Hid ((((((((((V.setCell ⟨vb,0,none⟩ (.int .i64 y1)).setCell ⟨vb,1,none⟩ (.int .i64 y2)).setCell ⟨vb,2,none⟩ (.int .i64 0)).setCell ⟨vb,3,none⟩ (.int .i64 0)).setCell ⟨vb,4,none⟩ (.bool false)).setCell ⟨vb,5,none⟩ (.int .i64 0)).setCell ⟨vb,6,none⟩ (.int .i64 0)).setCell ⟨vb,7,none⟩ (.slice none 0 0))).heap[p]? = _) := (far_8 (by omega)).trans HP.out
    have HRd : Hid (RS 82 (((((((((V.setCell ⟨vb,0,none⟩ (.int .i64 y1)).setCell ⟨vb,1,none⟩ (.int .i64 y2)).setCell ⟨vb,2,none⟩ (.int .i64 0)).setCell ⟨vb,3,none⟩ (.int .i64 0)).setCell ⟨vb,4,none⟩ (.bool false)).setCell ⟨vb,5,none⟩ (.int .i64 0)).setCell ⟨vb,6,none⟩ (.int .i64 0)).setCell ⟨vb,7,none⟩ (.slice none 0 0))) r _) := RS.keep HR.out (far_8 (by omega))
    have HFd : Hid (Fr _ r p _ (((((((((V.setCell ⟨vb,0,none⟩ (.int .i64 y1)).setCell ⟨vb,1,none⟩ (.int .i64 y2)).setCell ⟨vb,2,none⟩ (.int .i64 0)).setCell ⟨vb,3,none⟩ (.int .i64 0)).setCell ⟨vb,4,none⟩ (.bool false)).setCell ⟨vb,5,none⟩ (.int .i64 0)).setCell ⟨vb,6,none⟩ (.int .i64 0)).setCell ⟨vb,7,none⟩ (.slice none 0 0)))) := frs_8 HF.out (by omega)
    have VBd : Hid ((((((((((V.setCell ⟨vb,0,none⟩ (.int .i64 y1)).setCell ⟨vb,1,none⟩ (.int .i64 y2)).setCell ⟨vb,2,none⟩ (.int .i64 0)).setCell ⟨vb,3,none⟩ (.int .i64 0)).setCell ⟨vb,4,none⟩ (.bool false)).setCell ⟨vb,5,none⟩ (.int .i64 0)).setCell ⟨vb,6,none⟩ (.int .i64 0)).setCell ⟨vb,7,none⟩ (.slice none 0 0))).heap[vb]? = some (.cells #[.int .i64 y1,.int .i64 y2,.int .i64 0,.int .i64 0,.bool false,.int .i64 0,.int .i64 0,.slice none 0 0] 60)) := put_8 VB.out
    have RBd : Hid ((((((((((V.setCell ⟨vb,0,none⟩ (.int .i64 y1)).setCell ⟨vb,1,none⟩ (.int .i64 y2)).setCell ⟨vb,2,none⟩ (.int .i64 0)).setCell ⟨vb,3,none⟩ (.int .i64 0)).setCell ⟨vb,4,none⟩ (.bool false)).setCell ⟨vb,5,none⟩ (.int .i64 0)).setCell ⟨vb,6,none⟩ (.int .i64 0)).setCell ⟨vb,7,none⟩ (.slice none 0 0))).heap[_]? = _) := (far_8 (by omega)).trans RB.out
    clear HP HR HF VB RB
    have HP := HPd
    have HR := HRd
    have HF := HFd
    have VB := VBd
    have RB := RBd
    clear HPd HRd HFd VBd RBd
    generalize (((((((V.setCell ⟨vb,0,none⟩ (.int .i64 y1)).setCell ⟨vb,1,none⟩ (.int .i64 y2)).setCell ⟨vb,2,none⟩ (.int .i64 0)).setCell ⟨vb,3,none⟩ (.int .i64 0)).setCell ⟨vb,4,none⟩ (.bool false)).setCell ⟨vb,5,none⟩ (.int .i64 0)).setCell ⟨vb,6,none⟩ (.int .i64 0)).setCell ⟨vb,7,none⟩ (.slice none 0 0) = Zs at HP HR HF VB RB ⊢
    refine hK.out _ _ ?_ (fun hHeld => ?_)
    · exact lies_cell HP.out 0
    clear hK K
    try simp only [Act.put,yA,yB,yC]
    refine wpAnyH_done (by kernel_rfl) ?_ _
    clear hHeld
    exact hQ _ vb HP.out HR.out HF.out RB.out VB.out (by omega) (by omega) _ _ _ _ _ _ _ _ _ _ _
set_option maxHeartbeats 4000000 in
theorem prt1 {W w0 : World} {B p r rv : Nat} {RO : Array Value} {RT : TypeId} {σ σa σb σe : St} {y1 y2 y3 : Int} (HN1 : Hid (∀ w,RS 82 w r σ → Calls Tryz.prog 40 #[.pointer (some ⟨r,0,none⟩)] w fun e w' => e = .returned (.int .i64 y1) ∧ RS 82 w' r σa ∧ w.grownBy w' (some r))) (HN2 : Hid (∀ w,RS 82 w r σa → Calls Tryz.prog 38 #[.pointer (some ⟨r,0,none⟩)] w fun e w' => e = .returned (.int .i64 y2) ∧ RS 82 w' r σb ∧ w.grownBy w' (some r))) (HN3 : Hid (∀ w,RS 82 w r σb → Calls Tryz.prog 38 #[.pointer (some ⟨r,0,none⟩)] w fun e w' => e = .returned (.int .i64 y3) ∧ RS 82 w' r σe ∧ w.grownBy w' (some r))) (HPR : Hid (p ≠ r)) (HP : Hid (W.heap[p]? = some (.cells #[.pointer (some ⟨r,0,none⟩),.int .i64 0] 50))) (HR : Hid (RS 82 W r σ)) (HF : Hid (Fr B r p w0 W)) (HB0 : Hid (B ≤ w0.heap.size)) (RB : Hid (W.heap[rv]? = some (.cells RO RT))) (hrvr : rv ≠ r) (hpB : p < B) (hrB : r < B) {u1 u2 u3 u4 u5 u6 u7 u8 u9 aa ac ae af ag ah ai aj ak am ao ap aq ar au av aw ax ay aA aB aC aD aE aF aG aH aI aJ aK aL aM aN aO aP aQ aR aS aT aU aV aW aX aY aZ ba bb bc bd bf bg bi : Value} {Q : Exit → Act → World → Prop} (HPN : ∀ (p : List PanicEntry) (a : Act) (dd : Nat) (vv : Value) (w : World),Q (.panic p) (a.put (some dd) vv) w → Q (.panic p) a w) (hQ : ∀ (wc : World) (vb : Nat),wc.heap[p]? = some (.cells #[.pointer (some ⟨r,0,none⟩),.int .i64 0] 50) → RS 82 wc r σe → Fr B r p w0 wc → wc.heap[rv]? = some (.cells RO RT) → wc.heap[vb]? = some (.cells #[.int .i64 y1,.int .i64 y2,.int .i64 y3,.int .i64 0,.bool false,.int .i64 0,.int .i64 0,.int .i64 0,.int .i64 0,.int .i64 0,.int .i64 0] 62) → B ≤ vb → rv < vb → ∀ x5 x6 x7 x8 x9 x10 x11 x12 x13 x14 x15 x16 x17 x18 x19 x20 : Value,Q .normal ⟨#[(.pointer (some ⟨p,0,none⟩)),u1,u2,(.pointer (some ⟨vb,0,none⟩)),u4,x5,x6,x7,x8,x9,x10,x11,x12,x13,x14,x15,x16,x17,x18,x19,x20,ap,aq,ar,au,av,aw,ax,ay,aA,aB,aC,aD,aE,aF,aG,aH,aI,aJ,aK,aL,aM,aN,aO,aP,aQ,aR,aS,aT,aU,aV,aW,aX,aY,aZ,ba,bb,bc,bd,bf,bg,bi],[]⟩ wc) :
    Code.wp Tryz.prog (Code.region 1 #[⟨some 5,.move (.tmp 0),46,"read.go:64",#[],none⟩,⟨some 6,.nilCheck (.tmp 5),0,"read.go:64",#[⟨0,.data⟩],none⟩,⟨some 7,.fieldAddr 50 (.tmp 6) 0,0,"read.go:64",#[⟨1,.data⟩],none⟩,⟨some 8,.load 47 (.tmp 7),47,"read.go:64",#[⟨2,.data⟩],none⟩,⟨some 9,.call ⟨.value (.func 40),#[.tmp 8],#[47]⟩,3,"read.go:64",#[⟨3,.data⟩],none⟩,⟨some 10,.move (.tmp 0),46,"read.go:64",#[],none⟩,⟨some 11,.nilCheck (.tmp 10),0,"read.go:64",#[⟨5,.data⟩],none⟩,⟨some 12,.fieldAddr 50 (.tmp 11) 0,0,"read.go:64",#[⟨6,.data⟩],none⟩,⟨some 13,.load 47 (.tmp 12),47,"read.go:64",#[⟨7,.data⟩],none⟩,⟨some 14,.call ⟨.value (.func 38),#[.tmp 13],#[47]⟩,3,"read.go:64",#[⟨8,.data⟩,⟨4,.chain⟩],none⟩,⟨some 15,.move (.tmp 0),46,"read.go:64",#[],none⟩,⟨some 16,.nilCheck (.tmp 15),0,"read.go:64",#[⟨10,.data⟩],none⟩,⟨some 17,.fieldAddr 50 (.tmp 16) 0,0,"read.go:64",#[⟨11,.data⟩],none⟩,⟨some 18,.load 47 (.tmp 17),47,"read.go:64",#[⟨12,.data⟩],none⟩,⟨some 19,.call ⟨.value (.func 38),#[.tmp 18],#[47]⟩,3,"read.go:64",#[⟨13,.data⟩,⟨9,.chain⟩],none⟩,⟨some 20,.build 62 #[(0,.tmp 9),(1,.tmp 14),(2,.tmp 19)],62,"read.go:64",#[⟨4,.data⟩,⟨9,.data⟩,⟨14,.data⟩],none⟩,⟨some 3,.alloc 62,0,"read.go:64",#[],none⟩,⟨none,.store 62 (.tmp 3) (.tmp 20),0,"read.go:64",#[⟨16,.data⟩,⟨15,.data⟩,⟨14,.chain⟩,⟨0,.phase⟩,⟨1,.phase⟩,⟨2,.phase⟩,⟨3,.phase⟩,⟨4,.phase⟩,⟨5,.phase⟩,⟨6,.phase⟩,⟨7,.phase⟩,⟨8,.phase⟩,⟨9,.phase⟩,⟨10,.phase⟩,⟨11,.phase⟩,⟨12,.phase⟩,⟨13,.phase⟩,⟨14,.phase⟩,⟨15,.phase⟩,⟨16,.phase⟩],none⟩] true) Q ⟨#[(.pointer (some ⟨p,0,none⟩)),u1,u2,u3,u4,u5,u6,u7,u8,u9,aa,ac,ae,af,ag,ah,ai,aj,ak,am,ao,ap,aq,ar,au,av,aw,ax,ay,aA,aB,aC,aD,aE,aF,aG,aH,aI,aJ,aK,aL,aM,aN,aO,aP,aQ,aR,aS,aT,aU,aV,aW,aX,aY,aZ,ba,bb,bc,bd,bf,bg,bi],[]⟩ W := by
  have HFW := HF
  have HPd : Hid ((World.drew W).heap[p]? = _) := HP.out
  have HRd : Hid (RS 82 (World.drew W) r _) := HR.out
  have HFd := Lib.hid (HF.out.trans Fr.dr)
  have RBd : Hid ((World.drew W).heap[_]? = _) := RB.out
  clear HP HR HF RB
  have HP := HPd
  have HR := HRd
  have HF := HFd
  have RB := RBd
  clear HPd HRd HFd RBd
  refine wp_region_held_drew (S := (fun w' => w'.cell? ⟨p,0,none⟩ = some (.pointer (some ⟨r,0,none⟩)))) (by kernel_rfl) ?_ (fun hHeld => ?_)
  · exact lies_cell HP.out 0
  refine tN 0 ?_ rfl (by kernel_rfl) rfl (by intro w;go_simp<;>with_reducible rfl) HPN hHeld
  try simp only [Act.put,yA,yB,yC]
  refine tN 1 ?_ rfl (by kernel_rfl) rfl (by intro w;go_simp<;>with_reducible rfl) HPN hHeld
  try simp only [Act.put,yA,yB,yC]
  refine tN 2 ?_ rfl (by kernel_rfl) rfl (by intro w;go_simp<;>with_reducible rfl) HPN hHeld
  try simp only [Act.put,yA,yB,yC]
  refine tY 3 ?_ rfl (by kernel_rfl) rfl (by intro w hSw;(try dsimp only at hSw);have c0 := hSw;clear hSw;go_simp<;>with_reducible rfl) HPN hHeld
  try simp only [Act.put,yA,yB,yC]
  refine tN 5 ?_ rfl (by kernel_rfl) rfl (by intro w;go_simp<;>with_reducible rfl) HPN hHeld
  try simp only [Act.put,yA,yB,yC]
  refine tN 6 ?_ rfl (by kernel_rfl) rfl (by intro w;go_simp<;>with_reducible rfl) HPN hHeld
  try simp only [Act.put,yA,yB,yC]
  refine tN 7 ?_ rfl (by kernel_rfl) rfl (by intro w;go_simp<;>with_reducible rfl) HPN hHeld
  try simp only [Act.put,yA,yB,yC]
  refine tY 8 ?_ rfl (by kernel_rfl) rfl (by intro w hSw;(try dsimp only at hSw);have c0 := hSw;clear hSw;go_simp<;>with_reducible rfl) HPN hHeld
  try simp only [Act.put,yA,yB,yC]
  refine tN 10 ?_ rfl (by kernel_rfl) rfl (by intro w;go_simp<;>with_reducible rfl) HPN hHeld
  try simp only [Act.put,yA,yB,yC]
  refine tN 11 ?_ rfl (by kernel_rfl) rfl (by intro w;go_simp<;>with_reducible rfl) HPN hHeld
  try simp only [Act.put,yA,yB,yC]
  refine tN 12 ?_ rfl (by kernel_rfl) rfl (by intro w;go_simp<;>with_reducible rfl) HPN hHeld
  try simp only [Act.put,yA,yB,yC]
  refine tY 13 ?_ rfl (by kernel_rfl) rfl (by intro w hSw;(try dsimp only at hSw);have c0 := hSw;clear hSw;go_simp<;>with_reducible rfl) HPN hHeld
  try simp only [Act.put,yA,yB,yC]
  refine rY 4 [16] ?_ (by kernel_rfl)
  refine rC rfl (fun K hK => ?_) (rC rfl (fun K hK => ?_) AllReadyH.nil)
  · have c0 := lies_cell HP.out 0
    go_simp
    (go_at_call 40;(with_reducible refine (HN1.out _ HR.out).mono ?_);rintro e V ⟨rfl,hw,hg⟩;go_wp2_with fail)
    clear c0
    have HPd := Lib.hid (lies_grown HP.out hg HPR.out)
    have HRd := Lib.hid hw
    have HFd := Lib.hid (Fr.of_grown (b := p) HF.out hg)
    have RBd := Lib.hid (lies_grown RB.out hg (by omega))
    clear HP HR HF RB hg hw
    have HP := HPd
    have HR := HRd
    have HF := HFd
    have RB := RBd
    clear HPd HRd HFd RBd
    refine hK.out _ _ ?_ (fun hHeld => ?_)
    · exact lies_cell HP.out 0
    clear hK K
    try simp only [Act.put,yA,yB,yC]
    refine rY 9 [16] ?_ (by kernel_rfl)
    refine rC rfl (fun K hK => ?_) (rC rfl (fun K hK => ?_) AllReadyH.nil)
    · have c0 := lies_cell HP.out 0
      go_simp
      (go_at_call 38;(with_reducible refine (HN2.out _ HR.out).mono ?_);rintro e V ⟨rfl,hw,hg⟩;go_wp2_with fail)
      clear c0
      have HPd := Lib.hid (lies_grown HP.out hg HPR.out)
      have HRd := Lib.hid hw
      have HFd := Lib.hid (Fr.of_grown (b := p) HF.out hg)
      have RBd := Lib.hid (lies_grown RB.out hg (by omega))
      clear HP HR HF RB hg hw
      have HP := HPd
      have HR := HRd
      have HF := HFd
      have RB := RBd
      clear HPd HRd HFd RBd
      refine hK.out _ _ ?_ (fun hHeld => ?_)
      · exact lies_cell HP.out 0
      clear hK K
      try simp only [Act.put,yA,yB,yC]
      refine rY 14 [16] ?_ (by kernel_rfl)
      refine rC rfl (fun K hK => ?_) (rC rfl (fun K hK => ?_) AllReadyH.nil)
      · have c0 := lies_cell HP.out 0
        go_simp
        (go_at_call 38;(with_reducible refine (HN3.out _ HR.out).mono ?_);rintro e V ⟨rfl,hw,hg⟩;go_wp2_with fail)
        clear c0
        have HPd := Lib.hid (lies_grown HP.out hg HPR.out)
        have HRd := Lib.hid hw
        have HFd := Lib.hid (Fr.of_grown (b := p) HF.out hg)
        have RBd := Lib.hid (lies_grown RB.out hg (by omega))
        clear HP HR HF RB hg hw
        have HP := HPd
        have HR := HRd
        have HF := HFd
        have RB := RBd
        clear HPd HRd HFd RBd
        refine hK.out _ _ ?_ (fun hHeld => ?_)
        · exact lies_cell HP.out 0
        clear hK K
        try simp only [Act.put,yA,yB,yC]
        refine tY 15 ?_ rfl (by kernel_rfl) rfl (by intro w hSw;(try dsimp only at hSw);have hz := zero_prt;clear hSw;go_simp<;>with_reducible rfl) HPN hHeld
        try simp only [Act.put,yA,yB,yC]
        refine rY 16 [] ?_ (by kernel_rfl)
        refine rC rfl (fun K hK => ?_) AllReadyH.nil
        have hz := zero_prt
        go_simp
        have HPd : Hid ((V.alloc (.cells #[.int .i64 0,.int .i64 0,.int .i64 0,.int .i64 0,.bool false,.int .i64 0,.int .i64 0,.int .i64 0,.int .i64 0,.int .i64 0,.int .i64 0] 62)).heap[p]? = _) := lies_alloc (w := V) HP.out _
        have HRd : Hid (RS 82 (V.alloc (.cells #[.int .i64 0,.int .i64 0,.int .i64 0,.int .i64 0,.bool false,.int .i64 0,.int .i64 0,.int .i64 0,.int .i64 0,.int .i64 0,.int .i64 0] 62)) r _) := RS.al (w := V) HR.out _
        have HFd : Hid (Fr B r p w0 (V.alloc (.cells #[.int .i64 0,.int .i64 0,.int .i64 0,.int .i64 0,.bool false,.int .i64 0,.int .i64 0,.int .i64 0,.int .i64 0,.int .i64 0,.int .i64 0] 62))) := Fr.al HF.out _
        have RBd : Hid ((V.alloc (.cells #[.int .i64 0,.int .i64 0,.int .i64 0,.int .i64 0,.bool false,.int .i64 0,.int .i64 0,.int .i64 0,.int .i64 0,.int .i64 0,.int .i64 0] 62)).heap[rv]? = _) := lies_alloc (w := V) RB.out _
        have VBd : Hid ((V.alloc (.cells #[.int .i64 0,.int .i64 0,.int .i64 0,.int .i64 0,.bool false,.int .i64 0,.int .i64 0,.int .i64 0,.int .i64 0,.int .i64 0,.int .i64 0] 62)).heap[V.heap.size]? = some (.cells #[.int .i64 0,.int .i64 0,.int .i64 0,.int .i64 0,.bool false,.int .i64 0,.int .i64 0,.int .i64 0,.int .i64 0,.int .i64 0,.int .i64 0] 62)) := heap_alloc_new V _
        have hvB : B ≤ V.heap.size := by (have h1 := HF.out.size);(have h2 := HB0.out);omega
        have hvrv : rv < V.heap.size := lies_lt (w := V) RB.out
        clear HP HR HF RB hz
        have HP := HPd
        have HR := HRd
        have HF := HFd
        have RB := RBd
        have VB := VBd
        clear HPd HRd HFd RBd VBd
        obtain ⟨Z,hZ⟩ : ∃ Z,(V.alloc (.cells #[.int .i64 0,.int .i64 0,.int .i64 0,.int .i64 0,.bool false,.int .i64 0,.int .i64 0,.int .i64 0,.int .i64 0,.int .i64 0,.int .i64 0] 62)) = Z := ⟨_,rfl⟩
        rw [hZ] at HP HR HF RB VB ⊢
        clear hZ
        obtain ⟨vb,hvb⟩ : ∃ b,V.heap.size = b := ⟨_,rfl⟩
        rw [hvb] at VB hvB hvrv ⊢
        clear hvb
        refine hK.out _ _ ?_ (fun hHeld => ?_)
        · exact lies_cell HP.out 0
        clear hK K
        try simp only [Act.put,yA,yB,yC]
        refine rY 17 [] ?_ (by kernel_rfl)
        refine rC rfl (fun K hK => ?_) AllReadyH.nil
        have f0 := lies_frozen VB.out 0
        have f1 := lies_frozen VB.out 1
        have f2 := lies_frozen VB.out 2
        have f3 := lies_frozen VB.out 3
        have f4 := lies_frozen VB.out 4
        have f5 := lies_frozen VB.out 5
        have f6 := lies_frozen VB.out 6
        have f7 := lies_frozen VB.out 7
        have f8 := lies_frozen VB.out 8
        have f9 := lies_frozen VB.out 9
        have f10 := lies_frozen VB.out 10
        obtain ⟨q0,q1,q2,q3,q4,q5,q6,q7,q8,q9,q10⟩ := cells_11 VB.out
        go_simp
        clear f0 f1 f2 f3 f4 f5 f6 f7 f8 f9 f10 q0 q1 q2 q3 q4 q5 q6 q7 q8 q9 q10
        have HPd : Hid (((((((((((((Z.setCell ⟨vb,0,none⟩ (.int .i64 y1)).setCell ⟨vb,1,none⟩ (.int .i64 y2)).setCell ⟨vb,2,none⟩ (.int .i64 y3)).setCell ⟨vb,3,none⟩ (.int .i64 0)).setCell ⟨vb,4,none⟩ (.bool false)).setCell ⟨vb,5,none⟩ (.int .i64 0)).setCell ⟨vb,6,none⟩ (.int .i64 0)).setCell ⟨vb,7,none⟩ (.int .i64 0)).setCell ⟨vb,8,none⟩ (.int .i64 0)).setCell ⟨vb,9,none⟩ (.int .i64 0)).setCell ⟨vb,10,none⟩ (.int .i64 0))).heap[p]? = _) := (far_11 (by omega)).trans HP.out
        have HRd : Hid (RS 82 ((((((((((((Z.setCell ⟨vb,0,none⟩ (.int .i64 y1)).setCell ⟨vb,1,none⟩ (.int .i64 y2)).setCell ⟨vb,2,none⟩ (.int .i64 y3)).setCell ⟨vb,3,none⟩ (.int .i64 0)).setCell ⟨vb,4,none⟩ (.bool false)).setCell ⟨vb,5,none⟩ (.int .i64 0)).setCell ⟨vb,6,none⟩ (.int .i64 0)).setCell ⟨vb,7,none⟩ (.int .i64 0)).setCell ⟨vb,8,none⟩ (.int .i64 0)).setCell ⟨vb,9,none⟩ (.int .i64 0)).setCell ⟨vb,10,none⟩ (.int .i64 0))) r _) := RS.keep HR.out (far_11 (by omega))
        have HFd : Hid (Fr _ r p _ ((((((((((((Z.setCell ⟨vb,0,none⟩ (.int .i64 y1)).setCell ⟨vb,1,none⟩ (.int .i64 y2)).setCell ⟨vb,2,none⟩ (.int .i64 y3)).setCell ⟨vb,3,none⟩ (.int .i64 0)).setCell ⟨vb,4,none⟩ (.bool false)).setCell ⟨vb,5,none⟩ (.int .i64 0)).setCell ⟨vb,6,none⟩ (.int .i64 0)).setCell ⟨vb,7,none⟩ (.int .i64 0)).setCell ⟨vb,8,none⟩ (.int .i64 0)).setCell ⟨vb,9,none⟩ (.int .i64 0)).setCell ⟨vb,10,none⟩ (.int .i64 0)))) := frs_11 HF.out (by omega)
        have VBd : Hid (((((((((((((Z.setCell ⟨vb,0,none⟩ (.int .i64 y1)).setCell ⟨vb,1,none⟩ (.int .i64 y2)).setCell ⟨vb,2,none⟩ (.int .i64 y3)).setCell ⟨vb,3,none⟩ (.int .i64 0)).setCell ⟨vb,4,none⟩ (.bool false)).setCell ⟨vb,5,none⟩ (.int .i64 0)).setCell ⟨vb,6,none⟩ (.int .i64 0)).setCell ⟨vb,7,none⟩ (.int .i64 0)).setCell ⟨vb,8,none⟩ (.int .i64 0)).setCell ⟨vb,9,none⟩ (.int .i64 0)).setCell ⟨vb,10,none⟩ (.int .i64 0))).heap[vb]? = some (.cells #[.int .i64 y1,.int .i64 y2,.int .i64 y3,.int .i64 0,.bool false,.int .i64 0,.int .i64 0,.int .i64 0,.int .i64 0,.int .i64 0,.int .i64 0] 62)) := put_11 VB.out
        have RBd : Hid (((((((((((((Z.setCell ⟨vb,0,none⟩ (.int .i64 y1)).setCell ⟨vb,1,none⟩ (.int .i64 y2)).setCell ⟨vb,2,none⟩ (.int .i64 y3)).setCell ⟨vb,3,none⟩ (.int .i64 0)).setCell ⟨vb,4,none⟩ (.bool false)).setCell ⟨vb,5,none⟩ (.int .i64 0)).setCell ⟨vb,6,none⟩ (.int .i64 0)).setCell ⟨vb,7,none⟩ (.int .i64 0)).setCell ⟨vb,8,none⟩ (.int .i64 0)).setCell ⟨vb,9,none⟩ (.int .i64 0)).setCell ⟨vb,10,none⟩ (.int .i64 0))).heap[_]? = _) := (far_11 (by omega)).trans RB.out
        clear HP HR HF VB RB
        have HP := HPd
        have HR := HRd
        have HF := HFd
        have VB := VBd
        have RB := RBd
        clear HPd HRd HFd VBd RBd
        generalize ((((((((((Z.setCell ⟨vb,0,none⟩ (.int .i64 y1)).setCell ⟨vb,1,none⟩ (.int .i64 y2)).setCell ⟨vb,2,none⟩ (.int .i64 y3)).setCell ⟨vb,3,none⟩ (.int .i64 0)).setCell ⟨vb,4,none⟩ (.bool false)).setCell ⟨vb,5,none⟩ (.int .i64 0)).setCell ⟨vb,6,none⟩ (.int .i64 0)).setCell ⟨vb,7,none⟩ (.int .i64 0)).setCell ⟨vb,8,none⟩ (.int .i64 0)).setCell ⟨vb,9,none⟩ (.int .i64 0)).setCell ⟨vb,10,none⟩ (.int .i64 0) = Zs at HP HR HF VB RB ⊢
        refine hK.out _ _ ?_ (fun hHeld => ?_)
        · exact lies_cell HP.out 0
        clear hK K
        try simp only [Act.put,yA,yB,yC]
        refine wpAnyH_done (by kernel_rfl) ?_ _
        clear hHeld
        exact hQ _ vb HP.out HR.out HF.out RB.out VB.out (by omega) (by omega) _ _ _ _ _ _ _ _ _ _ _ _ _ _ _ _
      · have hz := zero_prt
        go_simp
        have HPd : Hid ((V.alloc (.cells #[.int .i64 0,.int .i64 0,.int .i64 0,.int .i64 0,.bool false,.int .i64 0,.int .i64 0,.int .i64 0,.int .i64 0,.int .i64 0,.int .i64 0] 62)).heap[p]? = _) := lies_alloc (w := V) HP.out _
        have HRd : Hid (RS 82 (V.alloc (.cells #[.int .i64 0,.int .i64 0,.int .i64 0,.int .i64 0,.bool false,.int .i64 0,.int .i64 0,.int .i64 0,.int .i64 0,.int .i64 0,.int .i64 0] 62)) r _) := RS.al (w := V) HR.out _
        have HFd : Hid (Fr B r p w0 (V.alloc (.cells #[.int .i64 0,.int .i64 0,.int .i64 0,.int .i64 0,.bool false,.int .i64 0,.int .i64 0,.int .i64 0,.int .i64 0,.int .i64 0,.int .i64 0] 62))) := Fr.al HF.out _
        have RBd : Hid ((V.alloc (.cells #[.int .i64 0,.int .i64 0,.int .i64 0,.int .i64 0,.bool false,.int .i64 0,.int .i64 0,.int .i64 0,.int .i64 0,.int .i64 0,.int .i64 0] 62)).heap[rv]? = _) := lies_alloc (w := V) RB.out _
        have VBd : Hid ((V.alloc (.cells #[.int .i64 0,.int .i64 0,.int .i64 0,.int .i64 0,.bool false,.int .i64 0,.int .i64 0,.int .i64 0,.int .i64 0,.int .i64 0,.int .i64 0] 62)).heap[V.heap.size]? = some (.cells #[.int .i64 0,.int .i64 0,.int .i64 0,.int .i64 0,.bool false,.int .i64 0,.int .i64 0,.int .i64 0,.int .i64 0,.int .i64 0,.int .i64 0] 62)) := heap_alloc_new V _
        have hvB : B ≤ V.heap.size := by (have h1 := HF.out.size);(have h2 := HB0.out);omega
        have hvrv : rv < V.heap.size := lies_lt (w := V) RB.out
        clear HP HR HF RB hz
        have HP := HPd
        have HR := HRd
        have HF := HFd
        have RB := RBd
        have VB := VBd
        clear HPd HRd HFd RBd VBd
        obtain ⟨Z,hZ⟩ : ∃ Z,(V.alloc (.cells #[.int .i64 0,.int .i64 0,.int .i64 0,.int .i64 0,.bool false,.int .i64 0,.int .i64 0,.int .i64 0,.int .i64 0,.int .i64 0,.int .i64 0] 62)) = Z := ⟨_,rfl⟩
        rw [hZ] at HP HR HF RB VB ⊢
        clear hZ
        obtain ⟨vb,hvb⟩ : ∃ b,V.heap.size = b := ⟨_,rfl⟩
        rw [hvb] at VB hvB hvrv ⊢
        clear hvb
        refine hK.out _ _ ?_ (fun hHeld => ?_)
        · exact lies_cell HP.out 0
        clear hK K
        try simp only [Act.put,yA,yB,yC]
        refine rY 14 [] ?_ (by kernel_rfl)
        refine rC rfl (fun K hK => ?_) AllReadyH.nil
        have c0 := lies_cell HP.out 0
        go_simp
        (go_at_call 38;(with_reducible refine (HN3.out _ HR.out).mono ?_);rintro e V ⟨rfl,hw,hg⟩;go_wp2_with fail)
        clear c0
        have HPd := Lib.hid (lies_grown HP.out hg HPR.out)
        have HRd := Lib.hid hw
        have HFd := Lib.hid (Fr.of_grown (b := p) HF.out hg)
        have RBd := Lib.hid (lies_grown RB.out hg (by omega))
        have VBd := Lib.hid (lies_grown VB.out hg (by omega))
        clear HP HR HF RB VB hg hw
        have HP := HPd
        have HR := HRd
        have HF := HFd
        have RB := RBd
        have VB := VBd
        clear HPd HRd HFd RBd VBd
        refine hK.out _ _ ?_ (fun hHeld => ?_)
        · exact lies_cell HP.out 0
        clear hK K
        try simp only [Act.put,yA,yB,yC]
        refine tY 15 ?_ rfl (by kernel_rfl) rfl (by intro w hSw;(try dsimp only at hSw);have hz := zero_prt;clear hSw;go_simp<;>with_reducible rfl) HPN hHeld
        try simp only [Act.put,yA,yB,yC]
        refine rY 17 [] ?_ (by kernel_rfl)
        refine rC rfl (fun K hK => ?_) AllReadyH.nil
        have f0 := lies_frozen VB.out 0
        have f1 := lies_frozen VB.out 1
        have f2 := lies_frozen VB.out 2
        have f3 := lies_frozen VB.out 3
        have f4 := lies_frozen VB.out 4
        have f5 := lies_frozen VB.out 5
        have f6 := lies_frozen VB.out 6
        have f7 := lies_frozen VB.out 7
        have f8 := lies_frozen VB.out 8
        have f9 := lies_frozen VB.out 9
        have f10 := lies_frozen VB.out 10
        obtain ⟨q0,q1,q2,q3,q4,q5,q6,q7,q8,q9,q10⟩ := cells_11 VB.out
        go_simp
        clear f0 f1 f2 f3 f4 f5 f6 f7 f8 f9 f10 q0 q1 q2 q3 q4 q5 q6 q7 q8 q9 q10
        have HPd : Hid (((((((((((((V.setCell ⟨vb,0,none⟩ (.int .i64 y1)).setCell ⟨vb,1,none⟩ (.int .i64 y2)).setCell ⟨vb,2,none⟩ (.int .i64 y3)).setCell ⟨vb,3,none⟩ (.int .i64 0)).setCell ⟨vb,4,none⟩ (.bool false)).setCell ⟨vb,5,none⟩ (.int .i64 0)).setCell ⟨vb,6,none⟩ (.int .i64 0)).setCell ⟨vb,7,none⟩ (.int .i64 0)).setCell ⟨vb,8,none⟩ (.int .i64 0)).setCell ⟨vb,9,none⟩ (.int .i64 0)).setCell ⟨vb,10,none⟩ (.int .i64 0))).heap[p]? = _) := (far_11 (by omega)).trans HP.out
        have HRd : Hid (RS 82 ((((((((((((V.setCell ⟨vb,0,none⟩ (.int .i64 y1)).setCell ⟨vb,1,none⟩ (.int .i64 y2)).setCell ⟨vb,2,none⟩ (.int .i64 y3)).setCell ⟨vb,3,none⟩ (.int .i64 0)).setCell ⟨vb,4,none⟩ (.bool false)).setCell ⟨vb,5,none⟩ (.int .i64 0)).setCell ⟨vb,6,none⟩ (.int .i64 0)).setCell ⟨vb,7,none⟩ (.int .i64 0)).setCell ⟨vb,8,none⟩ (.int .i64 0)).setCell ⟨vb,9,none⟩ (.int .i64 0)).setCell ⟨vb,10,none⟩ (.int .i64 0))) r _) := RS.keep HR.out (far_11 (by omega))
        have HFd : Hid (Fr _ r p _ ((((((((((((V.setCell ⟨vb,0,none⟩ (.int .i64 y1)).setCell ⟨vb,1,none⟩ (.int .i64 y2)).setCell ⟨vb,2,none⟩ (.int .i64 y3)).setCell ⟨vb,3,none⟩ (.int .i64 0)).setCell ⟨vb,4,none⟩ (.bool false)).setCell ⟨vb,5,none⟩ (.int .i64 0)).setCell ⟨vb,6,none⟩ (.int .i64 0)).setCell ⟨vb,7,none⟩ (.int .i64 0)).setCell ⟨vb,8,none⟩ (.int .i64 0)).setCell ⟨vb,9,none⟩ (.int .i64 0)).setCell ⟨vb,10,none⟩ (.int .i64 0)))) := frs_11 HF.out (by omega)
        have VBd : Hid (((((((((((((V.setCell ⟨vb,0,none⟩ (.int .i64 y1)).setCell ⟨vb,1,none⟩ (.int .i64 y2)).setCell ⟨vb,2,none⟩ (.int .i64 y3)).setCell ⟨vb,3,none⟩ (.int .i64 0)).setCell ⟨vb,4,none⟩ (.bool false)).setCell ⟨vb,5,none⟩ (.int .i64 0)).setCell ⟨vb,6,none⟩ (.int .i64 0)).setCell ⟨vb,7,none⟩ (.int .i64 0)).setCell ⟨vb,8,none⟩ (.int .i64 0)).setCell ⟨vb,9,none⟩ (.int .i64 0)).setCell ⟨vb,10,none⟩ (.int .i64 0))).heap[vb]? = some (.cells #[.int .i64 y1,.int .i64 y2,.int .i64 y3,.int .i64 0,.bool false,.int .i64 0,.int .i64 0,.int .i64 0,.int .i64 0,.int .i64 0,.int .i64 0] 62)) := put_11 VB.out
        have RBd : Hid (((((((((((((V.setCell ⟨vb,0,none⟩ (.int .i64 y1)).setCell ⟨vb,1,none⟩ (.int .i64 y2)).setCell ⟨vb,2,none⟩ (.int .i64 y3)).setCell ⟨vb,3,none⟩ (.int .i64 0)).setCell ⟨vb,4,none⟩ (.bool false)).setCell ⟨vb,5,none⟩ (.int .i64 0)).setCell ⟨vb,6,none⟩ (.int .i64 0)).setCell ⟨vb,7,none⟩ (.int .i64 0)).setCell ⟨vb,8,none⟩ (.int .i64 0)).setCell ⟨vb,9,none⟩ (.int .i64 0)).setCell ⟨vb,10,none⟩ (.int .i64 0))).heap[_]? = _) := (far_11 (by omega)).trans RB.out
        clear HP HR HF VB RB
        have HP := HPd
        have HR := HRd
        have HF := HFd
        have VB := VBd
        have RB := RBd
        clear HPd HRd HFd VBd RBd
        generalize ((((((((((V.setCell ⟨vb,0,none⟩ (.int .i64 y1)).setCell ⟨vb,1,none⟩ (.int .i64 y2)).setCell ⟨vb,2,none⟩ (.int .i64 y3)).setCell ⟨vb,3,none⟩ (.int .i64 0)).setCell ⟨vb,4,none⟩ (.bool false)).setCell ⟨vb,5,none⟩ (.int .i64 0)).setCell ⟨vb,6,none⟩ (.int .i64 0)).setCell ⟨vb,7,none⟩ (.int .i64 0)).setCell ⟨vb,8,none⟩ (.int .i64 0)).setCell ⟨vb,9,none⟩ (.int .i64 0)).setCell ⟨vb,10,none⟩ (.int .i64 0) = Zs at HP HR HF VB RB ⊢
        refine hK.out _ _ ?_ (fun hHeld => ?_)
        · exact lies_cell HP.out 0
        clear hK K
        try simp only [Act.put,yA,yB,yC]
        refine wpAnyH_done (by kernel_rfl) ?_ _
        clear hHeld
        exact hQ _ vb HP.out HR.out HF.out RB.out VB.out (by omega) (by omega) _ _ _ _ _ _ _ _ _ _ _ _ _ _ _ _
    · have hz := zero_prt
      go_simp
      have HPd : Hid ((V.alloc (.cells #[.int .i64 0,.int .i64 0,.int .i64 0,.int .i64 0,.bool false,.int .i64 0,.int .i64 0,.int .i64 0,.int .i64 0,.int .i64 0,.int .i64 0] 62)).heap[p]? = _) := lies_alloc (w := V) HP.out _
      have HRd : Hid (RS 82 (V.alloc (.cells #[.int .i64 0,.int .i64 0,.int .i64 0,.int .i64 0,.bool false,.int .i64 0,.int .i64 0,.int .i64 0,.int .i64 0,.int .i64 0,.int .i64 0] 62)) r _) := RS.al (w := V) HR.out _
      have HFd : Hid (Fr B r p w0 (V.alloc (.cells #[.int .i64 0,.int .i64 0,.int .i64 0,.int .i64 0,.bool false,.int .i64 0,.int .i64 0,.int .i64 0,.int .i64 0,.int .i64 0,.int .i64 0] 62))) := Fr.al HF.out _
      have RBd : Hid ((V.alloc (.cells #[.int .i64 0,.int .i64 0,.int .i64 0,.int .i64 0,.bool false,.int .i64 0,.int .i64 0,.int .i64 0,.int .i64 0,.int .i64 0,.int .i64 0] 62)).heap[rv]? = _) := lies_alloc (w := V) RB.out _
      have VBd : Hid ((V.alloc (.cells #[.int .i64 0,.int .i64 0,.int .i64 0,.int .i64 0,.bool false,.int .i64 0,.int .i64 0,.int .i64 0,.int .i64 0,.int .i64 0,.int .i64 0] 62)).heap[V.heap.size]? = some (.cells #[.int .i64 0,.int .i64 0,.int .i64 0,.int .i64 0,.bool false,.int .i64 0,.int .i64 0,.int .i64 0,.int .i64 0,.int .i64 0,.int .i64 0] 62)) := heap_alloc_new V _
      have hvB : B ≤ V.heap.size := by (have h1 := HF.out.size);(have h2 := HB0.out);omega
      have hvrv : rv < V.heap.size := lies_lt (w := V) RB.out
      clear HP HR HF RB hz
      have HP := HPd
      have HR := HRd
      have HF := HFd
      have RB := RBd
      have VB := VBd
      clear HPd HRd HFd RBd VBd
      obtain ⟨Z,hZ⟩ : ∃ Z,(V.alloc (.cells #[.int .i64 0,.int .i64 0,.int .i64 0,.int .i64 0,.bool false,.int .i64 0,.int .i64 0,.int .i64 0,.int .i64 0,.int .i64 0,.int .i64 0] 62)) = Z := ⟨_,rfl⟩
      rw [hZ] at HP HR HF RB VB ⊢
      clear hZ
      obtain ⟨vb,hvb⟩ : ∃ b,V.heap.size = b := ⟨_,rfl⟩
      rw [hvb] at VB hvB hvrv ⊢
      clear hvb
      refine hK.out _ _ ?_ (fun hHeld => ?_)
      · exact lies_cell HP.out 0
      clear hK K
      try simp only [Act.put,yA,yB,yC]
      refine rY 9 [] ?_ (by kernel_rfl)
      refine rC rfl (fun K hK => ?_) AllReadyH.nil
      have c0 := lies_cell HP.out 0
      go_simp
      (go_at_call 38;(with_reducible refine (HN2.out _ HR.out).mono ?_);rintro e V ⟨rfl,hw,hg⟩;go_wp2_with fail)
      clear c0
      have HPd := Lib.hid (lies_grown HP.out hg HPR.out)
      have HRd := Lib.hid hw
      have HFd := Lib.hid (Fr.of_grown (b := p) HF.out hg)
      have RBd := Lib.hid (lies_grown RB.out hg (by omega))
      have VBd := Lib.hid (lies_grown VB.out hg (by omega))
      clear HP HR HF RB VB hg hw
      have HP := HPd
      have HR := HRd
      have HF := HFd
      have RB := RBd
      have VB := VBd
      clear HPd HRd HFd RBd VBd
      refine hK.out _ _ ?_ (fun hHeld => ?_)
      · exact lies_cell HP.out 0
      clear hK K
      try simp only [Act.put,yA,yB,yC]
      refine rY 14 [] ?_ (by kernel_rfl)
      refine rC rfl (fun K hK => ?_) AllReadyH.nil
      have c0 := lies_cell HP.out 0
      go_simp
      (go_at_call 38;(with_reducible refine (HN3.out _ HR.out).mono ?_);rintro e V ⟨rfl,hw,hg⟩;go_wp2_with fail)
      clear c0
      have HPd := Lib.hid (lies_grown HP.out hg HPR.out)
      have HRd := Lib.hid hw
      have HFd := Lib.hid (Fr.of_grown (b := p) HF.out hg)
      have RBd := Lib.hid (lies_grown RB.out hg (by omega))
      have VBd := Lib.hid (lies_grown VB.out hg (by omega))
      clear HP HR HF RB VB hg hw
      have HP := HPd
      have HR := HRd
      have HF := HFd
      have RB := RBd
      have VB := VBd
      clear HPd HRd HFd RBd VBd
      refine hK.out _ _ ?_ (fun hHeld => ?_)
      · exact lies_cell HP.out 0
      clear hK K
      try simp only [Act.put,yA,yB,yC]
      refine tY 15 ?_ rfl (by kernel_rfl) rfl (by intro w hSw;(try dsimp only at hSw);have hz := zero_prt;clear hSw;go_simp<;>with_reducible rfl) HPN hHeld
      try simp only [Act.put,yA,yB,yC]
      refine rY 17 [] ?_ (by kernel_rfl)
      refine rC rfl (fun K hK => ?_) AllReadyH.nil
      have f0 := lies_frozen VB.out 0
      have f1 := lies_frozen VB.out 1
      have f2 := lies_frozen VB.out 2
      have f3 := lies_frozen VB.out 3
      have f4 := lies_frozen VB.out 4
      have f5 := lies_frozen VB.out 5
      have f6 := lies_frozen VB.out 6
      have f7 := lies_frozen VB.out 7
      have f8 := lies_frozen VB.out 8
      have f9 := lies_frozen VB.out 9
      have f10 := lies_frozen VB.out 10
      obtain ⟨q0,q1,q2,q3,q4,q5,q6,q7,q8,q9,q10⟩ := cells_11 VB.out
      go_simp
      clear f0 f1 f2 f3 f4 f5 f6 f7 f8 f9 f10 q0 q1 q2 q3 q4 q5 q6 q7 q8 q9 q10
      have HPd : Hid (((((((((((((V.setCell ⟨vb,0,none⟩ (.int .i64 y1)).setCell ⟨vb,1,none⟩ (.int .i64 y2)).setCell ⟨vb,2,none⟩ (.int .i64 y3)).setCell ⟨vb,3,none⟩ (.int .i64 0)).setCell ⟨vb,4,none⟩ (.bool false)).setCell ⟨vb,5,none⟩ (.int .i64 0)).setCell ⟨vb,6,none⟩ (.int .i64 0)).setCell ⟨vb,7,none⟩ (.int .i64 0)).setCell ⟨vb,8,none⟩ (.int .i64 0)).setCell ⟨vb,9,none⟩ (.int .i64 0)).setCell ⟨vb,10,none⟩ (.int .i64 0))).heap[p]? = _) := (far_11 (by omega)).trans HP.out
      have HRd : Hid (RS 82 ((((((((((((V.setCell ⟨vb,0,none⟩ (.int .i64 y1)).setCell ⟨vb,1,none⟩ (.int .i64 y2)).setCell ⟨vb,2,none⟩ (.int .i64 y3)).setCell ⟨vb,3,none⟩ (.int .i64 0)).setCell ⟨vb,4,none⟩ (.bool false)).setCell ⟨vb,5,none⟩ (.int .i64 0)).setCell ⟨vb,6,none⟩ (.int .i64 0)).setCell ⟨vb,7,none⟩ (.int .i64 0)).setCell ⟨vb,8,none⟩ (.int .i64 0)).setCell ⟨vb,9,none⟩ (.int .i64 0)).setCell ⟨vb,10,none⟩ (.int .i64 0))) r _) := RS.keep HR.out (far_11 (by omega))
      have HFd : Hid (Fr _ r p _ ((((((((((((V.setCell ⟨vb,0,none⟩ (.int .i64 y1)).setCell ⟨vb,1,none⟩ (.int .i64 y2)).setCell ⟨vb,2,none⟩ (.int .i64 y3)).setCell ⟨vb,3,none⟩ (.int .i64 0)).setCell ⟨vb,4,none⟩ (.bool false)).setCell ⟨vb,5,none⟩ (.int .i64 0)).setCell ⟨vb,6,none⟩ (.int .i64 0)).setCell ⟨vb,7,none⟩ (.int .i64 0)).setCell ⟨vb,8,none⟩ (.int .i64 0)).setCell ⟨vb,9,none⟩ (.int .i64 0)).setCell ⟨vb,10,none⟩ (.int .i64 0)))) := frs_11 HF.out (by omega)
      have VBd : Hid (((((((((((((V.setCell ⟨vb,0,none⟩ (.int .i64 y1)).setCell ⟨vb,1,none⟩ (.int .i64 y2)).setCell ⟨vb,2,none⟩ (.int .i64 y3)).setCell ⟨vb,3,none⟩ (.int .i64 0)).setCell ⟨vb,4,none⟩ (.bool false)).setCell ⟨vb,5,none⟩ (.int .i64 0)).setCell ⟨vb,6,none⟩ (.int .i64 0)).setCell ⟨vb,7,none⟩ (.int .i64 0)).setCell ⟨vb,8,none⟩ (.int .i64 0)).setCell ⟨vb,9,none⟩ (.int .i64 0)).setCell ⟨vb,10,none⟩ (.int .i64 0))).heap[vb]? = some (.cells #[.int .i64 y1,.int .i64 y2,.int .i64 y3,.int .i64 0,.bool false,.int .i64 0,.int .i64 0,.int .i64 0,.int .i64 0,.int .i64 0,.int .i64 0] 62)) := put_11 VB.out
      have RBd : Hid (((((((((((((V.setCell ⟨vb,0,none⟩ (.int .i64 y1)).setCell ⟨vb,1,none⟩ (.int .i64 y2)).setCell ⟨vb,2,none⟩ (.int .i64 y3)).setCell ⟨vb,3,none⟩ (.int .i64 0)).setCell ⟨vb,4,none⟩ (.bool false)).setCell ⟨vb,5,none⟩ (.int .i64 0)).setCell ⟨vb,6,none⟩ (.int .i64 0)).setCell ⟨vb,7,none⟩ (.int .i64 0)).setCell ⟨vb,8,none⟩ (.int .i64 0)).setCell ⟨vb,9,none⟩ (.int .i64 0)).setCell ⟨vb,10,none⟩ (.int .i64 0))).heap[_]? = _) := (far_11 (by omega)).trans RB.out
      clear HP HR HF VB RB
      have HP := HPd
      have HR := HRd
      have HF := HFd
      have VB := VBd
      have RB := RBd
      clear HPd HRd HFd VBd RBd
      generalize ((((((((((V.setCell ⟨vb,0,none⟩ (.int .i64 y1)).setCell ⟨vb,1,none⟩ (.int .i64 y2)).setCell ⟨vb,2,none⟩ (.int .i64 y3)).setCell ⟨vb,3,none⟩ (.int .i64 0)).setCell ⟨vb,4,none⟩ (.bool false)).setCell ⟨vb,5,none⟩ (.int .i64 0)).setCell ⟨vb,6,none⟩ (.int .i64 0)).setCell ⟨vb,7,none⟩ (.int .i64 0)).setCell ⟨vb,8,none⟩ (.int .i64 0)).setCell ⟨vb,9,none⟩ (.int .i64 0)).setCell ⟨vb,10,none⟩ (.int .i64 0) = Zs at HP HR HF VB RB ⊢
      refine hK.out _ _ ?_ (fun hHeld => ?_)
      · exact lies_cell HP.out 0
      clear hK K
      try simp only [Act.put,yA,yB,yC]
      refine wpAnyH_done (by kernel_rfl) ?_ _
      clear hHeld
      exact hQ _ vb HP.out HR.out HF.out RB.out VB.out (by omega) (by omega) _ _ _ _ _ _ _ _ _ _ _ _ _ _ _ _
  · have hz := zero_prt
    go_simp
    have HPd : Hid (((W.alloc (.cells #[.int .i64 0,.int .i64 0,.int .i64 0,.int .i64 0,.bool false,.int .i64 0,.int .i64 0,.int .i64 0,.int .i64 0,.int .i64 0,.int .i64 0] 62)).drew).heap[p]? = _) := lies_alloc (w := W) HP.out _
    have HRd : Hid (RS 82 ((W.alloc (.cells #[.int .i64 0,.int .i64 0,.int .i64 0,.int .i64 0,.bool false,.int .i64 0,.int .i64 0,.int .i64 0,.int .i64 0,.int .i64 0,.int .i64 0] 62)).drew) r _) := RS.al (w := W) HR.out _
    have HFd : Hid (Fr B r p w0 ((W.alloc (.cells #[.int .i64 0,.int .i64 0,.int .i64 0,.int .i64 0,.bool false,.int .i64 0,.int .i64 0,.int .i64 0,.int .i64 0,.int .i64 0,.int .i64 0] 62)).drew)) := (Fr.al HFW.out _).trans Fr.dr
    have RBd : Hid (((W.alloc (.cells #[.int .i64 0,.int .i64 0,.int .i64 0,.int .i64 0,.bool false,.int .i64 0,.int .i64 0,.int .i64 0,.int .i64 0,.int .i64 0,.int .i64 0] 62)).drew).heap[rv]? = _) := lies_alloc (w := W) RB.out _
    have VBd : Hid (((W.alloc (.cells #[.int .i64 0,.int .i64 0,.int .i64 0,.int .i64 0,.bool false,.int .i64 0,.int .i64 0,.int .i64 0,.int .i64 0,.int .i64 0,.int .i64 0] 62)).drew).heap[W.heap.size]? = some (.cells #[.int .i64 0,.int .i64 0,.int .i64 0,.int .i64 0,.bool false,.int .i64 0,.int .i64 0,.int .i64 0,.int .i64 0,.int .i64 0,.int .i64 0] 62)) := heap_alloc_new W _
    have hvB : B ≤ W.heap.size := by (have h1 := HFW.out.size);(have h2 := HB0.out);omega
    have hvrv : rv < W.heap.size := lies_lt (w := W) RB.out
    clear HP HR HF RB hz
    have HP := HPd
    have HR := HRd
    have HF := HFd
    have RB := RBd
    have VB := VBd
    clear HPd HRd HFd RBd VBd
    obtain ⟨Z,hZ⟩ : ∃ Z,((W.alloc (.cells #[.int .i64 0,.int .i64 0,.int .i64 0,.int .i64 0,.bool false,.int .i64 0,.int .i64 0,.int .i64 0,.int .i64 0,.int .i64 0,.int .i64 0] 62)).drew) = Z := ⟨_,rfl⟩
    rw [hZ] at HP HR HF RB VB ⊢
    clear hZ
    obtain ⟨vb,hvb⟩ : ∃ b,W.heap.size = b := ⟨_,rfl⟩
    rw [hvb] at VB hvB hvrv ⊢
    clear hvb
    refine hK.out _ _ ?_ (fun hHeld => ?_)
    · exact lies_cell HP.out 0
    clear hK K
    try simp only [Act.put,yA,yB,yC]
    refine rY 4 [] ?_ (by kernel_rfl)
    refine rC rfl (fun K hK => ?_) AllReadyH.nil
    have c0 := lies_cell HP.out 0
    go_simp
    (go_at_call 40;(with_reducible refine (HN1.out _ HR.out).mono ?_);rintro e V ⟨rfl,hw,hg⟩;go_wp2_with fail)
    clear c0
    have HPd := Lib.hid (lies_grown HP.out hg HPR.out)
    have HRd := Lib.hid hw
    have HFd := Lib.hid (Fr.of_grown (b := p) HF.out hg)
    have RBd := Lib.hid (lies_grown RB.out hg (by omega))
    have VBd := Lib.hid (lies_grown VB.out hg (by omega))
    clear HP HR HF RB VB hg hw
    have HP := HPd
    have HR := HRd
    have HF := HFd
    have RB := RBd
    have VB := VBd
    clear HPd HRd HFd RBd VBd
    refine hK.out _ _ ?_ (fun hHeld => ?_)
    · exact lies_cell HP.out 0
    clear hK K
    try simp only [Act.put,yA,yB,yC]
    refine rY 9 [] ?_ (by kernel_rfl)
    refine rC rfl (fun K hK => ?_) AllReadyH.nil
    have c0 := lies_cell HP.out 0
    go_simp
    (go_at_call 38;(with_reducible refine (HN2.out _ HR.out).mono ?_);rintro e V ⟨rfl,hw,hg⟩;go_wp2_with fail)
    clear c0
    have HPd := Lib.hid (lies_grown HP.out hg HPR.out)
    have HRd := Lib.hid hw
    have HFd := Lib.hid (Fr.of_grown (b := p) HF.out hg)
    have RBd := Lib.hid (lies_grown RB.out hg (by omega))
    have VBd := Lib.hid (lies_grown VB.out hg (by omega))
    clear HP HR HF RB VB hg hw
    have HP := HPd
    have HR := HRd
    have HF := HFd
    have RB := RBd
    have VB := VBd
    clear HPd HRd HFd RBd VBd
    refine hK.out _ _ ?_ (fun hHeld => ?_)
    · exact lies_cell HP.out 0
    clear hK K
    try simp only [Act.put,yA,yB,yC]
    refine rY 14 [] ?_ (by kernel_rfl)
    refine rC rfl (fun K hK => ?_) AllReadyH.nil
    have c0 := lies_cell HP.out 0
    go_simp
    (go_at_call 38;(with_reducible refine (HN3.out _ HR.out).mono ?_);rintro e V ⟨rfl,hw,hg⟩;go_wp2_with fail)
    clear c0
    have HPd := Lib.hid (lies_grown HP.out hg HPR.out)
    have HRd := Lib.hid hw
    have HFd := Lib.hid (Fr.of_grown (b := p) HF.out hg)
    have RBd := Lib.hid (lies_grown RB.out hg (by omega))
    have VBd := Lib.hid (lies_grown VB.out hg (by omega))
    clear HP HR HF RB VB hg hw
    have HP := HPd
    have HR := HRd
    have HF := HFd
    have RB := RBd
    have VB := VBd
    clear HPd HRd HFd RBd VBd
    refine hK.out _ _ ?_ (fun hHeld => ?_)
    · exact lies_cell HP.out 0
    clear hK K
    try simp only [Act.put,yA,yB,yC]
    refine tY 15 ?_ rfl (by kernel_rfl) rfl (by intro w hSw;(try dsimp only at hSw);have hz := zero_prt;clear hSw;go_simp<;>with_reducible rfl) HPN hHeld
    try simp only [Act.put,yA,yB,yC]
    refine rY 17 [] ?_ (by kernel_rfl)
    refine rC rfl (fun K hK => ?_) AllReadyH.nil
    have f0 := lies_frozen VB.out 0
    have f1 := lies_frozen VB.out 1
    have f2 := lies_frozen VB.out 2
    have f3 := lies_frozen VB.out 3
    have f4 := lies_frozen VB.out 4
    have f5 := lies_frozen VB.out 5
    have f6 := lies_frozen VB.out 6
    have f7 := lies_frozen VB.out 7
    have f8 := lies_frozen VB.out 8
    have f9 := lies_frozen VB.out 9
    have f10 := lies_frozen VB.out 10
    obtain ⟨q0,q1,q2,q3,q4,q5,q6,q7,q8,q9,q10⟩ := cells_11 VB.out
    go_simp
    clear f0 f1 f2 f3 f4 f5 f6 f7 f8 f9 f10 q0 q1 q2 q3 q4 q5 q6 q7 q8 q9 q10
    have HPd : Hid (((((((((((((V.setCell ⟨vb,0,none⟩ (.int .i64 y1)).setCell ⟨vb,1,none⟩ (.int .i64 y2)).setCell ⟨vb,2,none⟩ (.int .i64 y3)).setCell ⟨vb,3,none⟩ (.int .i64 0)).setCell ⟨vb,4,none⟩ (.bool false)).setCell ⟨vb,5,none⟩ (.int .i64 0)).setCell ⟨vb,6,none⟩ (.int .i64 0)).setCell ⟨vb,7,none⟩ (.int .i64 0)).setCell ⟨vb,8,none⟩ (.int .i64 0)).setCell ⟨vb,9,none⟩ (.int .i64 0)).setCell ⟨vb,10,none⟩ (.int .i64 0))).heap[p]? = _) := (far_11 (by omega)).trans HP.out
    have HRd : Hid (RS 82 ((((((((((((V.setCell ⟨vb,0,none⟩ (.int .i64 y1)).setCell ⟨vb,1,none⟩ (.int .i64 y2)).setCell ⟨vb,2,none⟩ (.int .i64 y3)).setCell ⟨vb,3,none⟩ (.int .i64 0)).setCell ⟨vb,4,none⟩ (.bool false)).setCell ⟨vb,5,none⟩ (.int .i64 0)).setCell ⟨vb,6,none⟩ (.int .i64 0)).setCell ⟨vb,7,none⟩ (.int .i64 0)).setCell ⟨vb,8,none⟩ (.int .i64 0)).setCell ⟨vb,9,none⟩ (.int .i64 0)).setCell ⟨vb,10,none⟩ (.int .i64 0))) r _) := RS.keep HR.out (far_11 (by omega))
    have HFd : Hid (Fr _ r p _ ((((((((((((V.setCell ⟨vb,0,none⟩ (.int .i64 y1)).setCell ⟨vb,1,none⟩ (.int .i64 y2)).setCell ⟨vb,2,none⟩ (.int .i64 y3)).setCell ⟨vb,3,none⟩ (.int .i64 0)).setCell ⟨vb,4,none⟩ (.bool false)).setCell ⟨vb,5,none⟩ (.int .i64 0)).setCell ⟨vb,6,none⟩ (.int .i64 0)).setCell ⟨vb,7,none⟩ (.int .i64 0)).setCell ⟨vb,8,none⟩ (.int .i64 0)).setCell ⟨vb,9,none⟩ (.int .i64 0)).setCell ⟨vb,10,none⟩ (.int .i64 0)))) := frs_11 HF.out (by omega)
    have VBd : Hid (((((((((((((V.setCell ⟨vb,0,none⟩ (.int .i64 y1)).setCell ⟨vb,1,none⟩ (.int .i64 y2)).setCell ⟨vb,2,none⟩ (.int .i64 y3)).setCell ⟨vb,3,none⟩ (.int .i64 0)).setCell ⟨vb,4,none⟩ (.bool false)).setCell ⟨vb,5,none⟩ (.int .i64 0)).setCell ⟨vb,6,none⟩ (.int .i64 0)).setCell ⟨vb,7,none⟩ (.int .i64 0)).setCell ⟨vb,8,none⟩ (.int .i64 0)).setCell ⟨vb,9,none⟩ (.int .i64 0)).setCell ⟨vb,10,none⟩ (.int .i64 0))).heap[vb]? = some (.cells #[.int .i64 y1,.int .i64 y2,.int .i64 y3,.int .i64 0,.bool false,.int .i64 0,.int .i64 0,.int .i64 0,.int .i64 0,.int .i64 0,.int .i64 0] 62)) := put_11 VB.out
    have RBd : Hid (((((((((((((V.setCell ⟨vb,0,none⟩ (.int .i64 y1)).setCell ⟨vb,1,none⟩ (.int .i64 y2)).setCell ⟨vb,2,none⟩ (.int .i64 y3)).setCell ⟨vb,3,none⟩ (.int .i64 0)).setCell ⟨vb,4,none⟩ (.bool false)).setCell ⟨vb,5,none⟩ (.int .i64 0)).setCell ⟨vb,6,none⟩ (.int .i64 0)).setCell ⟨vb,7,none⟩ (.int .i64 0)).setCell ⟨vb,8,none⟩ (.int .i64 0)).setCell ⟨vb,9,none⟩ (.int .i64 0)).setCell ⟨vb,10,none⟩ (.int .i64 0))).heap[_]? = _) := (far_11 (by omega)).trans RB.out
    clear HP HR HF VB RB
    have HP := HPd
    have HR := HRd
    have HF := HFd
    have VB := VBd
    have RB := RBd
    clear HPd HRd HFd VBd RBd
    generalize ((((((((((V.setCell ⟨vb,0,none⟩ (.int .i64 y1)).setCell ⟨vb,1,none⟩ (.int .i64 y2)).setCell ⟨vb,2,none⟩ (.int .i64 y3)).setCell ⟨vb,3,none⟩ (.int .i64 0)).setCell ⟨vb,4,none⟩ (.bool false)).setCell ⟨vb,5,none⟩ (.int .i64 0)).setCell ⟨vb,6,none⟩ (.int .i64 0)).setCell ⟨vb,7,none⟩ (.int .i64 0)).setCell ⟨vb,8,none⟩ (.int .i64 0)).setCell ⟨vb,9,none⟩ (.int .i64 0)).setCell ⟨vb,10,none⟩ (.int .i64 0) = Zs at HP HR HF VB RB ⊢
    refine hK.out _ _ ?_ (fun hHeld => ?_)
    · exact lies_cell HP.out 0
    clear hK K
    try simp only [Act.put,yA,yB,yC]
    refine wpAnyH_done (by kernel_rfl) ?_ _
    clear hHeld
    exact hQ _ vb HP.out HR.out HF.out RB.out VB.out (by omega) (by omega) _ _ _ _ _ _ _ _ _ _ _ _ _ _ _ _
end Go.Proofs.YtdgkanamceeheaaGreat.Im
