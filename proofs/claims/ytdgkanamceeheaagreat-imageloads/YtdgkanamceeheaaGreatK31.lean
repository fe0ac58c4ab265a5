/- The document's Check: its region that draws. The document's Check, over what its judges tell. -/
import Derived.Test.YtdgkanamceeheaaGreatK29
import Derived.Test.YtdgkanamceeheaaGreatK0
import Derived.Deep.RegionHeld3
set_option linter.unusedVariables false
set_option maxRecDepth 100000
namespace Go.Proofs.YtdgkanamceeheaaGreat
open Go.RowKit
set_option maxHeartbeats 4000000 in
theorem rcheck6_many {W : World} {cb tb tf k : Nat} {z : Int} {hosts major : Int} {wA vA qA : Option Addr} {pl pc wl wk vl vc ql qc : Nat} (HC : Hid (W.heap[cb]? = some (.cells #[.int .i64 hosts,.slice (some ⟨tb,tf,none⟩) pl pc,.int .i64 major,.slice wA wl wk,.slice vA vl vc,.slice qA ql qc] 28))) {R : Bool} (hR : R = true) (hk : 64 ≤ k) {u0 u2 u3 u4 u6 u7 u8 u9 aa ac ae af ag ah ai aj ak am ao ap aq ar au av aw ax ay aA aB aC aD aE aF aG aH aI aJ aK aL aM aN aO aP aQ aR aS aT aU aV aW aX aY aZ ba bb bc bd bf bg bi bj bm bo br bs bt bu bw bz bA bB bC bD bE bF bG bH bI bJ bK bL bM bN bO bP bQ bR bS bT bU bV bW bX bY bZ cg ci cj ck cq : Value} {Q : Exit → Act → World → Prop} (HPN : ∀ (p : List PanicEntry) (a : Act) (dd : Nat) (vv : Value) (w : World),Q (.panic p) (a.put (some dd) vv) w → Q (.panic p) a w) (hQ : ∀ (wc : World),Below W.heap.size W wc → ∀ x28 x29 x30 x31 x32 x33 x34 x35 x36 x37 x38 : Value,Q .normal ⟨#[u0,(.pointer (some ⟨cb,0,none⟩)),u2,u3,u4,(.int .i64 k),u6,u7,u8,u9,aa,ac,ae,af,ag,ah,ai,aj,ak,am,ao,ap,aq,ar,au,av,aw,ax,x28,x29,x30,x31,x32,x33,x34,x35,x36,x37,x38,(.bool R),aL,aM,aN,aO,aP,aQ,aR,aS,aT,aU,aV,aW,aX,aY,aZ,ba,bb,bc,bd,bf,bg,bi,bj,bm,bo,br,bs,bt,bu,bw,bz,bA,bB,bC,bD,bE,bF,bG,bH,bI,bJ,bK,bL,bM,bN,bO,bP,bQ,bR,bS,bT,bU,bV,bW,bX,bY,bZ,cg,ci,cj,ck,cq],[]⟩ wc) :
    Code.wp Tryz.prog (Code.region 6 #[⟨some 28,.move (.tmp 5),3,"ref.go:141",#[],none⟩,⟨some 29,.binOp .geq 3 (.tmp 28) (.const (.int .i64 64)) 3,4,"ref.go:141",#[⟨0,.data⟩],none⟩,⟨some 30,.move (.tmp 29),4,"ref.go:141",#[⟨1,.data⟩],none⟩,⟨some 31,.load 28 (.tmp 1),28,"ref.go:141",#[⟨2,.guard⟩],some (2,false)⟩,⟨some 32,.fieldAddr 28 (.tmp 1) 1,0,"ref.go:141",#[⟨2,.guard⟩],some (2,false)⟩,⟨some 33,.load 23 (.tmp 32),23,"ref.go:141",#[⟨4,.data⟩,⟨2,.guard⟩],some (2,false)⟩,⟨some 34,.move (.tmp 5),3,"ref.go:141",#[⟨2,.guard⟩],some (2,false)⟩,⟨some 35,.indexAddr 23 (.tmp 33) (.tmp 34),0,"ref.go:141",#[⟨5,.data⟩,⟨6,.data⟩,⟨2,.guard⟩],some (2,false)⟩,⟨some 36,.load 3 (.tmp 35),3,"ref.go:141",#[⟨7,.data⟩,⟨2,.guard⟩],some (2,false)⟩,⟨some 37,.call ⟨.value (.func 54),#[.tmp 31,.tmp 36],#[28,3]⟩,4,"ref.go:141",#[⟨3,.data⟩,⟨8,.data⟩,⟨2,.chain⟩,⟨2,.guard⟩],some (2,false)⟩,⟨some 38,.unOp .not 4 (.tmp 37),4,"ref.go:141",#[⟨9,.data⟩,⟨2,.guard⟩],some (2,false)⟩,⟨some 39,.pick (.tmp 30) (.const (.bool true)) (.tmp 38),4,"ref.go:141",#[⟨2,.data⟩,⟨10,.data⟩],none⟩] true) Q ⟨#[u0,(.pointer (some ⟨cb,0,none⟩)),u2,u3,u4,(.int .i64 k),u6,u7,u8,u9,aa,ac,ae,af,ag,ah,ai,aj,ak,am,ao,ap,aq,ar,au,av,aw,ax,ay,aA,aB,aC,aD,aE,aF,aG,aH,aI,aJ,aK,aL,aM,aN,aO,aP,aQ,aR,aS,aT,aU,aV,aW,aX,aY,aZ,ba,bb,bc,bd,bf,bg,bi,bj,bm,bo,br,bs,bt,bu,bw,bz,bA,bB,bC,bD,bE,bF,bG,bH,bI,bJ,bK,bL,bM,bN,bO,bP,bQ,bR,bS,bT,bU,bV,bW,bX,bY,bZ,cg,ci,cj,ck,cq],[]⟩ W := by
  subst hR
  have i1 : decide (64 ≤ (k : Int)) = true := decide_eq_true (by omega)
  have i2 : decide (64 ≤ k) = true := decide_eq_true hk
  refine wp_region_held_drew (S := fun w' => Below W.heap.size W w') (by kernel_rfl) ?_ (fun hHeld => ?_)
  · exact (Below.refl _ W).drew
  refine tN 0 ?_ rfl (by kernel_rfl) rfl (by intro w;go_simp<;>with_reducible rfl) HPN hHeld
  try simp only [Act.put,yA,yB,yC]
  refine tN 1 ?_ rfl (by kernel_rfl) rfl (by intro w;go_simp<;>with_reducible rfl) HPN hHeld
  try simp only [Act.put,yA,yB,yC]
  refine tN 2 ?_ rfl (by kernel_rfl) rfl (by intro w;go_simp<;>with_reducible rfl) HPN hHeld
  try simp only [Act.put,yA,yB,yC]
  refine tU 3 ?_ rfl (by kernel_rfl) rfl HPN hHeld
  try simp only [Act.put,yA,yB,yC]
  refine tU 4 ?_ rfl (by kernel_rfl) rfl HPN hHeld
  try simp only [Act.put,yA,yB,yC]
  refine tU 5 ?_ rfl (by kernel_rfl) rfl HPN hHeld
  try simp only [Act.put,yA,yB,yC]
  refine tU 6 ?_ rfl (by kernel_rfl) rfl HPN hHeld
  try simp only [Act.put,yA,yB,yC]
  refine tU 7 ?_ rfl (by kernel_rfl) rfl HPN hHeld
  try simp only [Act.put,yA,yB,yC]
  refine tU 8 ?_ rfl (by kernel_rfl) rfl HPN hHeld
  try simp only [Act.put,yA,yB,yC]
  refine tU 9 ?_ rfl (by kernel_rfl) rfl HPN hHeld
  try simp only [Act.put,yA,yB,yC]
  refine tU 10 ?_ rfl (by kernel_rfl) rfl HPN hHeld
  try simp only [Act.put,yA,yB,yC]
  refine tN 11 ?_ rfl (by kernel_rfl) rfl (by intro w;go_simp<;>with_reducible rfl) HPN hHeld
  try simp only [Act.put,yA,yB,yC]
  refine wpAnyH_done (by kernel_rfl) ?_ _
  clear hHeld
  exact hQ _ ((Below.refl _ W).drew) _ _ _ _ _ _ _ _ _ _ _
set_option maxHeartbeats 4000000 in
theorem rcheck6_few {W : World} {cb tb tf k : Nat} {z : Int} {hosts major : Int} {wA vA qA : Option Addr} {pl pc wl wk vl vc ql qc : Nat} (HC : Hid (W.heap[cb]? = some (.cells #[.int .i64 hosts,.slice (some ⟨tb,tf,none⟩) pl pc,.int .i64 major,.slice wA wl wk,.slice vA vl vc,.slice qA ql qc] 28))) {P R : Bool} (hR : (!P) = R) (hk : k < 64) (hkl : k < pl) (HI : Hid (W.cell? ⟨tb,tf + k,none⟩ = some (.int .i64 z))) (HLT : Hid (tb < W.heap.size)) (HP : Hid (∀ w,Calls Tryz.prog 54 #[.agg #[.int .i64 hosts,.slice (some ⟨tb,tf,none⟩) pl pc,.int .i64 major,.slice wA wl wk,.slice vA vl vc,.slice qA ql qc],.int .i64 z] w fun e w' => e = .returned (.bool P) ∧ Below w.heap.size w w')) {u0 u2 u3 u4 u6 u7 u8 u9 aa ac ae af ag ah ai aj ak am ao ap aq ar au av aw ax ay aA aB aC aD aE aF aG aH aI aJ aK aL aM aN aO aP aQ aR aS aT aU aV aW aX aY aZ ba bb bc bd bf bg bi bj bm bo br bs bt bu bw bz bA bB bC bD bE bF bG bH bI bJ bK bL bM bN bO bP bQ bR bS bT bU bV bW bX bY bZ cg ci cj ck cq : Value} {Q : Exit → Act → World → Prop} (HPN : ∀ (p : List PanicEntry) (a : Act) (dd : Nat) (vv : Value) (w : World),Q (.panic p) (a.put (some dd) vv) w → Q (.panic p) a w) (hQ : ∀ (wc : World),Below W.heap.size W wc → ∀ x28 x29 x30 x31 x32 x33 x34 x35 x36 x37 x38 : Value,Q .normal ⟨#[u0,(.pointer (some ⟨cb,0,none⟩)),u2,u3,u4,(.int .i64 k),u6,u7,u8,u9,aa,ac,ae,af,ag,ah,ai,aj,ak,am,ao,ap,aq,ar,au,av,aw,ax,x28,x29,x30,x31,x32,x33,x34,x35,x36,x37,x38,(.bool R),aL,aM,aN,aO,aP,aQ,aR,aS,aT,aU,aV,aW,aX,aY,aZ,ba,bb,bc,bd,bf,bg,bi,bj,bm,bo,br,bs,bt,bu,bw,bz,bA,bB,bC,bD,bE,bF,bG,bH,bI,bJ,bK,bL,bM,bN,bO,bP,bQ,bR,bS,bT,bU,bV,bW,bX,bY,bZ,cg,ci,cj,ck,cq],[]⟩ wc) :
    Code.wp Tryz.prog (Code.region 6 #[⟨some 28,.move (.tmp 5),3,"ref.go:141",#[],none⟩,⟨some 29,.binOp .geq 3 (.tmp 28) (.const (.int .i64 64)) 3,4,"ref.go:141",#[⟨0,.data⟩],none⟩,⟨some 30,.move (.tmp 29),4,"ref.go:141",#[⟨1,.data⟩],none⟩,⟨some 31,.load 28 (.tmp 1),28,"ref.go:141",#[⟨2,.guard⟩],some (2,false)⟩,⟨some 32,.fieldAddr 28 (.tmp 1) 1,0,"ref.go:141",#[⟨2,.guard⟩],some (2,false)⟩,⟨some 33,.load 23 (.tmp 32),23,"ref.go:141",#[⟨4,.data⟩,⟨2,.guard⟩],some (2,false)⟩,⟨some 34,.move (.tmp 5),3,"ref.go:141",#[⟨2,.guard⟩],some (2,false)⟩,⟨some 35,.indexAddr 23 (.tmp 33) (.tmp 34),0,"ref.go:141",#[⟨5,.data⟩,⟨6,.data⟩,⟨2,.guard⟩],some (2,false)⟩,⟨some 36,.load 3 (.tmp 35),3,"ref.go:141",#[⟨7,.data⟩,⟨2,.guard⟩],some (2,false)⟩,⟨some 37,.call ⟨.value (.func 54),#[.tmp 31,.tmp 36],#[28,3]⟩,4,"ref.go:141",#[⟨3,.data⟩,⟨8,.data⟩,⟨2,.chain⟩,⟨2,.guard⟩],some (2,false)⟩,⟨some 38,.unOp .not 4 (.tmp 37),4,"ref.go:141",#[⟨9,.data⟩,⟨2,.guard⟩],some (2,false)⟩,⟨some 39,.pick (.tmp 30) (.const (.bool true)) (.tmp 38),4,"ref.go:141",#[⟨2,.data⟩,⟨10,.data⟩],none⟩] true) Q ⟨#[u0,(.pointer (some ⟨cb,0,none⟩)),u2,u3,u4,(.int .i64 k),u6,u7,u8,u9,aa,ac,ae,af,ag,ah,ai,aj,ak,am,ao,ap,aq,ar,au,av,aw,ax,ay,aA,aB,aC,aD,aE,aF,aG,aH,aI,aJ,aK,aL,aM,aN,aO,aP,aQ,aR,aS,aT,aU,aV,aW,aX,aY,aZ,ba,bb,bc,bd,bf,bg,bi,bj,bm,bo,br,bs,bt,bu,bw,bz,bA,bB,bC,bD,bE,bF,bG,bH,bI,bJ,bK,bL,bM,bN,bO,bP,bQ,bR,bS,bT,bU,bV,bW,bX,bY,bZ,cg,ci,cj,ck,cq],[]⟩ W := by
  have i1 : decide (64 ≤ (k : Int)) = false := decide_eq_false (by omega)
  have i2 : decide (64 ≤ k) = false := decide_eq_false (by omega)
  have q2 : (k : Int) < (pl : Int) := by omega
  have q3 : 0 ≤ (k : Int) := by omega
  refine wp_region_held_drew (S := fun w' => Below W.heap.size W w') (by kernel_rfl) ?_ (fun hHeld => ?_)
  · exact (Below.refl _ W).drew
  refine tN 0 ?_ rfl (by kernel_rfl) rfl (by intro w;go_simp<;>with_reducible rfl) HPN hHeld
  try simp only [Act.put,yA,yB,yC]
  refine tN 1 ?_ rfl (by kernel_rfl) rfl (by intro w;go_simp<;>with_reducible rfl) HPN hHeld
  try simp only [Act.put,yA,yB,yC]
  refine tN 2 ?_ rfl (by kernel_rfl) rfl (by intro w;go_simp<;>with_reducible rfl) HPN hHeld
  try simp only [Act.put,yA,yB,yC]
  refine tY 3 ?_ rfl (by kernel_rfl) rfl (by intro w hSw;(try dsimp only at hSw);obtain ⟨c0,c1,c2,c3,c4,c5⟩ := cells_6 (lies_below HC.out hSw (lies_lt HC.out));clear hSw;go_simp<;>with_reducible rfl) HPN hHeld
  try simp only [Act.put,yA,yB,yC]
  refine tN 4 ?_ rfl (by kernel_rfl) rfl (by intro w;go_simp<;>with_reducible rfl) HPN hHeld
  try simp only [Act.put,yA,yB,yC]
  refine tY 5 ?_ rfl (by kernel_rfl) rfl (by intro w hSw;(try dsimp only at hSw);obtain ⟨c0,c1,c2,c3,c4,c5⟩ := cells_6 (lies_below HC.out hSw (lies_lt HC.out));clear hSw;go_simp<;>with_reducible rfl) HPN hHeld
  try simp only [Act.put,yA,yB,yC]
  refine tN 6 ?_ rfl (by kernel_rfl) rfl (by intro w;go_simp<;>with_reducible rfl) HPN hHeld
  try simp only [Act.put,yA,yB,yC]
  refine tN 7 ?_ rfl (by kernel_rfl) rfl (by intro w;go_simp<;>with_reducible rfl) HPN hHeld
  try simp only [Act.put,yA,yB,yC]
  refine tY 8 ?_ rfl (by kernel_rfl) rfl (by intro w hSw;(try dsimp only at hSw);have ti := (hSw.cell (p := ⟨tb,tf + k,none⟩) HLT.out).trans HI.out;clear hSw;go_simp<;>with_reducible rfl) HPN hHeld
  try simp only [Act.put,yA,yB,yC]
  refine rY 9 [] ?_ (by kernel_rfl)
  refine rC rfl (fun K hK => ?_) AllReadyH.nil
  go_simp
  (go_at_call 54;(with_reducible refine (HP.out _).mono ?_);rintro e Va ⟨rfl,hb⟩;go_wp2_with fail)
  have B1 : Hid (Below W.heap.size W Va) := ((Below.refl _ W).drew).trans hb
  clear hb
  refine hK.out _ _ ?_ (fun hHeld => ?_)
  · exact B1.out
  clear hK K
  try simp only [Act.put,yA,yB,yC]
  refine tN 10 ?_ rfl (by kernel_rfl) rfl (by intro w;go_simp<;>with_reducible rfl) HPN hHeld
  try simp only [Act.put,yA,yB,yC]
  refine tN 11 ?_ rfl (by kernel_rfl) rfl (by intro w;go_simp<;>with_reducible rfl) HPN hHeld
  try simp only [Act.put,yA,yB,yC]
  refine wpAnyH_done (by kernel_rfl) ?_ _
  clear hHeld
  exact hQ _ B1.out _ _ _ _ _ _ _ _ _ _ _
end Go.Proofs.YtdgkanamceeheaaGreat
set_option maxRecDepth 100000
namespace Go.Proofs.YtdgkanamceeheaaGreat
open Go.RowKit
set_option maxHeartbeats 16000000 in
theorem refCheck_core (hosts major : Int) (pA wA vA qA : Option Addr) (pl pc wl wk vl vc ql qc : Nat) (w : World) (parts : List Int) (jf : Nat → Int × Int) (J2 J4 J5 J6 : Nat → Int) (JT : Int → Int)
    (HPA : IntsAt w pA parts) (hpl : parts.length = pl) (b1 : pl ≤ 5000) (b2 : wl ≤ 1000) (b3 : vl ≤ 1000) (b4 : ql ≤ 1000)
    (h1 : jf 1 = (0,if hosts < 1 ∨ 64 < hosts then 1 else 0)) (h3 : jf 3 = (0,if major < 1 ∨ 1073741824 < major then 1 else 0))
    (h2h : ∀ k,k < pl → (∀ q,q < k → J2 q = 0) → J2 k ≠ 0 → jf 2 = ((k : Int),J2 k)) (h2n : (∀ q,q < pl → J2 q = 0) → (jf 2).2 = 0)
    (h2d : ∀ k (hk : k < parts.length),J2 k = if 64 ≤ k ∨ PitotConf.isHost hosts parts[k] = false then 1 else 0)
    (h4h : ∀ k,k < wl → (∀ q,q < k → J4 q = 0) → J4 k ≠ 0 → jf 4 = ((k : Int),J4 k)) (h4n : (∀ q,q < wl → J4 q = 0) → (jf 4).2 = 0)
    (h5h : ∀ k,k < vl → (∀ q,q < k → J5 q = 0) → J5 k ≠ 0 → jf 5 = ((k : Int),J5 k)) (h5n : (∀ q,q < vl → J5 q = 0) → (jf 5).2 = 0)
    (h6h : ∀ k,k < ql → (∀ q,q < k → J6 q = 0) → J6 k ≠ 0 → jf 6 = ((k : Int),J6 k)) (h6n : (∀ q,q < ql → J6 q = 0) → (jf 6).2 = 0)
    (h7h : ∀ k : Nat,(k : Int) < hosts → (∀ q : Nat,q < k → JT q ≤ 6250) → 6250 < JT k → jf 7 = ((k : Int),26)) (h7n : (∀ q : Nat,(q : Int) < hosts → JT q ≤ 6250) → (jf 7).2 = 0)
    (H32 : ∀ n w,Calls Tryz.prog 54 #[.agg #[.int .i64 hosts,.slice pA pl pc,.int .i64 major,.slice wA wl wk,.slice vA vl vc,.slice qA ql qc],.int .i64 n] w fun e w' => e = .returned (.bool (PitotConf.isHost hosts n)) ∧ Below w.heap.size w w')
    (H33 : (∀ i,1 ≤ i → i < 4 → (jf i).2 = 0) → ∀ k : Nat,k < wl → (∀ q,q < k → J4 q = 0) → ∀ (w' : World),Below w.heap.size w w' → Calls Tryz.prog 55 #[.agg #[.int .i64 hosts,.slice pA pl pc,.int .i64 major,.slice wA wl wk,.slice vA vl vc,.slice qA ql qc],.int .i64 k] w' fun e w'' => e = .returned (.int .i64 (J4 k)) ∧ Below w'.heap.size w' w'')
    (H34 : (∀ i,1 ≤ i → i < 5 → (jf i).2 = 0) → ∀ k : Nat,k < vl → (∀ q,q < k → J5 q = 0) → ∀ (w' : World),Below w.heap.size w w' → Calls Tryz.prog 56 #[.agg #[.int .i64 hosts,.slice pA pl pc,.int .i64 major,.slice wA wl wk,.slice vA vl vc,.slice qA ql qc],.int .i64 k] w' fun e w'' => e = .returned (.int .i64 (J5 k)) ∧ Below w'.heap.size w' w'')
    (H35 : (∀ i,1 ≤ i → i < 6 → (jf i).2 = 0) → ∀ k : Nat,k < ql → (∀ q,q < k → J6 q = 0) → ∀ (w' : World),Below w.heap.size w w' → Calls Tryz.prog 57 #[.agg #[.int .i64 hosts,.slice pA pl pc,.int .i64 major,.slice wA wl wk,.slice vA vl vc,.slice qA ql qc],.int .i64 k] w' fun e w'' => e = .returned (.int .i64 (J6 k)) ∧ Below w'.heap.size w' w'')
    (H19 : (∀ i,1 ≤ i → i < 7 → (jf i).2 = 0) → ∀ k : Nat,∀ (w' : World),Below w.heap.size w w' → Calls Tryz.prog 58 #[.agg #[.int .i64 hosts,.slice pA pl pc,.int .i64 major,.slice wA wl wk,.slice vA vl vc,.slice qA ql qc],.int .i64 k] w' fun e w'' => e = .returned (.int .i64 (JT k)) ∧ Below w'.heap.size w' w'') :
    Calls Tryz.prog 21 #[.agg #[.int .i64 hosts,.slice pA pl pc,.int .i64 major,.slice wA wl wk,.slice vA vl vc,.slice qA ql qc]] w fun e w' => e = .returned (.tuple #[.int .i64 (firstJ jf [1,2,3,4,5,6,7]).1,.int .i64 (firstJ jf [1,2,3,4,5,6,7]).2.1,.int .i64 (firstJ jf [1,2,3,4,5,6,7]).2.2]) ∧ Below w.heap.size w w' := by
  obtain ⟨r,hr⟩ : ∃ r,firstJ jf [1,2,3,4,5,6,7] = r := ⟨_,rfl⟩
  obtain ⟨r1,r2,r3⟩ := r
  rw [hr]
  simp only
  have HR := Lib.hid hr
  have HH1 := Lib.hid h1;have HH3 := Lib.hid h3
  have H2h := Lib.hid h2h;have H2n := Lib.hid h2n;have H2d := Lib.hid h2d
  have H4h := Lib.hid h4h;have H4n := Lib.hid h4n
  have H5h := Lib.hid h5h;have H5n := Lib.hid h5n
  have H6h := Lib.hid h6h;have H6n := Lib.hid h6n
  have H7h := Lib.hid h7h;have H7n := Lib.hid h7n
  have K32 := Lib.hid H32;have K33 := Lib.hid H33;have K34 := Lib.hid H34;have K35 := Lib.hid H35;have K19 := Lib.hid H19
  have HPA := Lib.hid HPA
  clear hr h1 h3 h2h h2n h2d h4h h4n h5h h5n h6h h6n h7h h7n H32 H33 H34 H35 H19
  have hpI := Lib.hid hpl
  have CB0 : Hid ((w.alloc (.cells #[.int .i64 hosts,.slice pA pl pc,.int .i64 major,.slice wA wl wk,.slice vA vl vc,.slice qA ql qc] 28)).heap[w.heap.size]? = some (.cells #[.int .i64 hosts,.slice pA pl pc,.int .i64 major,.slice wA wl wk,.slice vA vl vc,.slice qA ql qc] 28)) := heap_alloc_new w _
  have BB0 : Hid (Below w.heap.size w (w.alloc (.cells #[.int .i64 hosts,.slice pA pl pc,.int .i64 major,.slice wA wl wk,.slice vA vl vc,.slice qA ql qc] 28))) := (Below.refl _ w).alloc (Nat.le_refl _) _
  go_enter Tryz.func21,Tryz.ntmps21
  go_upto_region 1 with (fail)
  have CB := CB0
  have BB := BB0
  clear CB0 BB0
  generalize w.alloc (.cells #[.int .i64 hosts,.slice pA pl pc,.int .i64 major,.slice wA wl wk,.slice vA vl vc,.slice qA ql qc] 28) = W0 at CB BB ⊢
  obtain ⟨c0,c1,c2,c3,c4,c5⟩ := cells_6 CB.out
  by_cases p1 : hosts < 1
  · have i1 : decide (hosts < 1) = true := decide_eq_true p1
    have HT : Hid (((1 : Int),(0 : Int),(1 : Int)) = (r1,r2,r3)) := by
      show _ = _
      rw [← HR.out,firstJ_hit jf 1 (by omega) (by omega) (fun i h1 h2 => by omega) (by rw [HH1.out,if_pos (Or.inl p1)];decide),HH1.out,if_pos (Or.inl p1)];rfl
    go_wp2
    go_returns
    have := HT.out
    injection this with g1 g2
    injection g2 with g2 g3
    subst g1;subst g2;subst g3
    exact ⟨rfl,BB.out⟩
  have i1 : decide (hosts < 1) = false := decide_eq_false p1
  by_cases p2 : 64 < hosts
  · have i2 : decide (64 < hosts) = true := decide_eq_true p2
    have HT : Hid (((1 : Int),(0 : Int),(1 : Int)) = (r1,r2,r3)) := by
      show _ = _
      rw [← HR.out,firstJ_hit jf 1 (by omega) (by omega) (fun i h1 h2 => by omega) (by rw [HH1.out,if_pos (Or.inr p2)];decide),HH1.out,if_pos (Or.inr p2)];rfl
    go_wp2
    go_returns
    have := HT.out
    injection this with g1 g2
    injection g2 with g2 g3
    subst g1;subst g2;subst g3
    exact ⟨rfl,BB.out⟩
  have i2 : decide (64 < hosts) = false := decide_eq_false p2
  have P1 : Hid ((jf 1).2 = 0) := by
    show _ = _
    rw [HH1.out,if_neg (by omega)]
  have P11 : Hid (∀ i,1 ≤ i → i < 2 → (jf i).2 = 0) := fun i h1 h2 => by
    have e : i = 1 := by omega
    rw [e];exact P1.out
  go_upto_region 4 with (fail)
  clear i1 i2 c0 c1 c2 c3 c4 c5
  go_loopw [5] (fun v5 wr => ∃ k : Nat,k ≤ pl ∧ v5 = .int .i64 k ∧ Hid (∀ q,q < k → J2 q = 0) ∧ wr.heap[w.heap.size]? = some (.cells #[.int .i64 hosts,.slice pA pl pc,.int .i64 major,.slice wA wl wk,.slice vA vl vc,.slice qA ql qc] 28) ∧ Below w.heap.size w wr) (fun v5 _ => pl - (intOf v5).toNat)
  case atStart => exact ⟨0,Nat.zero_le _,rfl,fun q hq => by omega,CB.out,BB.out⟩
  case round =>
    obtain ⟨k,hk,rfl,hp,hC,hB⟩ := hrel
    have CB2 := Lib.hid hC;have BB2 := Lib.hid hB
    clear hC hB CB BB
    have CB := CB2
    have BB := BB2
    clear CB2 BB2
    obtain ⟨c0,c1,c2,c3,c4,c5⟩ := cells_6 CB.out
    by_cases hkm : k < pl
    · have e1 : decide ((k : Int) < (pl : Int)) = true := decide_eq_true (by omega)
      have e1' : decide (k < pl) = true := decide_eq_true hkm
      have hkl : k < parts.length := by rw [hpI.out];exact hkm
      obtain ⟨tb,tf,rfl,hbt,hct⟩ := HPA.out.get hkl
      have hct2 := Lib.hid ((BB.out.cell hbt).trans hct)
      have hlt2 : Hid (tb < wr.heap.size) := Nat.lt_of_lt_of_le hbt BB.out.size
      have hd := H2d.out k hkl
      have HP := Lib.hid (K32.out parts[k])
      clear hct
      generalize parts[k] = z at hct2 hd HP
      go_upto_region 6 with (fail)
      clear e1 e1' c0 c1 c2 c3 c4 c5
      by_cases h64 : 64 ≤ k
      · have hJ : J2 k = 1 := by rw [hd,if_pos (Or.inl h64)]
        have HT : Hid (((2 : Int),(k : Int),(1 : Int)) = (r1,r2,r3)) := by
          show _ = _
          have hh := H2h.out k hkm hp.out (by rw [hJ];decide)
          rw [← HR.out,firstJ_hit jf 2 (by omega) (by omega) P11.out (by rw [hh,hJ];exact (by decide : (1 : Int) ≠ 0)),hh,hJ];rfl
        refine rcheck6_many CB (z := z) (R := true) rfl h64 (fun _ _ _ _ _ h => h) ?_
        intro wc hwc z28 z29 z30 z31 z32 z33 z34 z35 z36 z37 z38
        have BC := Lib.hid (BB.out.trans (hwc.mono BB.out.size))
        go_wp2
        go_returns
        have := HT.out
        injection this with g1 g2
        injection g2 with g2 g3
        subst g1;subst g2;subst g3
        exact ⟨rfl,BC.out⟩
      · cases hz : PitotConf.isHost hosts z
        · rw [hz] at HP
          have hJ : J2 k = 1 := by rw [hd,if_pos (Or.inr hz)]
          have HT : Hid (((2 : Int),(k : Int),(1 : Int)) = (r1,r2,r3)) := by
            show _ = _
            have hh := H2h.out k hkm hp.out (by rw [hJ];decide)
            rw [← HR.out,firstJ_hit jf 2 (by omega) (by omega) P11.out (by rw [hh,hJ];exact (by decide : (1 : Int) ≠ 0)),hh,hJ];rfl
          refine rcheck6_few CB (P := false) (R := true) rfl (by omega) hkm hct2 hlt2 HP (fun _ _ _ _ _ h => h) ?_
          intro wc hwc z28 z29 z30 z31 z32 z33 z34 z35 z36 z37 z38
          have BC := Lib.hid (BB.out.trans (hwc.mono BB.out.size))
          go_wp2
          go_returns
          have := HT.out
          injection this with g1 g2
          injection g2 with g2 g3
          subst g1;subst g2;subst g3
          exact ⟨rfl,BC.out⟩
        · rw [hz] at HP
          have hJ : J2 k = 0 := by rw [hd,if_neg (by rw [hz];simp;omega)]
          refine rcheck6_few CB (P := true) (R := false) rfl (by omega) hkm hct2 hlt2 HP (fun _ _ _ _ _ h => h) ?_
          intro wc hwc z28 z29 z30 z31 z32 z33 z34 z35 z36 z37 z38
          have BC := Lib.hid (BB.out.trans (hwc.mono BB.out.size))
          have CC := Lib.hid (lies_below CB.out hwc (lies_lt CB.out))
          have hpn : Hid (∀ q,q < k + 1 → J2 q = 0) := fun q hq => by
            by_cases e : q = k
            · rw [e];exact hJ
            · exact hp.out q (by omega)
          clear hwc
          go_wp2
          go_roundw
          case rel => exact ⟨k + 1,by omega,by go_num,hpn,CC.out,BC.out⟩
          case measure => simp [intOf];omega
    · have e1 : decide ((k : Int) < (pl : Int)) = false := decide_eq_false (by omega)
      have e1' : decide (k < pl) = false := decide_eq_false hkm
      have P2 : Hid ((jf 2).2 = 0) := H2n.out fun q hq => hp.out q (by omega)
      have P12 : Hid (∀ i,1 ≤ i → i < 3 → (jf i).2 = 0) := fun i h1 h2 => by
        have : i = 1 ∨ i = 2 := by omega
        rcases this with rfl | rfl
        · exact P1.out
        · exact P2.out
      clear P1 P2 H2h H2n H2d K32 HPA hp
      by_cases p3 : major < 1
      · have i1 : decide (major < 1) = true := decide_eq_true p3
        have HT : Hid (((3 : Int),(0 : Int),(1 : Int)) = (r1,r2,r3)) := by
          show _ = _
          rw [← HR.out,firstJ_hit jf 3 (by omega) (by omega) P12.out (by rw [HH3.out,if_pos (Or.inl p3)];decide),HH3.out,if_pos (Or.inl p3)];rfl
        go_wp2
        go_returns
        have := HT.out
        injection this with g1 g2
        injection g2 with g2 g3
        subst g1;subst g2;subst g3
        exact ⟨rfl,BB.out⟩
      have i1 : decide (major < 1) = false := decide_eq_false p3
      by_cases p4 : 1073741824 < major
      · have i2 : decide (1073741824 < major) = true := decide_eq_true p4
        have HT : Hid (((3 : Int),(0 : Int),(1 : Int)) = (r1,r2,r3)) := by
          show _ = _
          rw [← HR.out,firstJ_hit jf 3 (by omega) (by omega) P12.out (by rw [HH3.out,if_pos (Or.inr p4)];decide),HH3.out,if_pos (Or.inr p4)];rfl
        go_wp2
        go_returns
        have := HT.out
        injection this with g1 g2
        injection g2 with g2 g3
        subst g1;subst g2;subst g3
        exact ⟨rfl,BB.out⟩
      have i2 : decide (1073741824 < major) = false := decide_eq_false p4
      have PP3 : Hid (∀ i,1 ≤ i → i < 4 → (jf i).2 = 0) := fun i h1 h2 => by
        by_cases e : i = 3
        · subst e;rw [HH3.out,if_neg (by omega)]
        · exact P12.out i h1 (by omega)
      have hhr1 : 1 ≤ hosts := by omega
      have hhr2 : hosts ≤ 64 := by omega
      clear P12 HH1 HH3 p1 p2 p3 p4
      go_upto_region 11 with (fail)
      clear c0 c1 c2 c3 c4 c5
      go_loopw [6] (fun v wr => ∃ k : Nat,k ≤ wl ∧ v = .int .i64 k ∧ Hid (∀ q,q < k → J4 q = 0) ∧ wr.heap[w.heap.size]? = some (.cells #[.int .i64 hosts,.slice pA pl pc,.int .i64 major,.slice wA wl wk,.slice vA vl vc,.slice qA ql qc] 28) ∧ Below w.heap.size w wr) (fun v _ => wl - (intOf v).toNat)
      case atStart => exact ⟨0,Nat.zero_le _,rfl,fun q hq => by omega,CB.out,BB.out⟩
      case round =>
        obtain ⟨k4,hk,rfl,hp,hC,hB⟩ := hrel
        have CB2 := Lib.hid hC;have BB2 := Lib.hid hB
        clear hC hB CB BB
        have CB := CB2
        have BB := BB2
        clear CB2 BB2
        obtain ⟨c0,c1,c2,c3,c4,c5⟩ := cells_6 CB.out
        by_cases hkm : k4 < wl
        · have e1 : decide ((k4 : Int) < (wl : Int)) = true := decide_eq_true (by omega)
          have e1' : decide (k4 < wl) = true := decide_eq_true hkm
          have HCL := Lib.hid (K33.out PP3.out k4 hkm hp.out _ BB.out)
          obtain ⟨E,hE⟩ : ∃ E,J4 k4 = E := ⟨_,rfl⟩
          rw [hE] at HCL
          by_cases g : E = 0
          · have g1 : (E == 0) = true := by rw [g];rfl
            have hpn : Hid (∀ q,q < k4 + 1 → J4 q = 0) := fun q hq => by
              by_cases e : q = k4
              · rw [e,hE];exact g
              · exact hp.out q (by omega)
            clear g hE
            go_wp2_with (go_at_call 55;(with_reducible refine (HCL.out).mono ?_);rintro e w2 ⟨rfl,hb2⟩;(have C2 := Lib.hid (lies_below CB.out hb2 (lies_lt CB.out)));(have B2 := Lib.hid (BB.out.trans (hb2.mono BB.out.size))))
            go_roundw
            case rel => exact ⟨k4 + 1,by omega,by go_num,hpn,C2.out,B2.out⟩
            case measure => simp [intOf];omega
          · have g1 : (E == 0) = false := by simpa using g
            have HT : Hid (((4 : Int),(k4 : Int),E) = (r1,r2,r3)) := by
              show _ = _
              have hh := H4h.out k4 hkm hp.out (by rw [hE];exact g)
              rw [← HR.out,firstJ_hit jf 4 (by omega) (by omega) PP3.out (by rw [hh,hE];exact g),hh,hE];rfl
            clear g hE
            go_wp2_with (go_at_call 55;(with_reducible refine (HCL.out).mono ?_);rintro e w2 ⟨rfl,hb2⟩)
            have B2 := Lib.hid (BB.out.trans (hb2.mono BB.out.size))
            go_returns
            have := HT.out
            injection this with g1 g2
            injection g2 with g2 g3
            subst g1;subst g2;subst g3
            exact ⟨rfl,B2.out⟩
        · have e1 : decide ((k4 : Int) < (wl : Int)) = false := decide_eq_false (by omega)
          have e1' : decide (k4 < wl) = false := decide_eq_false hkm
          have PP4 : Hid (∀ i,1 ≤ i → i < 5 → (jf i).2 = 0) := fun i h1 h2 => by
            by_cases e : i = 4
            · subst e;exact H4n.out fun q hq => hp.out q (by omega)
            · exact PP3.out i h1 (by omega)
          clear PP3 K33 H4h H4n hp
          go_upto_region 17 with (fail)
          clear c0 c1 c2 c3 c4 c5
          go_loopw [8] (fun v wr => ∃ k : Nat,k ≤ vl ∧ v = .int .i64 k ∧ Hid (∀ q,q < k → J5 q = 0) ∧ wr.heap[w.heap.size]? = some (.cells #[.int .i64 hosts,.slice pA pl pc,.int .i64 major,.slice wA wl wk,.slice vA vl vc,.slice qA ql qc] 28) ∧ Below w.heap.size w wr) (fun v _ => vl - (intOf v).toNat)
          case atStart => exact ⟨0,Nat.zero_le _,rfl,fun q hq => by omega,CB.out,BB.out⟩
          case round =>
            obtain ⟨k5,hk,rfl,hp,hC,hB⟩ := hrel
            have CB2 := Lib.hid hC;have BB2 := Lib.hid hB
            clear hC hB CB BB
            have CB := CB2
            have BB := BB2
            clear CB2 BB2
            obtain ⟨c0,c1,c2,c3,c4,c5⟩ := cells_6 CB.out
            by_cases hkm : k5 < vl
            · have e1 : decide ((k5 : Int) < (vl : Int)) = true := decide_eq_true (by omega)
              have e1' : decide (k5 < vl) = true := decide_eq_true hkm
              have HCL := Lib.hid (K34.out PP4.out k5 hkm hp.out _ BB.out)
              obtain ⟨E,hE⟩ : ∃ E,J5 k5 = E := ⟨_,rfl⟩
              rw [hE] at HCL
              by_cases g : E = 0
              · have g1 : (E == 0) = true := by rw [g];rfl
                have hpn : Hid (∀ q,q < k5 + 1 → J5 q = 0) := fun q hq => by
                  by_cases e : q = k5
                  · rw [e,hE];exact g
                  · exact hp.out q (by omega)
                clear g hE
                go_wp2_with (go_at_call 56;(with_reducible refine (HCL.out).mono ?_);rintro e w2 ⟨rfl,hb2⟩;(have C2 := Lib.hid (lies_below CB.out hb2 (lies_lt CB.out)));(have B2 := Lib.hid (BB.out.trans (hb2.mono BB.out.size))))
                go_roundw
                case rel => exact ⟨k5 + 1,by omega,by go_num,hpn,C2.out,B2.out⟩
                case measure => simp [intOf];omega
              · have g1 : (E == 0) = false := by simpa using g
                have HT : Hid (((5 : Int),(k5 : Int),E) = (r1,r2,r3)) := by
                  show _ = _
                  have hh := H5h.out k5 hkm hp.out (by rw [hE];exact g)
                  rw [← HR.out,firstJ_hit jf 5 (by omega) (by omega) PP4.out (by rw [hh,hE];exact g),hh,hE];rfl
                clear g hE
                go_wp2_with (go_at_call 56;(with_reducible refine (HCL.out).mono ?_);rintro e w2 ⟨rfl,hb2⟩)
                have B2 := Lib.hid (BB.out.trans (hb2.mono BB.out.size))
                go_returns
                have := HT.out
                injection this with g1 g2
                injection g2 with g2 g3
                subst g1;subst g2;subst g3
                exact ⟨rfl,B2.out⟩
            · have e1 : decide ((k5 : Int) < (vl : Int)) = false := decide_eq_false (by omega)
              have e1' : decide (k5 < vl) = false := decide_eq_false hkm
              have PP5 : Hid (∀ i,1 ≤ i → i < 6 → (jf i).2 = 0) := fun i h1 h2 => by
                by_cases e : i = 5
                · subst e;exact H5n.out fun q hq => hp.out q (by omega)
                · exact PP4.out i h1 (by omega)
              clear PP4 K34 H5h H5n hp
              go_upto_region 23 with (fail)
              clear c0 c1 c2 c3 c4 c5
              go_loopw [10] (fun v wr => ∃ k : Nat,k ≤ ql ∧ v = .int .i64 k ∧ Hid (∀ q,q < k → J6 q = 0) ∧ wr.heap[w.heap.size]? = some (.cells #[.int .i64 hosts,.slice pA pl pc,.int .i64 major,.slice wA wl wk,.slice vA vl vc,.slice qA ql qc] 28) ∧ Below w.heap.size w wr) (fun v _ => ql - (intOf v).toNat)
              case atStart => exact ⟨0,Nat.zero_le _,rfl,fun q hq => by omega,CB.out,BB.out⟩
              case round =>
                obtain ⟨k6,hk,rfl,hp,hC,hB⟩ := hrel
                have CB2 := Lib.hid hC;have BB2 := Lib.hid hB
                clear hC hB CB BB
                have CB := CB2
                have BB := BB2
                clear CB2 BB2
                obtain ⟨c0,c1,c2,c3,c4,c5⟩ := cells_6 CB.out
                by_cases hkm : k6 < ql
                · have e1 : decide ((k6 : Int) < (ql : Int)) = true := decide_eq_true (by omega)
                  have e1' : decide (k6 < ql) = true := decide_eq_true hkm
                  have HCL := Lib.hid (K35.out PP5.out k6 hkm hp.out _ BB.out)
                  obtain ⟨E,hE⟩ : ∃ E,J6 k6 = E := ⟨_,rfl⟩
                  rw [hE] at HCL
                  by_cases g : E = 0
                  · have g1 : (E == 0) = true := by rw [g];rfl
                    have hpn : Hid (∀ q,q < k6 + 1 → J6 q = 0) := fun q hq => by
                      by_cases e : q = k6
                      · rw [e,hE];exact g
                      · exact hp.out q (by omega)
                    clear g hE
                    go_wp2_with (go_at_call 57;(with_reducible refine (HCL.out).mono ?_);rintro e w2 ⟨rfl,hb2⟩;(have C2 := Lib.hid (lies_below CB.out hb2 (lies_lt CB.out)));(have B2 := Lib.hid (BB.out.trans (hb2.mono BB.out.size))))
                    go_roundw
                    case rel => exact ⟨k6 + 1,by omega,by go_num,hpn,C2.out,B2.out⟩
                    case measure => simp [intOf];omega
                  · have g1 : (E == 0) = false := by simpa using g
                    have HT : Hid (((6 : Int),(k6 : Int),E) = (r1,r2,r3)) := by
                      show _ = _
                      have hh := H6h.out k6 hkm hp.out (by rw [hE];exact g)
                      rw [← HR.out,firstJ_hit jf 6 (by omega) (by omega) PP5.out (by rw [hh,hE];exact g),hh,hE];rfl
                    clear g hE
                    go_wp2_with (go_at_call 57;(with_reducible refine (HCL.out).mono ?_);rintro e w2 ⟨rfl,hb2⟩)
                    have B2 := Lib.hid (BB.out.trans (hb2.mono BB.out.size))
                    go_returns
                    have := HT.out
                    injection this with g1 g2
                    injection g2 with g2 g3
                    subst g1;subst g2;subst g3
                    exact ⟨rfl,B2.out⟩
                · have e1 : decide ((k6 : Int) < (ql : Int)) = false := decide_eq_false (by omega)
                  have e1' : decide (k6 < ql) = false := decide_eq_false hkm
                  have PP6 : Hid (∀ i,1 ≤ i → i < 7 → (jf i).2 = 0) := fun i h1 h2 => by
                    by_cases e : i = 6
                    · subst e;exact H6n.out fun q hq => hp.out q (by omega)
                    · exact PP5.out i h1 (by omega)
                  clear PP5 K35 H6h H6n hp
                  go_upto_region 29 with (fail)
                  clear c0 c1 c2 c3 c4 c5
                  go_loopw [12] (fun v wr => ∃ k : Nat,k ≤ hosts.toNat ∧ v = .int .i64 k ∧ Hid (∀ q : Nat,q < k → JT q ≤ 6250) ∧ wr.heap[w.heap.size]? = some (.cells #[.int .i64 hosts,.slice pA pl pc,.int .i64 major,.slice wA wl wk,.slice vA vl vc,.slice qA ql qc] 28) ∧ Below w.heap.size w wr) (fun v _ => hosts.toNat - (intOf v).toNat)
                  case atStart => exact ⟨0,Nat.zero_le _,rfl,fun q hq => by omega,CB.out,BB.out⟩
                  case round =>
                    obtain ⟨k,hk,rfl,hp,hC,hB⟩ := hrel
                    have CB2 := Lib.hid hC;have BB2 := Lib.hid hB
                    clear hC hB CB BB
                    have CB := CB2
                    have BB := BB2
                    clear CB2 BB2
                    obtain ⟨c0,c1,c2,c3,c4,c5⟩ := cells_6 CB.out
                    by_cases hkm : (k : Int) < hosts
                    · have e1 : decide ((k : Int) < hosts) = true := decide_eq_true hkm
                      have HCL := Lib.hid (K19.out PP6.out k _ BB.out)
                      obtain ⟨E,hE⟩ : ∃ E,JT k = E := ⟨_,rfl⟩
                      rw [hE] at HCL
                      by_cases g : 6250 < E
                      · have g1 : decide (6250 < E) = true := decide_eq_true g
                        have HT : Hid (((7 : Int),(k : Int),(26 : Int)) = (r1,r2,r3)) := by
                          show _ = _
                          have hh := H7h.out k hkm hp.out (by rw [hE];exact g)
                          rw [← HR.out,firstJ_hit jf 7 (by omega) (by omega) PP6.out (by rw [hh];exact (by decide : (26 : Int) ≠ 0)),hh];rfl
                        clear g hE
                        go_wp2_with (go_at_call 58;(with_reducible refine (HCL.out).mono ?_);rintro e w2 ⟨rfl,hb2⟩)
                        have B2 := Lib.hid (BB.out.trans (hb2.mono BB.out.size))
                        go_returns
                        have := HT.out
                        injection this with g1 g2
                        injection g2 with g2 g3
                        subst g1;subst g2;subst g3
                        exact ⟨rfl,B2.out⟩
                      · have g1 : decide (6250 < E) = false := decide_eq_false g
                        have hpn : Hid (∀ q : Nat,q < k + 1 → JT q ≤ 6250) := fun q hq => by
                          by_cases e : q = k
                          · rw [e,hE];omega
                          · exact hp.out q (by omega)
                        clear g hE
                        go_wp2_with (go_at_call 58;(with_reducible refine (HCL.out).mono ?_);rintro e w2 ⟨rfl,hb2⟩;(have C2 := Lib.hid (lies_below CB.out hb2 (lies_lt CB.out)));(have B2 := Lib.hid (BB.out.trans (hb2.mono BB.out.size))))
                        go_roundw
                        case rel => exact ⟨k + 1,by omega,by go_num,hpn,C2.out,B2.out⟩
                        case measure => simp [intOf];omega
                    · have e1 : decide ((k : Int) < hosts) = false := decide_eq_false hkm
                      have HT : Hid (((0 : Int),(0 : Int),(0 : Int)) = (r1,r2,r3)) := by
                        show _ = _
                        rw [← HR.out,firstJ_none jf fun i h1 h2 => ?_]
                        by_cases e : i = 7
                        · subst e;exact H7n.out fun q hq => hp.out q (by omega)
                        · exact PP6.out i h1 (by omega)
                      go_wp2
                      go_returns
                      have := HT.out
                      injection this with g1 g2
                      injection g2 with g2 g3
                      subst g1;subst g2;subst g3
                      exact ⟨rfl,BB.out⟩
end Go.Proofs.YtdgkanamceeheaaGreat
