/- The document's link: its regions that draw (trial). -/
import Derived.Test.YtdgkanamceeheaaGreatK14
import Derived.Test.YtdgkanamceeheaaGreatK0
set_option linter.unusedVariables false
set_option maxRecDepth 100000
namespace Go.Proofs.YtdgkanamceeheaaGreat
open Go.RowKit
set_option maxHeartbeats 4000000 in
theorem link4_zero {W : World} {cb xb i n : Nat} {b off : Nat} {vc pc wk qc : Nat} {hosts major : Int} {pA wA qA : Option Addr} {parts : List Int} {wins : List Wn} {ports : List Px} {tl : Nat} {x : Vx} (HC : Hid (W.heap[cb]? = some (.cells #[.int .i64 hosts,.slice pA parts.length pc,.int .i64 major,.slice wA wins.length wk,.slice (some ⟨b,off,none⟩) n vc,.slice qA ports.length qc] 28))) (HX : Hid (W.heap[xb]? = some (.cells #[.int .i64 x.id,.int .i64 x.host,.int .i64 x.bag,.int .i64 x.smax,.bool x.high,.int .i64 x.subs,.int .i64 x.skew,.slice x.toA tl x.toc] 60))) {R : Bool} (hR : R = false) (hi0 : decide (0 < (i : Int)) = false) (hi0' : decide (0 < i) = false) {u0 u3 u4 u6 u7 u8 u9 aa ac ae af ag ah ai aj ak am ao ap aq ar au av aw ax ay aA aB aC aD aE aF aG aH aI aJ aK aL aM aN aO aP aQ aR aS aT aU aV aW aX aY aZ ba bb bc bd bf bg bi bj bm bo br bs bt bu bw bz bA bB bC bD bE bF bG bH bI bJ bK bL bM bN bO bP bQ bR bS bT bU bV bW bX bY bZ cg ci cj ck cq cr ct cu cv cw cy cz cE cF cG cH cI cJ cK cM cN cO cP cQ cR cS cT cU cV cW cX cY cZ da dg di dj dk dq : Value} {Q : Exit → Act → World → Prop} (HPN : ∀ (p : List PanicEntry) (a : Act) (dd : Nat) (vv : Value) (w : World),Q (.panic p) (a.put (some dd) vv) w → Q (.panic p) a w) (hQ : ∀ (wc : World),Below W.heap.size W wc → ∀ x78 x79 x80 x81 x82 x83 x84 x85 x86 x87 x88 x89 x90 : Value,Q .normal ⟨#[u0,(.int .i64 i),(.pointer (some ⟨cb,0,none⟩)),u3,u4,(.pointer (some ⟨xb,0,none⟩)),u6,u7,u8,u9,aa,ac,ae,af,ag,ah,ai,aj,ak,am,ao,ap,aq,ar,au,av,aw,ax,ay,aA,aB,aC,aD,aE,aF,aG,aH,aI,aJ,aK,aL,aM,aN,aO,aP,aQ,aR,aS,aT,aU,aV,aW,aX,aY,aZ,ba,bb,bc,bd,bf,bg,bi,bj,bm,bo,br,bs,bt,bu,bw,bz,bA,bB,bC,bD,bE,bF,bG,x78,x79,x80,x81,x82,x83,x84,x85,x86,x87,x88,x89,x90,(.bool R),bV,bW,bX,bY,bZ,cg,ci,cj,ck,cq,cr,ct,cu,cv,cw,cy,cz,cE,cF,cG,cH,cI,cJ,cK,cM,cN,cO,cP,cQ,cR,cS,cT,cU,cV,cW,cX,cY,cZ,da,dg,di,dj,dk,dq],[]⟩ wc) :
    Code.wp Tryz.prog (Code.region 4 #[⟨some 78,.move (.tmp 1),3,"ref.go:70",#[],none⟩,⟨some 79,.binOp .gtr 3 (.tmp 78) (.const (.int .i64 0)) 3,4,"ref.go:70",#[⟨0,.data⟩],none⟩,⟨some 80,.move (.tmp 79),4,"ref.go:70",#[⟨1,.data⟩],none⟩,⟨some 81,.fieldAddr 28 (.tmp 2) 4,0,"ref.go:70",#[⟨2,.guard⟩],some (2,true)⟩,⟨some 82,.load 25 (.tmp 81),25,"ref.go:70",#[⟨3,.data⟩,⟨2,.guard⟩],some (2,true)⟩,⟨some 83,.move (.tmp 1),3,"ref.go:70",#[⟨2,.guard⟩],some (2,true)⟩,⟨some 84,.binOp .sub 3 (.tmp 83) (.const (.int .i64 1)) 3,3,"ref.go:70",#[⟨5,.data⟩,⟨2,.guard⟩],some (2,true)⟩,⟨some 85,.indexAddr 25 (.tmp 82) (.tmp 84),0,"ref.go:70",#[⟨4,.data⟩,⟨6,.data⟩,⟨2,.guard⟩],some (2,true)⟩,⟨some 86,.fieldAddr 60 (.tmp 85) 0,0,"ref.go:70",#[⟨7,.data⟩,⟨2,.guard⟩],some (2,true)⟩,⟨some 87,.load 3 (.tmp 86),3,"ref.go:70",#[⟨8,.data⟩,⟨2,.guard⟩],some (2,true)⟩,⟨some 88,.fieldAddr 60 (.tmp 5) 0,0,"ref.go:70",#[⟨2,.guard⟩],some (2,true)⟩,⟨some 89,.load 3 (.tmp 88),3,"ref.go:70",#[⟨10,.data⟩,⟨2,.guard⟩],some (2,true)⟩,⟨some 90,.binOp .geq 3 (.tmp 87) (.tmp 89) 3,4,"ref.go:70",#[⟨9,.data⟩,⟨11,.data⟩,⟨2,.guard⟩],some (2,true)⟩,⟨some 91,.pick (.tmp 80) (.tmp 90) (.const (.bool false)),4,"ref.go:70",#[⟨2,.data⟩,⟨12,.data⟩],none⟩] true) Q ⟨#[u0,(.int .i64 i),(.pointer (some ⟨cb,0,none⟩)),u3,u4,(.pointer (some ⟨xb,0,none⟩)),u6,u7,u8,u9,aa,ac,ae,af,ag,ah,ai,aj,ak,am,ao,ap,aq,ar,au,av,aw,ax,ay,aA,aB,aC,aD,aE,aF,aG,aH,aI,aJ,aK,aL,aM,aN,aO,aP,aQ,aR,aS,aT,aU,aV,aW,aX,aY,aZ,ba,bb,bc,bd,bf,bg,bi,bj,bm,bo,br,bs,bt,bu,bw,bz,bA,bB,bC,bD,bE,bF,bG,bH,bI,bJ,bK,bL,bM,bN,bO,bP,bQ,bR,bS,bT,bU,bV,bW,bX,bY,bZ,cg,ci,cj,ck,cq,cr,ct,cu,cv,cw,cy,cz,cE,cF,cG,cH,cI,cJ,cK,cM,cN,cO,cP,cQ,cR,cS,cT,cU,cV,cW,cX,cY,cZ,da,dg,di,dj,dk,dq],[]⟩ W := by
  subst hR
  refine wp_region_held_drew (S := fun w' => Below W.heap.size W w') (by kernel_rfl) ?_ (fun hHeld => ?_)
  · exact (Below.refl _ W).drew
  refine tN 0 ?_ rfl (by kernel_rfl) rfl (by intro w;go_simp<;>with_reducible rfl) HPN hHeld
  try simp only [Act.put,yA,yB,yC]
  refine tN 1 ?_ rfl (by kernel_rfl) rfl (by intro w;go_simp<;>with_reducible rfl) HPN hHeld
  try simp only [Act.put,yA,yB,yC]
  refine tN 2 ?_ rfl (by kernel_rfl) rfl (by intro w;go_simp<;>with_reducible rfl) HPN hHeld
  try simp only [Act.put,yA,yB,yC]
  refine tU 3 ?_ rfl (by kernel_rfl) rfl HPN hHeld
  try simp only [Act.put,yA,yB,yC]
  refine tU 4 ?_ rfl (by kernel_rfl) rfl HPN hHeld
  try simp only [Act.put,yA,yB,yC]
  refine tU 5 ?_ rfl (by kernel_rfl) rfl HPN hHeld
  try simp only [Act.put,yA,yB,yC]
  refine tU 6 ?_ rfl (by kernel_rfl) rfl HPN hHeld
  try simp only [Act.put,yA,yB,yC]
  refine tU 7 ?_ rfl (by kernel_rfl) rfl HPN hHeld
  try simp only [Act.put,yA,yB,yC]
  refine tU 8 ?_ rfl (by kernel_rfl) rfl HPN hHeld
  try simp only [Act.put,yA,yB,yC]
  refine tU 9 ?_ rfl (by kernel_rfl) rfl HPN hHeld
  try simp only [Act.put,yA,yB,yC]
  refine tU 10 ?_ rfl (by kernel_rfl) rfl HPN hHeld
  try simp only [Act.put,yA,yB,yC]
  refine tU 11 ?_ rfl (by kernel_rfl) rfl HPN hHeld
  try simp only [Act.put,yA,yB,yC]
  refine tU 12 ?_ rfl (by kernel_rfl) rfl HPN hHeld
  try simp only [Act.put,yA,yB,yC]
  refine tN 13 ?_ rfl (by kernel_rfl) rfl (by intro w;go_simp<;>with_reducible rfl) HPN hHeld
  try simp only [Act.put,yA,yB,yC]
  refine wpAnyH_done (by kernel_rfl) ?_ _
  clear hHeld
  exact hQ _ ((Below.refl _ W).drew) _ _ _ _ _ _ _ _ _ _ _ _ _
set_option maxHeartbeats 4000000 in
theorem link4_pos {W : World} {cb xb i n : Nat} {b off : Nat} {vc pc wk qc : Nat} {hosts major : Int} {pA wA qA : Option Addr} {parts : List Int} {wins : List Wn} {ports : List Px} {tl : Nat} {x : Vx} {j : Nat} {uid : Int} (HC : Hid (W.heap[cb]? = some (.cells #[.int .i64 hosts,.slice pA parts.length pc,.int .i64 major,.slice wA wins.length wk,.slice (some ⟨b,off,none⟩) n vc,.slice qA ports.length qc] 28))) (HX : Hid (W.heap[xb]? = some (.cells #[.int .i64 x.id,.int .i64 x.host,.int .i64 x.bag,.int .i64 x.smax,.bool x.high,.int .i64 x.subs,.int .i64 x.skew,.slice x.toA tl x.toc] 60))) (HY : Hid (W.cell? ⟨b,off + j * 8,none⟩ = some (.int .i64 uid))) (HLB : Hid (b < W.heap.size)) {R : Bool} (hR : decide (x.id ≤ uid) = R) (hi0 : decide (0 < (i : Int)) = true) (hi0' : decide (0 < i) = true) (hj : (i : Int) - 1 = (j : Int)) (hw1 : IntKind.i64.wrap (j : Int) = (j : Int)) (hjn : j < n) {u0 u3 u4 u6 u7 u8 u9 aa ac ae af ag ah ai aj ak am ao ap aq ar au av aw ax ay aA aB aC aD aE aF aG aH aI aJ aK aL aM aN aO aP aQ aR aS aT aU aV aW aX aY aZ ba bb bc bd bf bg bi bj bm bo br bs bt bu bw bz bA bB bC bD bE bF bG bH bI bJ bK bL bM bN bO bP bQ bR bS bT bU bV bW bX bY bZ cg ci cj ck cq cr ct cu cv cw cy cz cE cF cG cH cI cJ cK cM cN cO cP cQ cR cS cT cU cV cW cX cY cZ da dg di dj dk dq : Value} {Q : Exit → Act → World → Prop} (HPN : ∀ (p : List PanicEntry) (a : Act) (dd : Nat) (vv : Value) (w : World),Q (.panic p) (a.put (some dd) vv) w → Q (.panic p) a w) (hQ : ∀ (wc : World),Below W.heap.size W wc → ∀ x78 x79 x80 x81 x82 x83 x84 x85 x86 x87 x88 x89 x90 : Value,Q .normal ⟨#[u0,(.int .i64 i),(.pointer (some ⟨cb,0,none⟩)),u3,u4,(.pointer (some ⟨xb,0,none⟩)),u6,u7,u8,u9,aa,ac,ae,af,ag,ah,ai,aj,ak,am,ao,ap,aq,ar,au,av,aw,ax,ay,aA,aB,aC,aD,aE,aF,aG,aH,aI,aJ,aK,aL,aM,aN,aO,aP,aQ,aR,aS,aT,aU,aV,aW,aX,aY,aZ,ba,bb,bc,bd,bf,bg,bi,bj,bm,bo,br,bs,bt,bu,bw,bz,bA,bB,bC,bD,bE,bF,bG,x78,x79,x80,x81,x82,x83,x84,x85,x86,x87,x88,x89,x90,(.bool R),bV,bW,bX,bY,bZ,cg,ci,cj,ck,cq,cr,ct,cu,cv,cw,cy,cz,cE,cF,cG,cH,cI,cJ,cK,cM,cN,cO,cP,cQ,cR,cS,cT,cU,cV,cW,cX,cY,cZ,da,dg,di,dj,dk,dq],[]⟩ wc) :
    Code.wp Tryz.prog (Code.region 4 #[⟨some 78,.move (.tmp 1),3,"ref.go:70",#[],none⟩,⟨some 79,.binOp .gtr 3 (.tmp 78) (.const (.int .i64 0)) 3,4,"ref.go:70",#[⟨0,.data⟩],none⟩,⟨some 80,.move (.tmp 79),4,"ref.go:70",#[⟨1,.data⟩],none⟩,⟨some 81,.fieldAddr 28 (.tmp 2) 4,0,"ref.go:70",#[⟨2,.guard⟩],some (2,true)⟩,⟨some 82,.load 25 (.tmp 81),25,"ref.go:70",#[⟨3,.data⟩,⟨2,.guard⟩],some (2,true)⟩,⟨some 83,.move (.tmp 1),3,"ref.go:70",#[⟨2,.guard⟩],some (2,true)⟩,⟨some 84,.binOp .sub 3 (.tmp 83) (.const (.int .i64 1)) 3,3,"ref.go:70",#[⟨5,.data⟩,⟨2,.guard⟩],some (2,true)⟩,⟨some 85,.indexAddr 25 (.tmp 82) (.tmp 84),0,"ref.go:70",#[⟨4,.data⟩,⟨6,.data⟩,⟨2,.guard⟩],some (2,true)⟩,⟨some 86,.fieldAddr 60 (.tmp 85) 0,0,"ref.go:70",#[⟨7,.data⟩,⟨2,.guard⟩],some (2,true)⟩,⟨some 87,.load 3 (.tmp 86),3,"ref.go:70",#[⟨8,.data⟩,⟨2,.guard⟩],some (2,true)⟩,⟨some 88,.fieldAddr 60 (.tmp 5) 0,0,"ref.go:70",#[⟨2,.guard⟩],some (2,true)⟩,⟨some 89,.load 3 (.tmp 88),3,"ref.go:70",#[⟨10,.data⟩,⟨2,.guard⟩],some (2,true)⟩,⟨some 90,.binOp .geq 3 (.tmp 87) (.tmp 89) 3,4,"ref.go:70",#[⟨9,.data⟩,⟨11,.data⟩,⟨2,.guard⟩],some (2,true)⟩,⟨some 91,.pick (.tmp 80) (.tmp 90) (.const (.bool false)),4,"ref.go:70",#[⟨2,.data⟩,⟨12,.data⟩],none⟩] true) Q ⟨#[u0,(.int .i64 i),(.pointer (some ⟨cb,0,none⟩)),u3,u4,(.pointer (some ⟨xb,0,none⟩)),u6,u7,u8,u9,aa,ac,ae,af,ag,ah,ai,aj,ak,am,ao,ap,aq,ar,au,av,aw,ax,ay,aA,aB,aC,aD,aE,aF,aG,aH,aI,aJ,aK,aL,aM,aN,aO,aP,aQ,aR,aS,aT,aU,aV,aW,aX,aY,aZ,ba,bb,bc,bd,bf,bg,bi,bj,bm,bo,br,bs,bt,bu,bw,bz,bA,bB,bC,bD,bE,bF,bG,bH,bI,bJ,bK,bL,bM,bN,bO,bP,bQ,bR,bS,bT,bU,bV,bW,bX,bY,bZ,cg,ci,cj,ck,cq,cr,ct,cu,cv,cw,cy,cz,cE,cF,cG,cH,cI,cJ,cK,cM,cN,cO,cP,cQ,cR,cS,cT,cU,cV,cW,cX,cY,cZ,da,dg,di,dj,dk,dq],[]⟩ W := by
  have hjI : (j : Int) < (n : Int) := by omega
  have hj0 : 0 ≤ (j : Int) := by omega
  refine wp_region_held_drew (S := fun w' => Below W.heap.size W w') (by kernel_rfl) ?_ (fun hHeld => ?_)
  · exact (Below.refl _ W).drew
  refine tN 0 ?_ rfl (by kernel_rfl) rfl (by intro w;go_simp<;>with_reducible rfl) HPN hHeld
  try simp only [Act.put,yA,yB,yC]
  refine tN 1 ?_ rfl (by kernel_rfl) rfl (by intro w;go_simp<;>with_reducible rfl) HPN hHeld
  try simp only [Act.put,yA,yB,yC]
  refine tN 2 ?_ rfl (by kernel_rfl) rfl (by intro w;go_simp<;>with_reducible rfl) HPN hHeld
  try simp only [Act.put,yA,yB,yC]
  refine tN 3 ?_ rfl (by kernel_rfl) rfl (by intro w;go_simp<;>with_reducible rfl) HPN hHeld
  try simp only [Act.put,yA,yB,yC]
  refine tY 4 ?_ rfl (by kernel_rfl) rfl (by intro w hSw;(try dsimp only at hSw);obtain ⟨c0,c1,c2,c3,c4,c5⟩ := cells_6 (lies_below HC.out hSw (lies_lt HC.out));clear hSw;go_simp<;>with_reducible rfl) HPN hHeld
  try simp only [Act.put,yA,yB,yC]
  refine tN 5 ?_ rfl (by kernel_rfl) rfl (by intro w;go_simp<;>with_reducible rfl) HPN hHeld
  try simp only [Act.put,yA,yB,yC]
  refine tN 6 ?_ rfl (by kernel_rfl) rfl (by intro w;go_simp<;>with_reducible rfl) HPN hHeld
  try simp only [Act.put,yA,yB,yC]
  refine tN 7 ?_ rfl (by kernel_rfl) rfl (by intro w;go_simp<;>with_reducible rfl) HPN hHeld
  try simp only [Act.put,yA,yB,yC]
  refine tN 8 ?_ rfl (by kernel_rfl) rfl (by intro w;go_simp<;>with_reducible rfl) HPN hHeld
  try simp only [Act.put,yA,yB,yC]
  refine tY 9 ?_ rfl (by kernel_rfl) rfl (by intro w hSw;(try dsimp only at hSw);have hy := (hSw.cell (p := ⟨b,off + j * 8,none⟩) HLB.out).trans HY.out;clear hSw;go_simp<;>with_reducible rfl) HPN hHeld
  try simp only [Act.put,yA,yB,yC]
  refine tN 10 ?_ rfl (by kernel_rfl) rfl (by intro w;go_simp<;>with_reducible rfl) HPN hHeld
  try simp only [Act.put,yA,yB,yC]
  refine tY 11 ?_ rfl (by kernel_rfl) rfl (by intro w hSw;(try dsimp only at hSw);obtain ⟨x0,x1,x2,x3,x4,x5,x6,x7⟩ := cells_8 (lies_below HX.out hSw (lies_lt HX.out));clear hSw;go_simp<;>with_reducible rfl) HPN hHeld
  try simp only [Act.put,yA,yB,yC]
  refine tN 12 ?_ rfl (by kernel_rfl) rfl (by intro w;go_simp<;>with_reducible rfl) HPN hHeld
  try simp only [Act.put,yA,yB,yC]
  refine tN 13 ?_ rfl (by kernel_rfl) rfl (by intro w;go_simp<;>with_reducible rfl) HPN hHeld
  try simp only [Act.put,yA,yB,yC]
  refine wpAnyH_done (by kernel_rfl) ?_ _
  clear hHeld
  exact hQ _ ((Below.refl _ W).drew) _ _ _ _ _ _ _ _ _ _ _ _ _
set_option maxHeartbeats 4000000 in
theorem link9 {W : World} {cb xb i n : Nat} {b off : Nat} {vc pc wk qc : Nat} {hosts major : Int} {pA wA qA : Option Addr} {parts : List Int} {wins : List Wn} {ports : List Px} {tl : Nat} {x : Vx} {tb tf j k : Nat} {p q : Int} (HC : Hid (W.heap[cb]? = some (.cells #[.int .i64 hosts,.slice pA parts.length pc,.int .i64 major,.slice wA wins.length wk,.slice (some ⟨b,off,none⟩) n vc,.slice qA ports.length qc] 28))) (HX : Hid (W.heap[xb]? = some (.cells #[.int .i64 x.id,.int .i64 x.host,.int .i64 x.bag,.int .i64 x.smax,.bool x.high,.int .i64 x.subs,.int .i64 x.skew,.slice (some ⟨tb,tf,none⟩) tl x.toc] 60))) (H1 : Hid (W.cell? ⟨tb,tf + j,none⟩ = some (.int .i64 p))) (H2 : Hid (W.cell? ⟨tb,tf + k,none⟩ = some (.int .i64 q))) (HLT : Hid (tb < W.heap.size)) {R : Bool} (hR : decide (q ≤ p) = R) (hj : (k : Int) - 1 = (j : Int)) (hw1 : IntKind.i64.wrap (j : Int) = (j : Int)) (hjn : j < tl) (hkn : k < tl) {u0 u3 u4 u7 u8 u9 aa ac ae af ag ah ai aj ak am ao ap aq ar au av aw ax ay aA aB aC aD aE aF aG aH aI aJ aK aL aM aN aO aP aQ aR aS aT aU aV aW aX aY aZ ba bb bc bd bf bg bi bj bm bo br bs bt bu bw bz bA bB bC bD bE bF bG bH bI bJ bK bL bM bN bO bP bQ bR bS bT bU bV bW bX bY bZ cg ci cj ck cq cr ct cu cv cw cy cz cE cF cG cH cI cJ cK cM cN cO cP cQ cR cS cT cU cV cW cX cY cZ da dg di dj dk dq : Value} {Q : Exit → Act → World → Prop} (HPN : ∀ (p : List PanicEntry) (a : Act) (dd : Nat) (vv : Value) (w : World),Q (.panic p) (a.put (some dd) vv) w → Q (.panic p) a w) (hQ : ∀ (wc : World),Below W.heap.size W wc → ∀ x99 x100 x101 x102 x103 x104 x105 x106 x107 x108 x109 : Value,Q .normal ⟨#[u0,(.int .i64 i),(.pointer (some ⟨cb,0,none⟩)),u3,u4,(.pointer (some ⟨xb,0,none⟩)),(.int .i64 k),u7,u8,u9,aa,ac,ae,af,ag,ah,ai,aj,ak,am,ao,ap,aq,ar,au,av,aw,ax,ay,aA,aB,aC,aD,aE,aF,aG,aH,aI,aJ,aK,aL,aM,aN,aO,aP,aQ,aR,aS,aT,aU,aV,aW,aX,aY,aZ,ba,bb,bc,bd,bf,bg,bi,bj,bm,bo,br,bs,bt,bu,bw,bz,bA,bB,bC,bD,bE,bF,bG,bH,bI,bJ,bK,bL,bM,bN,bO,bP,bQ,bR,bS,bT,bU,bV,bW,bX,bY,bZ,cg,ci,x99,x100,x101,x102,x103,x104,x105,x106,x107,x108,x109,(.bool R),cG,cH,cI,cJ,cK,cM,cN,cO,cP,cQ,cR,cS,cT,cU,cV,cW,cX,cY,cZ,da,dg,di,dj,dk,dq],[]⟩ wc) :
    Code.wp Tryz.prog (Code.region 9 #[⟨some 99,.fieldAddr 60 (.tmp 5) 7,0,"ref.go:74",#[],none⟩,⟨some 100,.load 23 (.tmp 99),23,"ref.go:74",#[⟨0,.data⟩],none⟩,⟨some 101,.move (.tmp 6),3,"ref.go:74",#[],none⟩,⟨some 102,.binOp .sub 3 (.tmp 101) (.const (.int .i64 1)) 3,3,"ref.go:74",#[⟨2,.data⟩],none⟩,⟨some 103,.indexAddr 23 (.tmp 100) (.tmp 102),0,"ref.go:74",#[⟨1,.data⟩,⟨3,.data⟩],none⟩,⟨some 104,.load 3 (.tmp 103),3,"ref.go:74",#[⟨4,.data⟩],none⟩,⟨some 105,.fieldAddr 60 (.tmp 5) 7,0,"ref.go:74",#[],none⟩,⟨some 106,.load 23 (.tmp 105),23,"ref.go:74",#[⟨6,.data⟩],none⟩,⟨some 107,.move (.tmp 6),3,"ref.go:74",#[],none⟩,⟨some 108,.indexAddr 23 (.tmp 106) (.tmp 107),0,"ref.go:74",#[⟨7,.data⟩,⟨8,.data⟩],none⟩,⟨some 109,.load 3 (.tmp 108),3,"ref.go:74",#[⟨9,.data⟩],none⟩,⟨some 110,.binOp .geq 3 (.tmp 104) (.tmp 109) 3,4,"ref.go:74",#[⟨5,.data⟩,⟨10,.data⟩],none⟩] true) Q ⟨#[u0,(.int .i64 i),(.pointer (some ⟨cb,0,none⟩)),u3,u4,(.pointer (some ⟨xb,0,none⟩)),(.int .i64 k),u7,u8,u9,aa,ac,ae,af,ag,ah,ai,aj,ak,am,ao,ap,aq,ar,au,av,aw,ax,ay,aA,aB,aC,aD,aE,aF,aG,aH,aI,aJ,aK,aL,aM,aN,aO,aP,aQ,aR,aS,aT,aU,aV,aW,aX,aY,aZ,ba,bb,bc,bd,bf,bg,bi,bj,bm,bo,br,bs,bt,bu,bw,bz,bA,bB,bC,bD,bE,bF,bG,bH,bI,bJ,bK,bL,bM,bN,bO,bP,bQ,bR,bS,bT,bU,bV,bW,bX,bY,bZ,cg,ci,cj,ck,cq,cr,ct,cu,cv,cw,cy,cz,cE,cF,cG,cH,cI,cJ,cK,cM,cN,cO,cP,cQ,cR,cS,cT,cU,cV,cW,cX,cY,cZ,da,dg,di,dj,dk,dq],[]⟩ W := by
  have hjI : (j : Int) < (tl : Int) := by omega
  have hj0 : 0 ≤ (j : Int) := by omega
  have hkI : (k : Int) < (tl : Int) := by omega
  have hk0 : 0 ≤ (k : Int) := by omega
  refine wp_region_held_drew (S := fun w' => Below W.heap.size W w') (by kernel_rfl) ?_ (fun hHeld => ?_)
  · exact (Below.refl _ W).drew
  refine tN 0 ?_ rfl (by kernel_rfl) rfl (by intro w;go_simp<;>with_reducible rfl) HPN hHeld
  try simp only [Act.put,yA,yB,yC]
  refine tY 1 ?_ rfl (by kernel_rfl) rfl (by intro w hSw;(try dsimp only at hSw);obtain ⟨x0,x1,x2,x3,x4,x5,x6,x7⟩ := cells_8 (lies_below HX.out hSw (lies_lt HX.out));clear hSw;go_simp<;>with_reducible rfl) HPN hHeld
  try simp only [Act.put,yA,yB,yC]
  refine tN 2 ?_ rfl (by kernel_rfl) rfl (by intro w;go_simp<;>with_reducible rfl) HPN hHeld
  try simp only [Act.put,yA,yB,yC]
  refine tN 3 ?_ rfl (by kernel_rfl) rfl (by intro w;go_simp<;>with_reducible rfl) HPN hHeld
  try simp only [Act.put,yA,yB,yC]
  refine tN 4 ?_ rfl (by kernel_rfl) rfl (by intro w;go_simp<;>with_reducible rfl) HPN hHeld
  try simp only [Act.put,yA,yB,yC]
  refine tY 5 ?_ rfl (by kernel_rfl) rfl (by intro w hSw;(try dsimp only at hSw);have t1 := (hSw.cell (p := ⟨tb,tf + j,none⟩) HLT.out).trans H1.out;have t2 := (hSw.cell (p := ⟨tb,tf + k,none⟩) HLT.out).trans H2.out;clear hSw;go_simp<;>with_reducible rfl) HPN hHeld
  try simp only [Act.put,yA,yB,yC]
  refine tN 6 ?_ rfl (by kernel_rfl) rfl (by intro w;go_simp<;>with_reducible rfl) HPN hHeld
  try simp only [Act.put,yA,yB,yC]
  refine tY 7 ?_ rfl (by kernel_rfl) rfl (by intro w hSw;(try dsimp only at hSw);obtain ⟨x0,x1,x2,x3,x4,x5,x6,x7⟩ := cells_8 (lies_below HX.out hSw (lies_lt HX.out));clear hSw;go_simp<;>with_reducible rfl) HPN hHeld
  try simp only [Act.put,yA,yB,yC]
  refine tN 8 ?_ rfl (by kernel_rfl) rfl (by intro w;go_simp<;>with_reducible rfl) HPN hHeld
  try simp only [Act.put,yA,yB,yC]
  refine tN 9 ?_ rfl (by kernel_rfl) rfl (by intro w;go_simp<;>with_reducible rfl) HPN hHeld
  try simp only [Act.put,yA,yB,yC]
  refine tY 10 ?_ rfl (by kernel_rfl) rfl (by intro w hSw;(try dsimp only at hSw);have t1 := (hSw.cell (p := ⟨tb,tf + j,none⟩) HLT.out).trans H1.out;have t2 := (hSw.cell (p := ⟨tb,tf + k,none⟩) HLT.out).trans H2.out;clear hSw;go_simp<;>with_reducible rfl) HPN hHeld
  try simp only [Act.put,yA,yB,yC]
  refine tN 11 ?_ rfl (by kernel_rfl) rfl (by intro w;go_simp<;>with_reducible rfl) HPN hHeld
  try simp only [Act.put,yA,yB,yC]
  refine wpAnyH_done (by kernel_rfl) ?_ _
  clear hHeld
  exact hQ _ ((Below.refl _ W).drew) _ _ _ _ _ _ _ _ _ _ _
set_option maxHeartbeats 4000000 in
theorem link14_no {W : World} {cb xb i n : Nat} {b off : Nat} {vc pc wk qc : Nat} {hosts major : Int} {pA wA qA : Option Addr} {parts : List Int} {wins : List Wn} {ports : List Px} {tl : Nat} {x : Vx} {tb tf k : Nat} {q : Int} (HC : Hid (W.heap[cb]? = some (.cells #[.int .i64 hosts,.slice pA parts.length pc,.int .i64 major,.slice wA wins.length wk,.slice (some ⟨b,off,none⟩) n vc,.slice qA ports.length qc] 28))) (HX : Hid (W.heap[xb]? = some (.cells #[.int .i64 x.id,.int .i64 x.host,.int .i64 x.bag,.int .i64 x.smax,.bool x.high,.int .i64 x.subs,.int .i64 x.skew,.slice (some ⟨tb,tf,none⟩) tl x.toc] 60))) (H2 : Hid (W.cell? ⟨tb,tf + k,none⟩ = some (.int .i64 q))) (HLT : Hid (tb < W.heap.size)) (hkn : k < tl) (HP : Hid (∀ w,Calls Tryz.prog 54 #[.agg #[.int .i64 hosts,.slice pA parts.length pc,.int .i64 major,.slice wA wins.length wk,.slice (some ⟨b,off,none⟩) n vc,.slice qA ports.length qc],.int .i64 q] w fun e w' => e = .returned (.bool false) ∧ Below w.heap.size w w')) {R : Bool} (hR : R = true) {u0 u3 u4 u6 u8 u9 aa ac ae af ag ah ai aj ak am ao ap aq ar au av aw ax ay aA aB aC aD aE aF aG aH aI aJ aK aL aM aN aO aP aQ aR aS aT aU aV aW aX aY aZ ba bb bc bd bf bg bi bj bm bo br bs bt bu bw bz bA bB bC bD bE bF bG bH bI bJ bK bL bM bN bO bP bQ bR bS bT bU bV bW bX bY bZ cg ci cj ck cq cr ct cu cv cw cy cz cE cF cG cH cI cJ cK cM cN cO cP cQ cR cS cT cU cV cW cX cY cZ da dg di dj dk dq : Value} {Q : Exit → Act → World → Prop} (HPN : ∀ (p : List PanicEntry) (a : Act) (dd : Nat) (vv : Value) (w : World),Q (.panic p) (a.put (some dd) vv) w → Q (.panic p) a w) (hQ : ∀ (wc : World),Below W.heap.size W wc → ∀ x118 x119 x120 x121 x122 x123 x124 x125 x126 x127 x128 x129 x130 x131 x132 x133 x134 : Value,Q .normal ⟨#[u0,(.int .i64 i),(.pointer (some ⟨cb,0,none⟩)),u3,u4,(.pointer (some ⟨xb,0,none⟩)),u6,(.int .i64 k),u8,u9,aa,ac,ae,af,ag,ah,ai,aj,ak,am,ao,ap,aq,ar,au,av,aw,ax,ay,aA,aB,aC,aD,aE,aF,aG,aH,aI,aJ,aK,aL,aM,aN,aO,aP,aQ,aR,aS,aT,aU,aV,aW,aX,aY,aZ,ba,bb,bc,bd,bf,bg,bi,bj,bm,bo,br,bs,bt,bu,bw,bz,bA,bB,bC,bD,bE,bF,bG,bH,bI,bJ,bK,bL,bM,bN,bO,bP,bQ,bR,bS,bT,bU,bV,bW,bX,bY,bZ,cg,ci,cj,ck,cq,cr,ct,cu,cv,cw,cy,cz,cE,cF,cG,cH,cI,cJ,cK,cM,cN,x118,x119,x120,x121,x122,x123,x124,x125,x126,x127,x128,x129,x130,x131,x132,x133,x134,(.bool R)],[]⟩ wc) :
    Code.wp Tryz.prog (Code.region 14 #[⟨some 118,.load 28 (.tmp 2),28,"ref.go:79",#[],none⟩,⟨some 119,.fieldAddr 60 (.tmp 5) 7,0,"ref.go:79",#[],none⟩,⟨some 120,.load 23 (.tmp 119),23,"ref.go:79",#[⟨1,.data⟩],none⟩,⟨some 121,.move (.tmp 7),3,"ref.go:79",#[],none⟩,⟨some 122,.indexAddr 23 (.tmp 120) (.tmp 121),0,"ref.go:79",#[⟨2,.data⟩,⟨3,.data⟩],none⟩,⟨some 123,.load 3 (.tmp 122),3,"ref.go:79",#[⟨4,.data⟩],none⟩,⟨some 124,.call ⟨.value (.func 54),#[.tmp 118,.tmp 123],#[28,3]⟩,4,"ref.go:79",#[⟨0,.data⟩,⟨5,.data⟩],none⟩,⟨some 125,.unOp .not 4 (.tmp 124),4,"ref.go:79",#[⟨6,.data⟩],none⟩,⟨some 126,.move (.tmp 125),4,"ref.go:79",#[⟨7,.data⟩,⟨6,.chain⟩],none⟩,⟨some 127,.fieldAddr 60 (.tmp 5) 7,0,"ref.go:79",#[⟨8,.guard⟩],some (8,false)⟩,⟨some 128,.load 23 (.tmp 127),23,"ref.go:79",#[⟨9,.data⟩,⟨8,.guard⟩],some (8,false)⟩,⟨some 129,.move (.tmp 7),3,"ref.go:79",#[⟨8,.guard⟩],some (8,false)⟩,⟨some 130,.indexAddr 23 (.tmp 128) (.tmp 129),0,"ref.go:79",#[⟨10,.data⟩,⟨11,.data⟩,⟨8,.guard⟩],some (8,false)⟩,⟨some 131,.load 3 (.tmp 130),3,"ref.go:79",#[⟨12,.data⟩,⟨8,.guard⟩],some (8,false)⟩,⟨some 132,.fieldAddr 60 (.tmp 5) 1,0,"ref.go:79",#[⟨8,.guard⟩],some (8,false)⟩,⟨some 133,.load 3 (.tmp 132),3,"ref.go:79",#[⟨14,.data⟩,⟨8,.guard⟩],some (8,false)⟩,⟨some 134,.binOp .eql 3 (.tmp 131) (.tmp 133) 3,4,"ref.go:79",#[⟨13,.data⟩,⟨15,.data⟩,⟨8,.guard⟩],some (8,false)⟩,⟨some 135,.pick (.tmp 126) (.const (.bool true)) (.tmp 134),4,"ref.go:79",#[⟨8,.data⟩,⟨16,.data⟩],none⟩] true) Q ⟨#[u0,(.int .i64 i),(.pointer (some ⟨cb,0,none⟩)),u3,u4,(.pointer (some ⟨xb,0,none⟩)),u6,(.int .i64 k),u8,u9,aa,ac,ae,af,ag,ah,ai,aj,ak,am,ao,ap,aq,ar,au,av,aw,ax,ay,aA,aB,aC,aD,aE,aF,aG,aH,aI,aJ,aK,aL,aM,aN,aO,aP,aQ,aR,aS,aT,aU,aV,aW,aX,aY,aZ,ba,bb,bc,bd,bf,bg,bi,bj,bm,bo,br,bs,bt,bu,bw,bz,bA,bB,bC,bD,bE,bF,bG,bH,bI,bJ,bK,bL,bM,bN,bO,bP,bQ,bR,bS,bT,bU,bV,bW,bX,bY,bZ,cg,ci,cj,ck,cq,cr,ct,cu,cv,cw,cy,cz,cE,cF,cG,cH,cI,cJ,cK,cM,cN,cO,cP,cQ,cR,cS,cT,cU,cV,cW,cX,cY,cZ,da,dg,di,dj,dk,dq],[]⟩ W := by
  have hkI : (k : Int) < (tl : Int) := by omega
  have hk0 : 0 ≤ (k : Int) := by omega
  subst hR
  refine wp_region_held_drew (S := fun w' => Below W.heap.size W w') (by kernel_rfl) ?_ (fun hHeld => ?_)
  · exact (Below.refl _ W).drew
  refine tY 0 ?_ rfl (by kernel_rfl) rfl (by intro w hSw;(try dsimp only at hSw);obtain ⟨c0,c1,c2,c3,c4,c5⟩ := cells_6 (lies_below HC.out hSw (lies_lt HC.out));clear hSw;go_simp<;>with_reducible rfl) HPN hHeld
  try simp only [Act.put,yA,yB,yC]
  refine tN 1 ?_ rfl (by kernel_rfl) rfl (by intro w;go_simp<;>with_reducible rfl) HPN hHeld
  try simp only [Act.put,yA,yB,yC]
  refine tY 2 ?_ rfl (by kernel_rfl) rfl (by intro w hSw;(try dsimp only at hSw);obtain ⟨x0,x1,x2,x3,x4,x5,x6,x7⟩ := cells_8 (lies_below HX.out hSw (lies_lt HX.out));clear hSw;go_simp<;>with_reducible rfl) HPN hHeld
  try simp only [Act.put,yA,yB,yC]
  refine tN 3 ?_ rfl (by kernel_rfl) rfl (by intro w;go_simp<;>with_reducible rfl) HPN hHeld
  try simp only [Act.put,yA,yB,yC]
  refine tN 4 ?_ rfl (by kernel_rfl) rfl (by intro w;go_simp<;>with_reducible rfl) HPN hHeld
  try simp only [Act.put,yA,yB,yC]
  refine tY 5 ?_ rfl (by kernel_rfl) rfl (by intro w hSw;(try dsimp only at hSw);have t2 := (hSw.cell (p := ⟨tb,tf + k,none⟩) HLT.out).trans H2.out;clear hSw;go_simp<;>with_reducible rfl) HPN hHeld
  try simp only [Act.put,yA,yB,yC]
  refine rY 6 [] ?_ (by kernel_rfl)
  refine rC rfl (fun K hK => ?_) AllReadyH.nil
  go_simp
  (go_at_call 54;(with_reducible refine (HP.out _).mono ?_);rintro e Va ⟨rfl,hb⟩;go_wp2_with fail)
  have B1 : Hid (Below W.heap.size W Va) := ((Below.refl _ W).drew).trans hb
  clear hb
  refine hK.out _ _ ?_ (fun hHeld => ?_)
  · exact B1.out
  clear hK K
  try simp only [Act.put,yA,yB,yC]
  refine tN 7 ?_ rfl (by kernel_rfl) rfl (by intro w;go_simp<;>with_reducible rfl) HPN hHeld
  try simp only [Act.put,yA,yB,yC]
  refine tN 8 ?_ rfl (by kernel_rfl) rfl (by intro w;go_simp<;>with_reducible rfl) HPN hHeld
  try simp only [Act.put,yA,yB,yC]
  refine tU 9 ?_ rfl (by kernel_rfl) rfl HPN hHeld
  try simp only [Act.put,yA,yB,yC]
  refine tU 10 ?_ rfl (by kernel_rfl) rfl HPN hHeld
  try simp only [Act.put,yA,yB,yC]
  refine tU 11 ?_ rfl (by kernel_rfl) rfl HPN hHeld
  try simp only [Act.put,yA,yB,yC]
  refine tU 12 ?_ rfl (by kernel_rfl) rfl HPN hHeld
  try simp only [Act.put,yA,yB,yC]
  refine tU 13 ?_ rfl (by kernel_rfl) rfl HPN hHeld
  try simp only [Act.put,yA,yB,yC]
  refine tU 14 ?_ rfl (by kernel_rfl) rfl HPN hHeld
  try simp only [Act.put,yA,yB,yC]
  refine tU 15 ?_ rfl (by kernel_rfl) rfl HPN hHeld
  try simp only [Act.put,yA,yB,yC]
  refine tU 16 ?_ rfl (by kernel_rfl) rfl HPN hHeld
  try simp only [Act.put,yA,yB,yC]
  refine tN 17 ?_ rfl (by kernel_rfl) rfl (by intro w;go_simp<;>with_reducible rfl) HPN hHeld
  try simp only [Act.put,yA,yB,yC]
  refine wpAnyH_done (by kernel_rfl) ?_ _
  clear hHeld
  exact hQ _ B1.out _ _ _ _ _ _ _ _ _ _ _ _ _ _ _ _ _
set_option maxHeartbeats 4000000 in
theorem link14_yes {W : World} {cb xb i n : Nat} {b off : Nat} {vc pc wk qc : Nat} {hosts major : Int} {pA wA qA : Option Addr} {parts : List Int} {wins : List Wn} {ports : List Px} {tl : Nat} {x : Vx} {tb tf k : Nat} {q : Int} (HC : Hid (W.heap[cb]? = some (.cells #[.int .i64 hosts,.slice pA parts.length pc,.int .i64 major,.slice wA wins.length wk,.slice (some ⟨b,off,none⟩) n vc,.slice qA ports.length qc] 28))) (HX : Hid (W.heap[xb]? = some (.cells #[.int .i64 x.id,.int .i64 x.host,.int .i64 x.bag,.int .i64 x.smax,.bool x.high,.int .i64 x.subs,.int .i64 x.skew,.slice (some ⟨tb,tf,none⟩) tl x.toc] 60))) (H2 : Hid (W.cell? ⟨tb,tf + k,none⟩ = some (.int .i64 q))) (HLT : Hid (tb < W.heap.size)) (hkn : k < tl) (HP : Hid (∀ w,Calls Tryz.prog 54 #[.agg #[.int .i64 hosts,.slice pA parts.length pc,.int .i64 major,.slice wA wins.length wk,.slice (some ⟨b,off,none⟩) n vc,.slice qA ports.length qc],.int .i64 q] w fun e w' => e = .returned (.bool true) ∧ Below w.heap.size w w')) {R : Bool} (hR : (q == x.host) = R) {u0 u3 u4 u6 u8 u9 aa ac ae af ag ah ai aj ak am ao ap aq ar au av aw ax ay aA aB aC aD aE aF aG aH aI aJ aK aL aM aN aO aP aQ aR aS aT aU aV aW aX aY aZ ba bb bc bd bf bg bi bj bm bo br bs bt bu bw bz bA bB bC bD bE bF bG bH bI bJ bK bL bM bN bO bP bQ bR bS bT bU bV bW bX bY bZ cg ci cj ck cq cr ct cu cv cw cy cz cE cF cG cH cI cJ cK cM cN cO cP cQ cR cS cT cU cV cW cX cY cZ da dg di dj dk dq : Value} {Q : Exit → Act → World → Prop} (HPN : ∀ (p : List PanicEntry) (a : Act) (dd : Nat) (vv : Value) (w : World),Q (.panic p) (a.put (some dd) vv) w → Q (.panic p) a w) (hQ : ∀ (wc : World),Below W.heap.size W wc → ∀ x118 x119 x120 x121 x122 x123 x124 x125 x126 x127 x128 x129 x130 x131 x132 x133 x134 : Value,Q .normal ⟨#[u0,(.int .i64 i),(.pointer (some ⟨cb,0,none⟩)),u3,u4,(.pointer (some ⟨xb,0,none⟩)),u6,(.int .i64 k),u8,u9,aa,ac,ae,af,ag,ah,ai,aj,ak,am,ao,ap,aq,ar,au,av,aw,ax,ay,aA,aB,aC,aD,aE,aF,aG,aH,aI,aJ,aK,aL,aM,aN,aO,aP,aQ,aR,aS,aT,aU,aV,aW,aX,aY,aZ,ba,bb,bc,bd,bf,bg,bi,bj,bm,bo,br,bs,bt,bu,bw,bz,bA,bB,bC,bD,bE,bF,bG,bH,bI,bJ,bK,bL,bM,bN,bO,bP,bQ,bR,bS,bT,bU,bV,bW,bX,bY,bZ,cg,ci,cj,ck,cq,cr,ct,cu,cv,cw,cy,cz,cE,cF,cG,cH,cI,cJ,cK,cM,cN,x118,x119,x120,x121,x122,x123,x124,x125,x126,x127,x128,x129,x130,x131,x132,x133,x134,(.bool R)],[]⟩ wc) :
    Code.wp Tryz.prog (Code.region 14 #[⟨some 118,.load 28 (.tmp 2),28,"ref.go:79",#[],none⟩,⟨some 119,.fieldAddr 60 (.tmp 5) 7,0,"ref.go:79",#[],none⟩,⟨some 120,.load 23 (.tmp 119),23,"ref.go:79",#[⟨1,.data⟩],none⟩,⟨some 121,.move (.tmp 7),3,"ref.go:79",#[],none⟩,⟨some 122,.indexAddr 23 (.tmp 120) (.tmp 121),0,"ref.go:79",#[⟨2,.data⟩,⟨3,.data⟩],none⟩,⟨some 123,.load 3 (.tmp 122),3,"ref.go:79",#[⟨4,.data⟩],none⟩,⟨some 124,.call ⟨.value (.func 54),#[.tmp 118,.tmp 123],#[28,3]⟩,4,"ref.go:79",#[⟨0,.data⟩,⟨5,.data⟩],none⟩,⟨some 125,.unOp .not 4 (.tmp 124),4,"ref.go:79",#[⟨6,.data⟩],none⟩,⟨some 126,.move (.tmp 125),4,"ref.go:79",#[⟨7,.data⟩,⟨6,.chain⟩],none⟩,⟨some 127,.fieldAddr 60 (.tmp 5) 7,0,"ref.go:79",#[⟨8,.guard⟩],some (8,false)⟩,⟨some 128,.load 23 (.tmp 127),23,"ref.go:79",#[⟨9,.data⟩,⟨8,.guard⟩],some (8,false)⟩,⟨some 129,.move (.tmp 7),3,"ref.go:79",#[⟨8,.guard⟩],some (8,false)⟩,⟨some 130,.indexAddr 23 (.tmp 128) (.tmp 129),0,"ref.go:79",#[⟨10,.data⟩,⟨11,.data⟩,⟨8,.guard⟩],some (8,false)⟩,⟨some 131,.load 3 (.tmp 130),3,"ref.go:79",#[⟨12,.data⟩,⟨8,.guard⟩],some (8,false)⟩,⟨some 132,.fieldAddr 60 (.tmp 5) 1,0,"ref.go:79",#[⟨8,.guard⟩],some (8,false)⟩,⟨some 133,.load 3 (.tmp 132),3,"ref.go:79",#[⟨14,.data⟩,⟨8,.guard⟩],some (8,false)⟩,⟨some 134,.binOp .eql 3 (.tmp 131) (.tmp 133) 3,4,"ref.go:79",#[⟨13,.data⟩,⟨15,.data⟩,⟨8,.guard⟩],some (8,false)⟩,⟨some 135,.pick (.tmp 126) (.const (.bool true)) (.tmp 134),4,"ref.go:79",#[⟨8,.data⟩,⟨16,.data⟩],none⟩] true) Q ⟨#[u0,(.int .i64 i),(.pointer (some ⟨cb,0,none⟩)),u3,u4,(.pointer (some ⟨xb,0,none⟩)),u6,(.int .i64 k),u8,u9,aa,ac,ae,af,ag,ah,ai,aj,ak,am,ao,ap,aq,ar,au,av,aw,ax,ay,aA,aB,aC,aD,aE,aF,aG,aH,aI,aJ,aK,aL,aM,aN,aO,aP,aQ,aR,aS,aT,aU,aV,aW,aX,aY,aZ,ba,bb,bc,bd,bf,bg,bi,bj,bm,bo,br,bs,bt,bu,bw,bz,bA,bB,bC,bD,bE,bF,bG,bH,bI,bJ,bK,bL,bM,bN,bO,bP,bQ,bR,bS,bT,bU,bV,bW,bX,bY,bZ,cg,ci,cj,ck,cq,cr,ct,cu,cv,cw,cy,cz,cE,cF,cG,cH,cI,cJ,cK,cM,cN,cO,cP,cQ,cR,cS,cT,cU,cV,cW,cX,cY,cZ,da,dg,di,dj,dk,dq],[]⟩ W := by
  have hkI : (k : Int) < (tl : Int) := by omega
  have hk0 : 0 ≤ (k : Int) := by omega
  refine wp_region_held_drew (S := fun w' => Below W.heap.size W w') (by kernel_rfl) ?_ (fun hHeld => ?_)
  · exact (Below.refl _ W).drew
  refine tY 0 ?_ rfl (by kernel_rfl) rfl (by intro w hSw;(try dsimp only at hSw);obtain ⟨c0,c1,c2,c3,c4,c5⟩ := cells_6 (lies_below HC.out hSw (lies_lt HC.out));clear hSw;go_simp<;>with_reducible rfl) HPN hHeld
  try simp only [Act.put,yA,yB,yC]
  refine tN 1 ?_ rfl (by kernel_rfl) rfl (by intro w;go_simp<;>with_reducible rfl) HPN hHeld
  try simp only [Act.put,yA,yB,yC]
  refine tY 2 ?_ rfl (by kernel_rfl) rfl (by intro w hSw;(try dsimp only at hSw);obtain ⟨x0,x1,x2,x3,x4,x5,x6,x7⟩ := cells_8 (lies_below HX.out hSw (lies_lt HX.out));clear hSw;go_simp<;>with_reducible rfl) HPN hHeld
  try simp only [Act.put,yA,yB,yC]
  refine tN 3 ?_ rfl (by kernel_rfl) rfl (by intro w;go_simp<;>with_reducible rfl) HPN hHeld
  try simp only [Act.put,yA,yB,yC]
  refine tN 4 ?_ rfl (by kernel_rfl) rfl (by intro w;go_simp<;>with_reducible rfl) HPN hHeld
  try simp only [Act.put,yA,yB,yC]
  refine tY 5 ?_ rfl (by kernel_rfl) rfl (by intro w hSw;(try dsimp only at hSw);have t2 := (hSw.cell (p := ⟨tb,tf + k,none⟩) HLT.out).trans H2.out;clear hSw;go_simp<;>with_reducible rfl) HPN hHeld
  try simp only [Act.put,yA,yB,yC]
  refine rY 6 [] ?_ (by kernel_rfl)
  refine rC rfl (fun K hK => ?_) AllReadyH.nil
  go_simp
  (go_at_call 54;(with_reducible refine (HP.out _).mono ?_);rintro e Va ⟨rfl,hb⟩;go_wp2_with fail)
  have B1 : Hid (Below W.heap.size W Va) := ((Below.refl _ W).drew).trans hb
  clear hb
  refine hK.out _ _ ?_ (fun hHeld => ?_)
  · exact B1.out
  clear hK K
  try simp only [Act.put,yA,yB,yC]
  refine tN 7 ?_ rfl (by kernel_rfl) rfl (by intro w;go_simp<;>with_reducible rfl) HPN hHeld
  try simp only [Act.put,yA,yB,yC]
  refine tN 8 ?_ rfl (by kernel_rfl) rfl (by intro w;go_simp<;>with_reducible rfl) HPN hHeld
  try simp only [Act.put,yA,yB,yC]
  refine tN 9 ?_ rfl (by kernel_rfl) rfl (by intro w;go_simp<;>with_reducible rfl) HPN hHeld
  try simp only [Act.put,yA,yB,yC]
  refine tY 10 ?_ rfl (by kernel_rfl) rfl (by intro w hSw;(try dsimp only at hSw);obtain ⟨x0,x1,x2,x3,x4,x5,x6,x7⟩ := cells_8 (lies_below HX.out hSw (lies_lt HX.out));clear hSw;go_simp<;>with_reducible rfl) HPN hHeld
  try simp only [Act.put,yA,yB,yC]
  refine tN 11 ?_ rfl (by kernel_rfl) rfl (by intro w;go_simp<;>with_reducible rfl) HPN hHeld
  try simp only [Act.put,yA,yB,yC]
  refine tN 12 ?_ rfl (by kernel_rfl) rfl (by intro w;go_simp<;>with_reducible rfl) HPN hHeld
  try simp only [Act.put,yA,yB,yC]
  refine tY 13 ?_ rfl (by kernel_rfl) rfl (by intro w hSw;(try dsimp only at hSw);have t2 := (hSw.cell (p := ⟨tb,tf + k,none⟩) HLT.out).trans H2.out;clear hSw;go_simp<;>with_reducible rfl) HPN hHeld
  try simp only [Act.put,yA,yB,yC]
  refine tN 14 ?_ rfl (by kernel_rfl) rfl (by intro w;go_simp<;>with_reducible rfl) HPN hHeld
  try simp only [Act.put,yA,yB,yC]
  refine tY 15 ?_ rfl (by kernel_rfl) rfl (by intro w hSw;(try dsimp only at hSw);obtain ⟨x0,x1,x2,x3,x4,x5,x6,x7⟩ := cells_8 (lies_below HX.out hSw (lies_lt HX.out));clear hSw;go_simp<;>with_reducible rfl) HPN hHeld
  try simp only [Act.put,yA,yB,yC]
  refine tN 16 ?_ rfl (by kernel_rfl) rfl (by intro w;go_simp<;>with_reducible rfl) HPN hHeld
  try simp only [Act.put,yA,yB,yC]
  refine tN 17 ?_ rfl (by kernel_rfl) rfl (by intro w;go_simp<;>with_reducible rfl) HPN hHeld
  try simp only [Act.put,yA,yB,yC]
  refine wpAnyH_done (by kernel_rfl) ?_ _
  clear hHeld
  exact hQ _ B1.out _ _ _ _ _ _ _ _ _ _ _ _ _ _ _ _ _
end Go.Proofs.YtdgkanamceeheaaGreat
