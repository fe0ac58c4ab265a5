/- The document's port: its regions. The document's port: its regions. -/
import Derived.Test.YtdgkanamceeheaaGreatK22
import Derived.Test.YtdgkanamceeheaaGreatK13
import Derived.Test.YtdgkanamceeheaaGreatK0
import Derived.Deep.RegionHeld3
set_option linter.unusedVariables false
set_option maxRecDepth 100000
namespace Go.Proofs.YtdgkanamceeheaaGreat
open Go.RowKit
set_option maxHeartbeats 4000000 in
theorem rport4_zero {W : World} {cb xb i b off : Nat} {hosts major : Int} {pA wA vA : Option Addr} {pl pc wl wk vl vc ql qc : Nat} {qid qhost qpart qkind qvl qsub qudp qsize qdepth qfresh : Int} {qout : Bool} (HC : Hid (W.heap[cb]? = some (.cells #[.int .i64 hosts,.slice pA pl pc,.int .i64 major,.slice wA wl wk,.slice vA vl vc,.slice (some ⟨b,off,none⟩) ql qc] 28))) (HP : Hid (W.heap[xb]? = some (.cells #[.int .i64 qid,.int .i64 qhost,.int .i64 qpart,.int .i64 qkind,.bool qout,.int .i64 qvl,.int .i64 qsub,.int .i64 qudp,.int .i64 qsize,.int .i64 qdepth,.int .i64 qfresh] 62))) {R : Bool} (hR : R = false) (hi : i = 0) {u0 u3 u4 u6 u7 u8 u9 aa ac ae af ag ah ai aj ak am ao ap aq ar au av aw ax ay aA aB aC aD aE aF aG aH aI aJ aK aL aM aN aO aP aQ aR aS aT aU aV aW aX aY aZ ba bb bc bd bf bg bi bj bm bo br bs bt bu bw bz bA bB bC bD bE bF bG bH bI bJ bK bL bM bN bO bP bQ bR bS bT bU bV bW bX bY bZ cg ci cj ck cq cr ct cu cv cw cy cz cE cF cG cH cI cJ cK cM cN cO cP cQ cR cS cT cU cV cW cX cY cZ da dg di dj dk dq dt du dv dw dy dz dE dF dG dH dI dJ dK dM dN dO dP dQ dR dS dT dU dV dW dX dY dZ ed ee ef eg eh ei ej ek el em eo ep eq et eu ey ez eA eB eC eD eE eF eG eH eI eJ eK eL eM eN eO eP eQ eR eS eT eU eV eW eX eY eZ fa fb fc fd fe fg fh fi fj fk fm fn fo fp fq fs fu fv fw fx fy fz fA : Value} {Q : Exit → Act → World → Prop} (HPN : ∀ (p : List PanicEntry) (a : Act) (dd : Nat) (vv : Value) (w : World),Q (.panic p) (a.put (some dd) vv) w → Q (.panic p) a w) (hQ : ∀ (wc : World),Below W.heap.size W wc → ∀ x59 x60 x61 x62 x63 x64 x65 x66 x67 x68 x69 x70 x71 : Value,Q .normal ⟨#[u0,(.int .i64 i),(.pointer (some ⟨cb,0,none⟩)),u3,u4,(.pointer (some ⟨xb,0,none⟩)),u6,u7,u8,u9,aa,ac,ae,af,ag,ah,ai,aj,ak,am,ao,ap,aq,ar,au,av,aw,ax,ay,aA,aB,aC,aD,aE,aF,aG,aH,aI,aJ,aK,aL,aM,aN,aO,aP,aQ,aR,aS,aT,aU,aV,aW,aX,aY,aZ,ba,bb,bc,bd,x59,x60,x61,x62,x63,x64,x65,x66,x67,x68,x69,x70,x71,(.bool R),bC,bD,bE,bF,bG,bH,bI,bJ,bK,bL,bM,bN,bO,bP,bQ,bR,bS,bT,bU,bV,bW,bX,bY,bZ,cg,ci,cj,ck,cq,cr,ct,cu,cv,cw,cy,cz,cE,cF,cG,cH,cI,cJ,cK,cM,cN,cO,cP,cQ,cR,cS,cT,cU,cV,cW,cX,cY,cZ,da,dg,di,dj,dk,dq,dt,du,dv,dw,dy,dz,dE,dF,dG,dH,dI,dJ,dK,dM,dN,dO,dP,dQ,dR,dS,dT,dU,dV,dW,dX,dY,dZ,ed,ee,ef,eg,eh,ei,ej,ek,el,em,eo,ep,eq,et,eu,ey,ez,eA,eB,eC,eD,eE,eF,eG,eH,eI,eJ,eK,eL,eM,eN,eO,eP,eQ,eR,eS,eT,eU,eV,eW,eX,eY,eZ,fa,fb,fc,fd,fe,fg,fh,fi,fj,fk,fm,fn,fo,fp,fq,fs,fu,fv,fw,fx,fy,fz,fA],[]⟩ wc) :
    Code.wp Tryz.prog (Code.region 4 #[⟨some 59,.move (.tmp 1),3,"ref.go:102",#[],none⟩,⟨some 60,.binOp .gtr 3 (.tmp 59) (.const (.int .i64 0)) 3,4,"ref.go:102",#[⟨0,.data⟩],none⟩,⟨some 61,.move (.tmp 60),4,"ref.go:102",#[⟨1,.data⟩],none⟩,⟨some 62,.fieldAddr 28 (.tmp 2) 5,0,"ref.go:102",#[⟨2,.guard⟩],some (2,true)⟩,⟨some 63,.load 26 (.tmp 62),26,"ref.go:102",#[⟨3,.data⟩,⟨2,.guard⟩],some (2,true)⟩,⟨some 64,.move (.tmp 1),3,"ref.go:102",#[⟨2,.guard⟩],some (2,true)⟩,⟨some 65,.binOp .sub 3 (.tmp 64) (.const (.int .i64 1)) 3,3,"ref.go:102",#[⟨5,.data⟩,⟨2,.guard⟩],some (2,true)⟩,⟨some 66,.indexAddr 26 (.tmp 63) (.tmp 65),0,"ref.go:102",#[⟨4,.data⟩,⟨6,.data⟩,⟨2,.guard⟩],some (2,true)⟩,⟨some 67,.fieldAddr 62 (.tmp 66) 0,0,"ref.go:102",#[⟨7,.data⟩,⟨2,.guard⟩],some (2,true)⟩,⟨some 68,.load 3 (.tmp 67),3,"ref.go:102",#[⟨8,.data⟩,⟨2,.guard⟩],some (2,true)⟩,⟨some 69,.fieldAddr 62 (.tmp 5) 0,0,"ref.go:102",#[⟨2,.guard⟩],some (2,true)⟩,⟨some 70,.load 3 (.tmp 69),3,"ref.go:102",#[⟨10,.data⟩,⟨2,.guard⟩],some (2,true)⟩,⟨some 71,.binOp .geq 3 (.tmp 68) (.tmp 70) 3,4,"ref.go:102",#[⟨9,.data⟩,⟨11,.data⟩,⟨2,.guard⟩],some (2,true)⟩,⟨some 72,.pick (.tmp 61) (.tmp 71) (.const (.bool false)),4,"ref.go:102",#[⟨2,.data⟩,⟨12,.data⟩],none⟩] true) Q ⟨#[u0,(.int .i64 i),(.pointer (some ⟨cb,0,none⟩)),u3,u4,(.pointer (some ⟨xb,0,none⟩)),u6,u7,u8,u9,aa,ac,ae,af,ag,ah,ai,aj,ak,am,ao,ap,aq,ar,au,av,aw,ax,ay,aA,aB,aC,aD,aE,aF,aG,aH,aI,aJ,aK,aL,aM,aN,aO,aP,aQ,aR,aS,aT,aU,aV,aW,aX,aY,aZ,ba,bb,bc,bd,bf,bg,bi,bj,bm,bo,br,bs,bt,bu,bw,bz,bA,bB,bC,bD,bE,bF,bG,bH,bI,bJ,bK,bL,bM,bN,bO,bP,bQ,bR,bS,bT,bU,bV,bW,bX,bY,bZ,cg,ci,cj,ck,cq,cr,ct,cu,cv,cw,cy,cz,cE,cF,cG,cH,cI,cJ,cK,cM,cN,cO,cP,cQ,cR,cS,cT,cU,cV,cW,cX,cY,cZ,da,dg,di,dj,dk,dq,dt,du,dv,dw,dy,dz,dE,dF,dG,dH,dI,dJ,dK,dM,dN,dO,dP,dQ,dR,dS,dT,dU,dV,dW,dX,dY,dZ,ed,ee,ef,eg,eh,ei,ej,ek,el,em,eo,ep,eq,et,eu,ey,ez,eA,eB,eC,eD,eE,eF,eG,eH,eI,eJ,eK,eL,eM,eN,eO,eP,eQ,eR,eS,eT,eU,eV,eW,eX,eY,eZ,fa,fb,fc,fd,fe,fg,fh,fi,fj,fk,fm,fn,fo,fp,fq,fs,fu,fv,fw,fx,fy,fz,fA],[]⟩ W := by
  subst hR
  subst hi
  have i1 : decide (0 < ((0 : Nat) : Int)) = false := rfl
  have i2 : decide ((0 : Int) < 0) = false := rfl
  refine wp_region_held_drew (S := fun w' => Below W.heap.size W w') (by kernel_rfl) ?_ (fun hHeld => ?_)
  · exact (Below.refl _ W).drew
  refine tN 0 ?_ rfl (by kernel_rfl) rfl (by intro w;go_simp<;>with_reducible rfl) HPN hHeld
  try simp only [Act.put,yA,yB,yC]
  refine tN 1 ?_ rfl (by kernel_rfl) rfl (by intro w;go_simp<;>with_reducible rfl) HPN hHeld
  try simp only [Act.put,yA,yB,yC]
  refine tN 2 ?_ rfl (by kernel_rfl) rfl (by intro w;go_simp<;>with_reducible rfl) HPN hHeld
  try simp only [Act.put,yA,yB,yC]
  refine tU 3 ?_ rfl (by kernel_rfl) rfl HPN hHeld
  try simp only [Act.put,yA,yB,yC]
  refine tU 4 ?_ rfl (by kernel_rfl) rfl HPN hHeld
  try simp only [Act.put,yA,yB,yC]
  refine tU 5 ?_ rfl (by kernel_rfl) rfl HPN hHeld
  try simp only [Act.put,yA,yB,yC]
  refine tU 6 ?_ rfl (by kernel_rfl) rfl HPN hHeld
  try simp only [Act.put,yA,yB,yC]
  refine tU 7 ?_ rfl (by kernel_rfl) rfl HPN hHeld
  try simp only [Act.put,yA,yB,yC]
  refine tU 8 ?_ rfl (by kernel_rfl) rfl HPN hHeld
  try simp only [Act.put,yA,yB,yC]
  refine tU 9 ?_ rfl (by kernel_rfl) rfl HPN hHeld
  try simp only [Act.put,yA,yB,yC]
  refine tU 10 ?_ rfl (by kernel_rfl) rfl HPN hHeld
  try simp only [Act.put,yA,yB,yC]
  refine tU 11 ?_ rfl (by kernel_rfl) rfl HPN hHeld
  try simp only [Act.put,yA,yB,yC]
  refine tU 12 ?_ rfl (by kernel_rfl) rfl HPN hHeld
  try simp only [Act.put,yA,yB,yC]
  refine tN 13 ?_ rfl (by kernel_rfl) rfl (by intro w;go_simp<;>with_reducible rfl) HPN hHeld
  try simp only [Act.put,yA,yB,yC]
  refine wpAnyH_done (by kernel_rfl) ?_ _
  clear hHeld
  exact hQ _ ((Below.refl _ W).drew) _ _ _ _ _ _ _ _ _ _ _ _ _
set_option maxHeartbeats 4000000 in
theorem rport4_pos {W : World} {cb xb i b off : Nat} {hosts major : Int} {pA wA vA : Option Addr} {pl pc wl wk vl vc ql qc : Nat} {qid qhost qpart qkind qvl qsub qudp qsize qdepth qfresh : Int} {qout : Bool} (HC : Hid (W.heap[cb]? = some (.cells #[.int .i64 hosts,.slice pA pl pc,.int .i64 major,.slice wA wl wk,.slice vA vl vc,.slice (some ⟨b,off,none⟩) ql qc] 28))) (HP : Hid (W.heap[xb]? = some (.cells #[.int .i64 qid,.int .i64 qhost,.int .i64 qpart,.int .i64 qkind,.bool qout,.int .i64 qvl,.int .i64 qsub,.int .i64 qudp,.int .i64 qsize,.int .i64 qdepth,.int .i64 qfresh] 62))) {j : Nat} {uid : Int} (HY : Hid (W.cell? ⟨b,off + j * 11,none⟩ = some (.int .i64 uid))) (HLB : Hid (b < W.heap.size)) {R : Bool} (hR : decide (qid ≤ uid) = R) (hi : i = j + 1) (hjl : j < ql) (hi0 : decide (0 < (i : Int)) = true) (hi0' : decide (0 < i) = true) (hw : IntKind.i64.wrap ((i : Int) - 1) = (j : Int)) {u0 u3 u4 u6 u7 u8 u9 aa ac ae af ag ah ai aj ak am ao ap aq ar au av aw ax ay aA aB aC aD aE aF aG aH aI aJ aK aL aM aN aO aP aQ aR aS aT aU aV aW aX aY aZ ba bb bc bd bf bg bi bj bm bo br bs bt bu bw bz bA bB bC bD bE bF bG bH bI bJ bK bL bM bN bO bP bQ bR bS bT bU bV bW bX bY bZ cg ci cj ck cq cr ct cu cv cw cy cz cE cF cG cH cI cJ cK cM cN cO cP cQ cR cS cT cU cV cW cX cY cZ da dg di dj dk dq dt du dv dw dy dz dE dF dG dH dI dJ dK dM dN dO dP dQ dR dS dT dU dV dW dX dY dZ ed ee ef eg eh ei ej ek el em eo ep eq et eu ey ez eA eB eC eD eE eF eG eH eI eJ eK eL eM eN eO eP eQ eR eS eT eU eV eW eX eY eZ fa fb fc fd fe fg fh fi fj fk fm fn fo fp fq fs fu fv fw fx fy fz fA : Value} {Q : Exit → Act → World → Prop} (HPN : ∀ (p : List PanicEntry) (a : Act) (dd : Nat) (vv : Value) (w : World),Q (.panic p) (a.put (some dd) vv) w → Q (.panic p) a w) (hQ : ∀ (wc : World),Below W.heap.size W wc → ∀ x59 x60 x61 x62 x63 x64 x65 x66 x67 x68 x69 x70 x71 : Value,Q .normal ⟨#[u0,(.int .i64 i),(.pointer (some ⟨cb,0,none⟩)),u3,u4,(.pointer (some ⟨xb,0,none⟩)),u6,u7,u8,u9,aa,ac,ae,af,ag,ah,ai,aj,ak,am,ao,ap,aq,ar,au,av,aw,ax,ay,aA,aB,aC,aD,aE,aF,aG,aH,aI,aJ,aK,aL,aM,aN,aO,aP,aQ,aR,aS,aT,aU,aV,aW,aX,aY,aZ,ba,bb,bc,bd,x59,x60,x61,x62,x63,x64,x65,x66,x67,x68,x69,x70,x71,(.bool R),bC,bD,bE,bF,bG,bH,bI,bJ,bK,bL,bM,bN,bO,bP,bQ,bR,bS,bT,bU,bV,bW,bX,bY,bZ,cg,ci,cj,ck,cq,cr,ct,cu,cv,cw,cy,cz,cE,cF,cG,cH,cI,cJ,cK,cM,cN,cO,cP,cQ,cR,cS,cT,cU,cV,cW,cX,cY,cZ,da,dg,di,dj,dk,dq,dt,du,dv,dw,dy,dz,dE,dF,dG,dH,dI,dJ,dK,dM,dN,dO,dP,dQ,dR,dS,dT,dU,dV,dW,dX,dY,dZ,ed,ee,ef,eg,eh,ei,ej,ek,el,em,eo,ep,eq,et,eu,ey,ez,eA,eB,eC,eD,eE,eF,eG,eH,eI,eJ,eK,eL,eM,eN,eO,eP,eQ,eR,eS,eT,eU,eV,eW,eX,eY,eZ,fa,fb,fc,fd,fe,fg,fh,fi,fj,fk,fm,fn,fo,fp,fq,fs,fu,fv,fw,fx,fy,fz,fA],[]⟩ wc) :
    Code.wp Tryz.prog (Code.region 4 #[⟨some 59,.move (.tmp 1),3,"ref.go:102",#[],none⟩,⟨some 60,.binOp .gtr 3 (.tmp 59) (.const (.int .i64 0)) 3,4,"ref.go:102",#[⟨0,.data⟩],none⟩,⟨some 61,.move (.tmp 60),4,"ref.go:102",#[⟨1,.data⟩],none⟩,⟨some 62,.fieldAddr 28 (.tmp 2) 5,0,"ref.go:102",#[⟨2,.guard⟩],some (2,true)⟩,⟨some 63,.load 26 (.tmp 62),26,"ref.go:102",#[⟨3,.data⟩,⟨2,.guard⟩],some (2,true)⟩,⟨some 64,.move (.tmp 1),3,"ref.go:102",#[⟨2,.guard⟩],some (2,true)⟩,⟨some 65,.binOp .sub 3 (.tmp 64) (.const (.int .i64 1)) 3,3,"ref.go:102",#[⟨5,.data⟩,⟨2,.guard⟩],some (2,true)⟩,⟨some 66,.indexAddr 26 (.tmp 63) (.tmp 65),0,"ref.go:102",#[⟨4,.data⟩,⟨6,.data⟩,⟨2,.guard⟩],some (2,true)⟩,⟨some 67,.fieldAddr 62 (.tmp 66) 0,0,"ref.go:102",#[⟨7,.data⟩,⟨2,.guard⟩],some (2,true)⟩,⟨some 68,.load 3 (.tmp 67),3,"ref.go:102",#[⟨8,.data⟩,⟨2,.guard⟩],some (2,true)⟩,⟨some 69,.fieldAddr 62 (.tmp 5) 0,0,"ref.go:102",#[⟨2,.guard⟩],some (2,true)⟩,⟨some 70,.load 3 (.tmp 69),3,"ref.go:102",#[⟨10,.data⟩,⟨2,.guard⟩],some (2,true)⟩,⟨some 71,.binOp .geq 3 (.tmp 68) (.tmp 70) 3,4,"ref.go:102",#[⟨9,.data⟩,⟨11,.data⟩,⟨2,.guard⟩],some (2,true)⟩,⟨some 72,.pick (.tmp 61) (.tmp 71) (.const (.bool false)),4,"ref.go:102",#[⟨2,.data⟩,⟨12,.data⟩],none⟩] true) Q ⟨#[u0,(.int .i64 i),(.pointer (some ⟨cb,0,none⟩)),u3,u4,(.pointer (some ⟨xb,0,none⟩)),u6,u7,u8,u9,aa,ac,ae,af,ag,ah,ai,aj,ak,am,ao,ap,aq,ar,au,av,aw,ax,ay,aA,aB,aC,aD,aE,aF,aG,aH,aI,aJ,aK,aL,aM,aN,aO,aP,aQ,aR,aS,aT,aU,aV,aW,aX,aY,aZ,ba,bb,bc,bd,bf,bg,bi,bj,bm,bo,br,bs,bt,bu,bw,bz,bA,bB,bC,bD,bE,bF,bG,bH,bI,bJ,bK,bL,bM,bN,bO,bP,bQ,bR,bS,bT,bU,bV,bW,bX,bY,bZ,cg,ci,cj,ck,cq,cr,ct,cu,cv,cw,cy,cz,cE,cF,cG,cH,cI,cJ,cK,cM,cN,cO,cP,cQ,cR,cS,cT,cU,cV,cW,cX,cY,cZ,da,dg,di,dj,dk,dq,dt,du,dv,dw,dy,dz,dE,dF,dG,dH,dI,dJ,dK,dM,dN,dO,dP,dQ,dR,dS,dT,dU,dV,dW,dX,dY,dZ,ed,ee,ef,eg,eh,ei,ej,ek,el,em,eo,ep,eq,et,eu,ey,ez,eA,eB,eC,eD,eE,eF,eG,eH,eI,eJ,eK,eL,eM,eN,eO,eP,eQ,eR,eS,eT,eU,eV,eW,eX,eY,eZ,fa,fb,fc,fd,fe,fg,fh,fi,fj,fk,fm,fn,fo,fp,fq,fs,fu,fv,fw,fx,fy,fz,fA],[]⟩ W := by
  clear hi
  have hjI : (j : Int) < (ql : Int) := by omega
  have hj0 : 0 ≤ (j : Int) := by omega
  refine wp_region_held_drew (S := fun w' => Below W.heap.size W w') (by kernel_rfl) ?_ (fun hHeld => ?_)
  · exact (Below.refl _ W).drew
  refine tN 0 ?_ rfl (by kernel_rfl) rfl (by intro w;go_simp<;>with_reducible rfl) HPN hHeld
  try simp only [Act.put,yA,yB,yC]
  refine tN 1 ?_ rfl (by kernel_rfl) rfl (by intro w;go_simp<;>with_reducible rfl) HPN hHeld
  try simp only [Act.put,yA,yB,yC]
  refine tN 2 ?_ rfl (by kernel_rfl) rfl (by intro w;go_simp<;>with_reducible rfl) HPN hHeld
  try simp only [Act.put,yA,yB,yC]
  refine tN 3 ?_ rfl (by kernel_rfl) rfl (by intro w;go_simp<;>with_reducible rfl) HPN hHeld
  try simp only [Act.put,yA,yB,yC]
  refine tY 4 ?_ rfl (by kernel_rfl) rfl (by intro w hSw;(try dsimp only at hSw);obtain ⟨c0,c1,c2,c3,c4,c5⟩ := cells_6 (lies_below HC.out hSw (lies_lt HC.out));clear hSw;go_simp<;>with_reducible rfl) HPN hHeld
  try simp only [Act.put,yA,yB,yC]
  refine tN 5 ?_ rfl (by kernel_rfl) rfl (by intro w;go_simp<;>with_reducible rfl) HPN hHeld
  try simp only [Act.put,yA,yB,yC]
  refine tN 6 ?_ rfl (by kernel_rfl) rfl (by intro w;go_simp<;>with_reducible rfl) HPN hHeld
  try simp only [Act.put,yA,yB,yC]
  refine tN 7 ?_ rfl (by kernel_rfl) rfl (by intro w;go_simp<;>with_reducible rfl) HPN hHeld
  try simp only [Act.put,yA,yB,yC]
  refine tN 8 ?_ rfl (by kernel_rfl) rfl (by intro w;go_simp<;>with_reducible rfl) HPN hHeld
  try simp only [Act.put,yA,yB,yC]
  refine tY 9 ?_ rfl (by kernel_rfl) rfl (by intro w hSw;(try dsimp only at hSw);have hy := (hSw.cell (p := ⟨b,off + j * 11,none⟩) HLB.out).trans HY.out;clear hSw;go_simp<;>with_reducible rfl) HPN hHeld
  try simp only [Act.put,yA,yB,yC]
  refine tN 10 ?_ rfl (by kernel_rfl) rfl (by intro w;go_simp<;>with_reducible rfl) HPN hHeld
  try simp only [Act.put,yA,yB,yC]
  refine tY 11 ?_ rfl (by kernel_rfl) rfl (by intro w hSw;(try dsimp only at hSw);obtain ⟨p0,p1,p2,p3,p4,p5,p6,p7,p8,p9,p10⟩ := cells_11 (lies_below HP.out hSw (lies_lt HP.out));clear hSw;go_simp<;>with_reducible rfl) HPN hHeld
  try simp only [Act.put,yA,yB,yC]
  refine tN 12 ?_ rfl (by kernel_rfl) rfl (by intro w;go_simp<;>with_reducible rfl) HPN hHeld
  try simp only [Act.put,yA,yB,yC]
  refine tN 13 ?_ rfl (by kernel_rfl) rfl (by intro w;go_simp<;>with_reducible rfl) HPN hHeld
  try simp only [Act.put,yA,yB,yC]
  refine wpAnyH_done (by kernel_rfl) ?_ _
  clear hHeld
  exact hQ _ ((Below.refl _ W).drew) _ _ _ _ _ _ _ _ _ _ _ _ _
end Go.Proofs.YtdgkanamceeheaaGreat
set_option maxRecDepth 100000
namespace Go.Proofs.YtdgkanamceeheaaGreat
open Go.RowKit
set_option maxHeartbeats 4000000 in
theorem rport7_no {W : World} {cb xb i tb tf j : Nat} {is : Bool} {y : Int} {hosts major : Int} {wA vA qA : Option Addr} {pl pc wl wk vl vc ql qc : Nat} {qid qhost qpart qkind qvl qsub qudp qsize qdepth qfresh : Int} {qout : Bool} (HC : Hid (W.heap[cb]? = some (.cells #[.int .i64 hosts,.slice (some ⟨tb,tf,none⟩) pl pc,.int .i64 major,.slice wA wl wk,.slice vA vl vc,.slice qA ql qc] 28))) (HP : Hid (W.heap[xb]? = some (.cells #[.int .i64 qid,.int .i64 qhost,.int .i64 qpart,.int .i64 qkind,.bool qout,.int .i64 qvl,.int .i64 qsub,.int .i64 qudp,.int .i64 qsize,.int .i64 qdepth,.int .i64 qfresh] 62))) (HI : Hid (W.cell? ⟨tb,tf + j,none⟩ = some (.int .i64 y))) (HLT : Hid (tb < W.heap.size)) (hj : qpart = (j : Int)) (hjl : j < pl) {R : Bool} (hy : (qhost == y) = false) (hR : R = true) {u0 u3 u4 u6 u8 u9 aa ac ae af ag ah ai aj ak am ao ap aq ar au av aw ax ay aA aB aC aD aE aF aG aH aI aJ aK aL aM aN aO aP aQ aR aS aT aU aV aW aX aY aZ ba bb bc bd bf bg bi bj bm bo br bs bt bu bw bz bA bB bC bD bE bF bG bH bI bJ bK bL bM bN bO bP bQ bR bS bT bU bV bW bX bY bZ cg ci cj ck cq cr ct cu cv cw cy cz cE cF cG cH cI cJ cK cM cN cO cP cQ cR cS cT cU cV cW cX cY cZ da dg di dj dk dq dt du dv dw dy dz dE dF dG dH dI dJ dK dM dN dO dP dQ dR dS dT dU dV dW dX dY dZ ed ee ef eg eh ei ej ek el em eo ep eq et eu ey ez eA eB eC eD eE eF eG eH eI eJ eK eL eM eN eO eP eQ eR eS eT eU eV eW eX eY eZ fa fb fc fd fe fg fh fi fj fk fm fn fo fp fq fs fu fv fw fx fy fz fA : Value} {Q : Exit → Act → World → Prop} (HPN : ∀ (p : List PanicEntry) (a : Act) (dd : Nat) (vv : Value) (w : World),Q (.panic p) (a.put (some dd) vv) w → Q (.panic p) a w) (hQ : ∀ (wc : World),Below W.heap.size W wc → ∀ x80 x81 x82 x83 x84 x85 x86 x87 x88 x89 x90 x91 : Value,Q .normal ⟨#[u0,(.int .i64 i),(.pointer (some ⟨cb,0,none⟩)),u3,u4,(.pointer (some ⟨xb,0,none⟩)),u6,(.bool is),u8,u9,aa,ac,ae,af,ag,ah,ai,aj,ak,am,ao,ap,aq,ar,au,av,aw,ax,ay,aA,aB,aC,aD,aE,aF,aG,aH,aI,aJ,aK,aL,aM,aN,aO,aP,aQ,aR,aS,aT,aU,aV,aW,aX,aY,aZ,ba,bb,bc,bd,bf,bg,bi,bj,bm,bo,br,bs,bt,bu,bw,bz,bA,bB,bC,bD,bE,bF,bG,bH,bI,x80,x81,x82,x83,x84,x85,x86,x87,x88,x89,x90,x91,(.bool R),bW,bX,bY,bZ,cg,ci,cj,ck,cq,cr,ct,cu,cv,cw,cy,cz,cE,cF,cG,cH,cI,cJ,cK,cM,cN,cO,cP,cQ,cR,cS,cT,cU,cV,cW,cX,cY,cZ,da,dg,di,dj,dk,dq,dt,du,dv,dw,dy,dz,dE,dF,dG,dH,dI,dJ,dK,dM,dN,dO,dP,dQ,dR,dS,dT,dU,dV,dW,dX,dY,dZ,ed,ee,ef,eg,eh,ei,ej,ek,el,em,eo,ep,eq,et,eu,ey,ez,eA,eB,eC,eD,eE,eF,eG,eH,eI,eJ,eK,eL,eM,eN,eO,eP,eQ,eR,eS,eT,eU,eV,eW,eX,eY,eZ,fa,fb,fc,fd,fe,fg,fh,fi,fj,fk,fm,fn,fo,fp,fq,fs,fu,fv,fw,fx,fy,fz,fA],[]⟩ wc) :
    Code.wp Tryz.prog (Code.region 7 #[⟨some 80,.fieldAddr 62 (.tmp 5) 1,0,"ref.go:106",#[],none⟩,⟨some 81,.load 3 (.tmp 80),3,"ref.go:106",#[⟨0,.data⟩],none⟩,⟨some 82,.fieldAddr 28 (.tmp 2) 1,0,"ref.go:106",#[],none⟩,⟨some 83,.load 23 (.tmp 82),23,"ref.go:106",#[⟨2,.data⟩],none⟩,⟨some 84,.fieldAddr 62 (.tmp 5) 2,0,"ref.go:106",#[],none⟩,⟨some 85,.load 3 (.tmp 84),3,"ref.go:106",#[⟨4,.data⟩],none⟩,⟨some 86,.indexAddr 23 (.tmp 83) (.tmp 85),0,"ref.go:106",#[⟨3,.data⟩,⟨5,.data⟩],none⟩,⟨some 87,.load 3 (.tmp 86),3,"ref.go:106",#[⟨6,.data⟩],none⟩,⟨some 88,.binOp .neq 3 (.tmp 81) (.tmp 87) 3,4,"ref.go:106",#[⟨1,.data⟩,⟨7,.data⟩],none⟩,⟨some 89,.move (.tmp 88),4,"ref.go:106",#[⟨8,.data⟩],none⟩,⟨some 90,.move (.tmp 7),4,"ref.go:106",#[⟨9,.guard⟩],some (9,false)⟩,⟨some 91,.unOp .not 4 (.tmp 90),4,"ref.go:106",#[⟨10,.data⟩,⟨9,.guard⟩],some (9,false)⟩,⟨some 92,.pick (.tmp 89) (.const (.bool true)) (.tmp 91),4,"ref.go:106",#[⟨9,.data⟩,⟨11,.data⟩],none⟩] true) Q ⟨#[u0,(.int .i64 i),(.pointer (some ⟨cb,0,none⟩)),u3,u4,(.pointer (some ⟨xb,0,none⟩)),u6,(.bool is),u8,u9,aa,ac,ae,af,ag,ah,ai,aj,ak,am,ao,ap,aq,ar,au,av,aw,ax,ay,aA,aB,aC,aD,aE,aF,aG,aH,aI,aJ,aK,aL,aM,aN,aO,aP,aQ,aR,aS,aT,aU,aV,aW,aX,aY,aZ,ba,bb,bc,bd,bf,bg,bi,bj,bm,bo,br,bs,bt,bu,bw,bz,bA,bB,bC,bD,bE,bF,bG,bH,bI,bJ,bK,bL,bM,bN,bO,bP,bQ,bR,bS,bT,bU,bV,bW,bX,bY,bZ,cg,ci,cj,ck,cq,cr,ct,cu,cv,cw,cy,cz,cE,cF,cG,cH,cI,cJ,cK,cM,cN,cO,cP,cQ,cR,cS,cT,cU,cV,cW,cX,cY,cZ,da,dg,di,dj,dk,dq,dt,du,dv,dw,dy,dz,dE,dF,dG,dH,dI,dJ,dK,dM,dN,dO,dP,dQ,dR,dS,dT,dU,dV,dW,dX,dY,dZ,ed,ee,ef,eg,eh,ei,ej,ek,el,em,eo,ep,eq,et,eu,ey,ez,eA,eB,eC,eD,eE,eF,eG,eH,eI,eJ,eK,eL,eM,eN,eO,eP,eQ,eR,eS,eT,eU,eV,eW,eX,eY,eZ,fa,fb,fc,fd,fe,fg,fh,fi,fj,fk,fm,fn,fo,fp,fq,fs,fu,fv,fw,fx,fy,fz,fA],[]⟩ W := by
  subst hj
  have q2 : (j : Int) < (pl : Int) := by omega
  have q3 : 0 ≤ (j : Int) := by omega
  subst hR
  have hy2 : (qhost != y) = true := by rw [bne,hy];rfl
  have hy3 : decide (qhost = y) = false := hy
  refine wp_region_held_drew (S := fun w' => Below W.heap.size W w') (by kernel_rfl) ?_ (fun hHeld => ?_)
  · exact (Below.refl _ W).drew
  refine tN 0 ?_ rfl (by kernel_rfl) rfl (by intro w;go_simp<;>with_reducible rfl) HPN hHeld
  try simp only [Act.put,yA,yB,yC]
  refine tY 1 ?_ rfl (by kernel_rfl) rfl (by intro w hSw;(try dsimp only at hSw);obtain ⟨p0,p1,p2,p3,p4,p5,p6,p7,p8,p9,p10⟩ := cells_11 (lies_below HP.out hSw (lies_lt HP.out));clear hSw;go_simp<;>with_reducible rfl) HPN hHeld
  try simp only [Act.put,yA,yB,yC]
  refine tN 2 ?_ rfl (by kernel_rfl) rfl (by intro w;go_simp<;>with_reducible rfl) HPN hHeld
  try simp only [Act.put,yA,yB,yC]
  refine tY 3 ?_ rfl (by kernel_rfl) rfl (by intro w hSw;(try dsimp only at hSw);obtain ⟨c0,c1,c2,c3,c4,c5⟩ := cells_6 (lies_below HC.out hSw (lies_lt HC.out));clear hSw;go_simp<;>with_reducible rfl) HPN hHeld
  try simp only [Act.put,yA,yB,yC]
  refine tN 4 ?_ rfl (by kernel_rfl) rfl (by intro w;go_simp<;>with_reducible rfl) HPN hHeld
  try simp only [Act.put,yA,yB,yC]
  refine tY 5 ?_ rfl (by kernel_rfl) rfl (by intro w hSw;(try dsimp only at hSw);obtain ⟨p0,p1,p2,p3,p4,p5,p6,p7,p8,p9,p10⟩ := cells_11 (lies_below HP.out hSw (lies_lt HP.out));clear hSw;go_simp<;>with_reducible rfl) HPN hHeld
  try simp only [Act.put,yA,yB,yC]
  refine tN 6 ?_ rfl (by kernel_rfl) rfl (by intro w;go_simp<;>with_reducible rfl) HPN hHeld
  try simp only [Act.put,yA,yB,yC]
  refine tY 7 ?_ rfl (by kernel_rfl) rfl (by intro w hSw;(try dsimp only at hSw);have ti := (hSw.cell (p := ⟨tb,tf + j,none⟩) HLT.out).trans HI.out;clear hSw;go_simp<;>with_reducible rfl) HPN hHeld
  try simp only [Act.put,yA,yB,yC]
  refine tN 8 ?_ rfl (by kernel_rfl) rfl (by intro w;go_simp<;>with_reducible rfl) HPN hHeld
  try simp only [Act.put,yA,yB,yC]
  refine tN 9 ?_ rfl (by kernel_rfl) rfl (by intro w;go_simp<;>with_reducible rfl) HPN hHeld
  try simp only [Act.put,yA,yB,yC]
  refine tU 10 ?_ rfl (by kernel_rfl) rfl HPN hHeld
  try simp only [Act.put,yA,yB,yC]
  refine tU 11 ?_ rfl (by kernel_rfl) rfl HPN hHeld
  try simp only [Act.put,yA,yB,yC]
  refine tN 12 ?_ rfl (by kernel_rfl) rfl (by intro w;go_simp<;>with_reducible rfl) HPN hHeld
  try simp only [Act.put,yA,yB,yC]
  refine wpAnyH_done (by kernel_rfl) ?_ _
  clear hHeld
  exact hQ _ ((Below.refl _ W).drew) _ _ _ _ _ _ _ _ _ _ _ _
set_option maxHeartbeats 4000000 in
theorem rport7_yes {W : World} {cb xb i tb tf j : Nat} {is : Bool} {y : Int} {hosts major : Int} {wA vA qA : Option Addr} {pl pc wl wk vl vc ql qc : Nat} {qid qhost qpart qkind qvl qsub qudp qsize qdepth qfresh : Int} {qout : Bool} (HC : Hid (W.heap[cb]? = some (.cells #[.int .i64 hosts,.slice (some ⟨tb,tf,none⟩) pl pc,.int .i64 major,.slice wA wl wk,.slice vA vl vc,.slice qA ql qc] 28))) (HP : Hid (W.heap[xb]? = some (.cells #[.int .i64 qid,.int .i64 qhost,.int .i64 qpart,.int .i64 qkind,.bool qout,.int .i64 qvl,.int .i64 qsub,.int .i64 qudp,.int .i64 qsize,.int .i64 qdepth,.int .i64 qfresh] 62))) (HI : Hid (W.cell? ⟨tb,tf + j,none⟩ = some (.int .i64 y))) (HLT : Hid (tb < W.heap.size)) (hj : qpart = (j : Int)) (hjl : j < pl) {R : Bool} (hy : (qhost == y) = true) (hR : (!is) = R) {u0 u3 u4 u6 u8 u9 aa ac ae af ag ah ai aj ak am ao ap aq ar au av aw ax ay aA aB aC aD aE aF aG aH aI aJ aK aL aM aN aO aP aQ aR aS aT aU aV aW aX aY aZ ba bb bc bd bf bg bi bj bm bo br bs bt bu bw bz bA bB bC bD bE bF bG bH bI bJ bK bL bM bN bO bP bQ bR bS bT bU bV bW bX bY bZ cg ci cj ck cq cr ct cu cv cw cy cz cE cF cG cH cI cJ cK cM cN cO cP cQ cR cS cT cU cV cW cX cY cZ da dg di dj dk dq dt du dv dw dy dz dE dF dG dH dI dJ dK dM dN dO dP dQ dR dS dT dU dV dW dX dY dZ ed ee ef eg eh ei ej ek el em eo ep eq et eu ey ez eA eB eC eD eE eF eG eH eI eJ eK eL eM eN eO eP eQ eR eS eT eU eV eW eX eY eZ fa fb fc fd fe fg fh fi fj fk fm fn fo fp fq fs fu fv fw fx fy fz fA : Value} {Q : Exit → Act → World → Prop} (HPN : ∀ (p : List PanicEntry) (a : Act) (dd : Nat) (vv : Value) (w : World),Q (.panic p) (a.put (some dd) vv) w → Q (.panic p) a w) (hQ : ∀ (wc : World),Below W.heap.size W wc → ∀ x80 x81 x82 x83 x84 x85 x86 x87 x88 x89 x90 x91 : Value,Q .normal ⟨#[u0,(.int .i64 i),(.pointer (some ⟨cb,0,none⟩)),u3,u4,(.pointer (some ⟨xb,0,none⟩)),u6,(.bool is),u8,u9,aa,ac,ae,af,ag,ah,ai,aj,ak,am,ao,ap,aq,ar,au,av,aw,ax,ay,aA,aB,aC,aD,aE,aF,aG,aH,aI,aJ,aK,aL,aM,aN,aO,aP,aQ,aR,aS,aT,aU,aV,aW,aX,aY,aZ,ba,bb,bc,bd,bf,bg,bi,bj,bm,bo,br,bs,bt,bu,bw,bz,bA,bB,bC,bD,bE,bF,bG,bH,bI,x80,x81,x82,x83,x84,x85,x86,x87,x88,x89,x90,x91,(.bool R),bW,bX,bY,bZ,cg,ci,cj,ck,cq,cr,ct,cu,cv,cw,cy,cz,cE,cF,cG,cH,cI,cJ,cK,cM,cN,cO,cP,cQ,cR,cS,cT,cU,cV,cW,cX,cY,cZ,da,dg,di,dj,dk,dq,dt,du,dv,dw,dy,dz,dE,dF,dG,dH,dI,dJ,dK,dM,dN,dO,dP,dQ,dR,dS,dT,dU,dV,dW,dX,dY,dZ,ed,ee,ef,eg,eh,ei,ej,ek,el,em,eo,ep,eq,et,eu,ey,ez,eA,eB,eC,eD,eE,eF,eG,eH,eI,eJ,eK,eL,eM,eN,eO,eP,eQ,eR,eS,eT,eU,eV,eW,eX,eY,eZ,fa,fb,fc,fd,fe,fg,fh,fi,fj,fk,fm,fn,fo,fp,fq,fs,fu,fv,fw,fx,fy,fz,fA],[]⟩ wc) :
    Code.wp Tryz.prog (Code.region 7 #[⟨some 80,.fieldAddr 62 (.tmp 5) 1,0,"ref.go:106",#[],none⟩,⟨some 81,.load 3 (.tmp 80),3,"ref.go:106",#[⟨0,.data⟩],none⟩,⟨some 82,.fieldAddr 28 (.tmp 2) 1,0,"ref.go:106",#[],none⟩,⟨some 83,.load 23 (.tmp 82),23,"ref.go:106",#[⟨2,.data⟩],none⟩,⟨some 84,.fieldAddr 62 (.tmp 5) 2,0,"ref.go:106",#[],none⟩,⟨some 85,.load 3 (.tmp 84),3,"ref.go:106",#[⟨4,.data⟩],none⟩,⟨some 86,.indexAddr 23 (.tmp 83) (.tmp 85),0,"ref.go:106",#[⟨3,.data⟩,⟨5,.data⟩],none⟩,⟨some 87,.load 3 (.tmp 86),3,"ref.go:106",#[⟨6,.data⟩],none⟩,⟨some 88,.binOp .neq 3 (.tmp 81) (.tmp 87) 3,4,"ref.go:106",#[⟨1,.data⟩,⟨7,.data⟩],none⟩,⟨some 89,.move (.tmp 88),4,"ref.go:106",#[⟨8,.data⟩],none⟩,⟨some 90,.move (.tmp 7),4,"ref.go:106",#[⟨9,.guard⟩],some (9,false)⟩,⟨some 91,.unOp .not 4 (.tmp 90),4,"ref.go:106",#[⟨10,.data⟩,⟨9,.guard⟩],some (9,false)⟩,⟨some 92,.pick (.tmp 89) (.const (.bool true)) (.tmp 91),4,"ref.go:106",#[⟨9,.data⟩,⟨11,.data⟩],none⟩] true) Q ⟨#[u0,(.int .i64 i),(.pointer (some ⟨cb,0,none⟩)),u3,u4,(.pointer (some ⟨xb,0,none⟩)),u6,(.bool is),u8,u9,aa,ac,ae,af,ag,ah,ai,aj,ak,am,ao,ap,aq,ar,au,av,aw,ax,ay,aA,aB,aC,aD,aE,aF,aG,aH,aI,aJ,aK,aL,aM,aN,aO,aP,aQ,aR,aS,aT,aU,aV,aW,aX,aY,aZ,ba,bb,bc,bd,bf,bg,bi,bj,bm,bo,br,bs,bt,bu,bw,bz,bA,bB,bC,bD,bE,bF,bG,bH,bI,bJ,bK,bL,bM,bN,bO,bP,bQ,bR,bS,bT,bU,bV,bW,bX,bY,bZ,cg,ci,cj,ck,cq,cr,ct,cu,cv,cw,cy,cz,cE,cF,cG,cH,cI,cJ,cK,cM,cN,cO,cP,cQ,cR,cS,cT,cU,cV,cW,cX,cY,cZ,da,dg,di,dj,dk,dq,dt,du,dv,dw,dy,dz,dE,dF,dG,dH,dI,dJ,dK,dM,dN,dO,dP,dQ,dR,dS,dT,dU,dV,dW,dX,dY,dZ,ed,ee,ef,eg,eh,ei,ej,ek,el,em,eo,ep,eq,et,eu,ey,ez,eA,eB,eC,eD,eE,eF,eG,eH,eI,eJ,eK,eL,eM,eN,eO,eP,eQ,eR,eS,eT,eU,eV,eW,eX,eY,eZ,fa,fb,fc,fd,fe,fg,fh,fi,fj,fk,fm,fn,fo,fp,fq,fs,fu,fv,fw,fx,fy,fz,fA],[]⟩ W := by
  subst hj
  have q2 : (j : Int) < (pl : Int) := by omega
  have q3 : 0 ≤ (j : Int) := by omega
  have hy2 : (qhost != y) = false := by rw [bne,hy];rfl
  have hy3 : decide (qhost = y) = true := hy
  refine wp_region_held_drew (S := fun w' => Below W.heap.size W w') (by kernel_rfl) ?_ (fun hHeld => ?_)
  · exact (Below.refl _ W).drew
  refine tN 0 ?_ rfl (by kernel_rfl) rfl (by intro w;go_simp<;>with_reducible rfl) HPN hHeld
  try simp only [Act.put,yA,yB,yC]
  refine tY 1 ?_ rfl (by kernel_rfl) rfl (by intro w hSw;(try dsimp only at hSw);obtain ⟨p0,p1,p2,p3,p4,p5,p6,p7,p8,p9,p10⟩ := cells_11 (lies_below HP.out hSw (lies_lt HP.out));clear hSw;go_simp<;>with_reducible rfl) HPN hHeld
  try simp only [Act.put,yA,yB,yC]
  refine tN 2 ?_ rfl (by kernel_rfl) rfl (by intro w;go_simp<;>with_reducible rfl) HPN hHeld
  try simp only [Act.put,yA,yB,yC]
  refine tY 3 ?_ rfl (by kernel_rfl) rfl (by intro w hSw;(try dsimp only at hSw);obtain ⟨c0,c1,c2,c3,c4,c5⟩ := cells_6 (lies_below HC.out hSw (lies_lt HC.out));clear hSw;go_simp<;>with_reducible rfl) HPN hHeld
  try simp only [Act.put,yA,yB,yC]
  refine tN 4 ?_ rfl (by kernel_rfl) rfl (by intro w;go_simp<;>with_reducible rfl) HPN hHeld
  try simp only [Act.put,yA,yB,yC]
  refine tY 5 ?_ rfl (by kernel_rfl) rfl (by intro w hSw;(try dsimp only at hSw);obtain ⟨p0,p1,p2,p3,p4,p5,p6,p7,p8,p9,p10⟩ := cells_11 (lies_below HP.out hSw (lies_lt HP.out));clear hSw;go_simp<;>with_reducible rfl) HPN hHeld
  try simp only [Act.put,yA,yB,yC]
  refine tN 6 ?_ rfl (by kernel_rfl) rfl (by intro w;go_simp<;>with_reducible rfl) HPN hHeld
  try simp only [Act.put,yA,yB,yC]
  refine tY 7 ?_ rfl (by kernel_rfl) rfl (by intro w hSw;(try dsimp only at hSw);have ti := (hSw.cell (p := ⟨tb,tf + j,none⟩) HLT.out).trans HI.out;clear hSw;go_simp<;>with_reducible rfl) HPN hHeld
  try simp only [Act.put,yA,yB,yC]
  refine tN 8 ?_ rfl (by kernel_rfl) rfl (by intro w;go_simp<;>with_reducible rfl) HPN hHeld
  try simp only [Act.put,yA,yB,yC]
  refine tN 9 ?_ rfl (by kernel_rfl) rfl (by intro w;go_simp<;>with_reducible rfl) HPN hHeld
  try simp only [Act.put,yA,yB,yC]
  refine tN 10 ?_ rfl (by kernel_rfl) rfl (by intro w;go_simp<;>with_reducible rfl) HPN hHeld
  try simp only [Act.put,yA,yB,yC]
  refine tN 11 ?_ rfl (by kernel_rfl) rfl (by intro w;go_simp<;>with_reducible rfl) HPN hHeld
  try simp only [Act.put,yA,yB,yC]
  refine tN 12 ?_ rfl (by kernel_rfl) rfl (by intro w;go_simp<;>with_reducible rfl) HPN hHeld
  try simp only [Act.put,yA,yB,yC]
  refine wpAnyH_done (by kernel_rfl) ?_ _
  clear hHeld
  exact hQ _ ((Below.refl _ W).drew) _ _ _ _ _ _ _ _ _ _ _ _
set_option maxHeartbeats 4000000 in
theorem rport18 {W : World} {xb vb : Nat} {M : Int} {vid vhost vbag vsmax vsubs vskew : Int} {vhigh : Bool} {tA : Option Addr} {tl tc : Nat} {qid qhost qpart qkind qvl qsub qudp qsize qdepth qfresh : Int} {qout : Bool} (HP : Hid (W.heap[xb]? = some (.cells #[.int .i64 qid,.int .i64 qhost,.int .i64 qpart,.int .i64 qkind,.bool qout,.int .i64 qvl,.int .i64 qsub,.int .i64 qudp,.int .i64 qsize,.int .i64 qdepth,.int .i64 qfresh] 62))) (HV : Hid (W.heap[vb]? = some (.cells #[.int .i64 vid,.int .i64 vhost,.int .i64 vbag,.int .i64 vsmax,.bool vhigh,.int .i64 vsubs,.int .i64 vskew,.slice tA tl tc] 60))) (H53 : Hid (∀ w,Calls Tryz.prog 95 #[.int .i64 vsmax] w fun e w' => e = .returned (.int .i64 M) ∧ Below w.heap.size w w')) {R : Bool} (hR : decide (M < qsize) = R) {u0 u1 u2 u3 u4 u7 u8 u9 aa ac ae af ag ah ai aj ak am ao ap aq ar au av aw ax ay aA aB aC aD aE aF aG aH aI aJ aK aL aM aN aO aP aQ aR aS aT aU aV aW aX aY aZ ba bb bc bd bf bg bi bj bm bo br bs bt bu bw bz bA bB bC bD bE bF bG bH bI bJ bK bL bM bN bO bP bQ bR bS bT bU bV bW bX bY bZ cg ci cj ck cq cr ct cu cv cw cy cz cE cF cG cH cI cJ cK cM cN cO cP cQ cR cS cT cU cV cW cX cY cZ da dg di dj dk dq dt du dv dw dy dz dE dF dG dH dI dJ dK dM dN dO dP dQ dR dS dT dU dV dW dX dY dZ ed ee ef eg eh ei ej ek el em eo ep eq et eu ey ez eA eB eC eD eE eF eG eH eI eJ eK eL eM eN eO eP eQ eR eS eT eU eV eW eX eY eZ fa fb fc fd fe fg fh fi fj fk fm fn fo fp fq fs fu fv fw fx fy fz fA : Value} {Q : Exit → Act → World → Prop} (HPN : ∀ (p : List PanicEntry) (a : Act) (dd : Nat) (vv : Value) (w : World),Q (.panic p) (a.put (some dd) vv) w → Q (.panic p) a w) (hQ : ∀ (wc : World),Below W.heap.size W wc → ∀ x187 x188 x189 x190 x191 : Value,Q .normal ⟨#[u0,u1,u2,u3,u4,(.pointer (some ⟨xb,0,none⟩)),(.pointer (some ⟨vb,0,none⟩)),u7,u8,u9,aa,ac,ae,af,ag,ah,ai,aj,ak,am,ao,ap,aq,ar,au,av,aw,ax,ay,aA,aB,aC,aD,aE,aF,aG,aH,aI,aJ,aK,aL,aM,aN,aO,aP,aQ,aR,aS,aT,aU,aV,aW,aX,aY,aZ,ba,bb,bc,bd,bf,bg,bi,bj,bm,bo,br,bs,bt,bu,bw,bz,bA,bB,bC,bD,bE,bF,bG,bH,bI,bJ,bK,bL,bM,bN,bO,bP,bQ,bR,bS,bT,bU,bV,bW,bX,bY,bZ,cg,ci,cj,ck,cq,cr,ct,cu,cv,cw,cy,cz,cE,cF,cG,cH,cI,cJ,cK,cM,cN,cO,cP,cQ,cR,cS,cT,cU,cV,cW,cX,cY,cZ,da,dg,di,dj,dk,dq,dt,du,dv,dw,dy,dz,dE,dF,dG,dH,dI,dJ,dK,dM,dN,dO,dP,dQ,dR,dS,dT,dU,dV,dW,dX,dY,dZ,ed,ee,ef,eg,eh,ei,ej,ek,el,em,eo,ep,eq,et,eu,ey,ez,eA,eB,eC,eD,eE,eF,eG,x187,x188,x189,x190,x191,(.bool R),eN,eO,eP,eQ,eR,eS,eT,eU,eV,eW,eX,eY,eZ,fa,fb,fc,fd,fe,fg,fh,fi,fj,fk,fm,fn,fo,fp,fq,fs,fu,fv,fw,fx,fy,fz,fA],[]⟩ wc) :
    Code.wp Tryz.prog (Code.region 18 #[⟨some 187,.fieldAddr 62 (.tmp 5) 8,0,"ref.go:122",#[],none⟩,⟨some 188,.load 3 (.tmp 187),3,"ref.go:122",#[⟨0,.data⟩],none⟩,⟨some 189,.fieldAddr 60 (.tmp 6) 3,0,"ref.go:122",#[],none⟩,⟨some 190,.load 3 (.tmp 189),3,"ref.go:122",#[⟨2,.data⟩],none⟩,⟨some 191,.call ⟨.value (.func 95),#[.tmp 190],#[3]⟩,3,"ref.go:122",#[⟨3,.data⟩],none⟩,⟨some 192,.binOp .gtr 3 (.tmp 188) (.tmp 191) 3,4,"ref.go:122",#[⟨1,.data⟩,⟨4,.data⟩],none⟩] true) Q ⟨#[u0,u1,u2,u3,u4,(.pointer (some ⟨xb,0,none⟩)),(.pointer (some ⟨vb,0,none⟩)),u7,u8,u9,aa,ac,ae,af,ag,ah,ai,aj,ak,am,ao,ap,aq,ar,au,av,aw,ax,ay,aA,aB,aC,aD,aE,aF,aG,aH,aI,aJ,aK,aL,aM,aN,aO,aP,aQ,aR,aS,aT,aU,aV,aW,aX,aY,aZ,ba,bb,bc,bd,bf,bg,bi,bj,bm,bo,br,bs,bt,bu,bw,bz,bA,bB,bC,bD,bE,bF,bG,bH,bI,bJ,bK,bL,bM,bN,bO,bP,bQ,bR,bS,bT,bU,bV,bW,bX,bY,bZ,cg,ci,cj,ck,cq,cr,ct,cu,cv,cw,cy,cz,cE,cF,cG,cH,cI,cJ,cK,cM,cN,cO,cP,cQ,cR,cS,cT,cU,cV,cW,cX,cY,cZ,da,dg,di,dj,dk,dq,dt,du,dv,dw,dy,dz,dE,dF,dG,dH,dI,dJ,dK,dM,dN,dO,dP,dQ,dR,dS,dT,dU,dV,dW,dX,dY,dZ,ed,ee,ef,eg,eh,ei,ej,ek,el,em,eo,ep,eq,et,eu,ey,ez,eA,eB,eC,eD,eE,eF,eG,eH,eI,eJ,eK,eL,eM,eN,eO,eP,eQ,eR,eS,eT,eU,eV,eW,eX,eY,eZ,fa,fb,fc,fd,fe,fg,fh,fi,fj,fk,fm,fn,fo,fp,fq,fs,fu,fv,fw,fx,fy,fz,fA],[]⟩ W := by
  refine wp_region_held_drew (S := fun w' => Below W.heap.size W w') (by kernel_rfl) ?_ (fun hHeld => ?_)
  · exact (Below.refl _ W).drew
  refine tN 0 ?_ rfl (by kernel_rfl) rfl (by intro w;go_simp<;>with_reducible rfl) HPN hHeld
  try simp only [Act.put,yA,yB,yC]
  refine tY 1 ?_ rfl (by kernel_rfl) rfl (by intro w hSw;(try dsimp only at hSw);obtain ⟨p0,p1,p2,p3,p4,p5,p6,p7,p8,p9,p10⟩ := cells_11 (lies_below HP.out hSw (lies_lt HP.out));clear hSw;go_simp<;>with_reducible rfl) HPN hHeld
  try simp only [Act.put,yA,yB,yC]
  refine tN 2 ?_ rfl (by kernel_rfl) rfl (by intro w;go_simp<;>with_reducible rfl) HPN hHeld
  try simp only [Act.put,yA,yB,yC]
  refine tY 3 ?_ rfl (by kernel_rfl) rfl (by intro w hSw;(try dsimp only at hSw);obtain ⟨x0,x1,x2,x3,x4,x5,x6,x7⟩ := cells_8 (lies_below HV.out hSw (lies_lt HV.out));clear hSw;go_simp<;>with_reducible rfl) HPN hHeld
  try simp only [Act.put,yA,yB,yC]
  refine rY 4 [] ?_ (by kernel_rfl)
  refine rC rfl (fun K hK => ?_) AllReadyH.nil
  go_simp
  (go_at_call 95;(with_reducible refine (H53.out _).mono ?_);rintro e Va ⟨rfl,hb⟩;go_wp2_with fail)
  have B1 : Hid (Below W.heap.size W Va) := ((Below.refl _ W).drew).trans hb
  clear hb
  refine hK.out _ _ ?_ (fun hHeld => ?_)
  · exact B1.out
  clear hK K
  try simp only [Act.put,yA,yB,yC]
  refine tN 5 ?_ rfl (by kernel_rfl) rfl (by intro w;go_simp<;>with_reducible rfl) HPN hHeld
  try simp only [Act.put,yA,yB,yC]
  refine wpAnyH_done (by kernel_rfl) ?_ _
  clear hHeld
  exact hQ _ B1.out _ _ _ _ _
end Go.Proofs.YtdgkanamceeheaaGreat
