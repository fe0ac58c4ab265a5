/- The document's Load: its regions. -/
import Derived.Test.YtdgkanamceeheaaGreatK7
import Derived.Test.YtdgkanamceeheaaGreatK5
import Derived.Deep.RegionHeld3
import Derived.Deep.AppendSrc
set_option linter.unusedVariables false
set_option maxRecDepth 100000
set_option linter.unusedVariables false
namespace Go.Proofs.YtdgkanamceeheaaGreat.Im
open Go.RowKit
open PitotImg (St rd)
set_option maxHeartbeats 4000000 in
theorem g13 {W : World} {rb i n : Nat} {σ : St} {R : Bool} (HR : RS 55 W rb σ) (hR : (decide (i < n) && σ.isSome) = R) {u0 u1 u2 u3 u4 u5 u7 aa ac ae af ag ah ai aj ak am ao ap aq ar au av aw ax ay aA aB aC aD aE aF aG aH aI aJ aK aL aM aN aO aP aQ aR aS aT aU aV aW aX aY aZ ba bb bc bd bf bg bi bj bm bo br bs bt bu bw bz bA bB bC bD bE bF bG bH bI bJ bK bL bM bN bO bP bQ bR bS bT bU bV bW bX bY bZ cg ci cj ck cq cr ct cu cv cw cy cz cE cF cG cH cI cJ cK cM cN cO cP cQ cR cS cT cU cV cW cX cY cZ da dg di dj dk dq dt du dv dw dy dz dE dF dG dH dI dJ dK dM dN dO dP dQ dR dS dT dU dV dW dX dY dZ ed ee ef eg eh ei ej ek el em eo ep eq et eu ey ez eA eB eC eD eE eF eG eH eI eJ eK eL eM eN eO eP eQ eR eS eT eU eV eW eX eY eZ fa fb fc fd fe fg fh fi fj fk fm fn fo fp fq fs fu fv fw fx fy fz fA fB fC fD fF fG fH fI fJ fK fL fM fN fO fP fQ fR fS fT fU fV fW fX fY fZ ga gb gc gd ge gf gg gh gi gj gk gl gm gn gp gr gt gu gv gw gx gy gz gA : Value} {Q : Exit → Act → World → Prop} (HPN : ∀ (p : List PanicEntry) (a : Act) (dd : Nat) (vv : Value) (w : World),Q (.panic p) (a.put (some dd) vv) w → Q (.panic p) a w) (hQ : ∀ (wc : World),wc = W → ∀ x48 x49 x50 x51 x52 x53 x54 x55 x56 : Value,Q .normal ⟨#[u0,u1,u2,u3,u4,u5,(.pointer (some ⟨rb,0,none⟩)),u7,(.int .i64 (n : Int)),(.int .i64 (i : Int)),aa,ac,ae,af,ag,ah,ai,aj,ak,am,ao,ap,aq,ar,au,av,aw,ax,ay,aA,aB,aC,aD,aE,aF,aG,aH,aI,aJ,aK,aL,aM,aN,aO,aP,aQ,aR,aS,x48,x49,x50,x51,x52,x53,x54,x55,x56,(.bool R),bd,bf,bg,bi,bj,bm,bo,br,bs,bt,bu,bw,bz,bA,bB,bC,bD,bE,bF,bG,bH,bI,bJ,bK,bL,bM,bN,bO,bP,bQ,bR,bS,bT,bU,bV,bW,bX,bY,bZ,cg,ci,cj,ck,cq,cr,ct,cu,cv,cw,cy,cz,cE,cF,cG,cH,cI,cJ,cK,cM,cN,cO,cP,cQ,cR,cS,cT,cU,cV,cW,cX,cY,cZ,da,dg,di,dj,dk,dq,dt,du,dv,dw,dy,dz,dE,dF,dG,dH,dI,dJ,dK,dM,dN,dO,dP,dQ,dR,dS,dT,dU,dV,dW,dX,dY,dZ,ed,ee,ef,eg,eh,ei,ej,ek,el,em,eo,ep,eq,et,eu,ey,ez,eA,eB,eC,eD,eE,eF,eG,eH,eI,eJ,eK,eL,eM,eN,eO,eP,eQ,eR,eS,eT,eU,eV,eW,eX,eY,eZ,fa,fb,fc,fd,fe,fg,fh,fi,fj,fk,fm,fn,fo,fp,fq,fs,fu,fv,fw,fx,fy,fz,fA,fB,fC,fD,fF,fG,fH,fI,fJ,fK,fL,fM,fN,fO,fP,fQ,fR,fS,fT,fU,fV,fW,fX,fY,fZ,ga,gb,gc,gd,ge,gf,gg,gh,gi,gj,gk,gl,gm,gn,gp,gr,gt,gu,gv,gw,gx,gy,gz,gA],[]⟩ wc) :
    Code.wp Tryz.prog (Code.region 13 #[⟨some 48,.move (.tmp 9),3,"ref.go:74",#[],none⟩,⟨some 49,.move (.tmp 8),3,"ref.go:74",#[],none⟩,⟨some 50,.binOp .lss 3 (.tmp 48) (.tmp 49) 3,4,"ref.go:74",#[⟨0,.data⟩,⟨1,.data⟩],none⟩,⟨some 51,.move (.tmp 50),4,"ref.go:74",#[⟨2,.data⟩],none⟩,⟨some 52,.move (.tmp 6),53,"ref.go:74",#[⟨3,.guard⟩],some (3,true)⟩,⟨some 53,.nilCheck (.tmp 52),0,"ref.go:74",#[⟨4,.data⟩,⟨3,.guard⟩],some (3,true)⟩,⟨some 54,.fieldAddr 55 (.tmp 53) 1,0,"ref.go:74",#[⟨5,.data⟩,⟨3,.guard⟩],some (3,true)⟩,⟨some 55,.load 29 (.tmp 54),29,"ref.go:74",#[⟨6,.data⟩,⟨3,.guard⟩],some (3,true)⟩,⟨some 56,.binOp .eql 29 (.tmp 55) (.const (.int .i64 0)) 29,4,"ref.go:74",#[⟨7,.data⟩,⟨3,.guard⟩],some (3,true)⟩,⟨some 57,.pick (.tmp 51) (.tmp 56) (.const (.bool false)),4,"ref.go:74",#[⟨3,.data⟩,⟨8,.data⟩],none⟩] false) Q ⟨#[u0,u1,u2,u3,u4,u5,(.pointer (some ⟨rb,0,none⟩)),u7,(.int .i64 (n : Int)),(.int .i64 (i : Int)),aa,ac,ae,af,ag,ah,ai,aj,ak,am,ao,ap,aq,ar,au,av,aw,ax,ay,aA,aB,aC,aD,aE,aF,aG,aH,aI,aJ,aK,aL,aM,aN,aO,aP,aQ,aR,aS,aT,aU,aV,aW,aX,aY,aZ,ba,bb,bc,bd,bf,bg,bi,bj,bm,bo,br,bs,bt,bu,bw,bz,bA,bB,bC,bD,bE,bF,bG,bH,bI,bJ,bK,bL,bM,bN,bO,bP,bQ,bR,bS,bT,bU,bV,bW,bX,bY,bZ,cg,ci,cj,ck,cq,cr,ct,cu,cv,cw,cy,cz,cE,cF,cG,cH,cI,cJ,cK,cM,cN,cO,cP,cQ,cR,cS,cT,cU,cV,cW,cX,cY,cZ,da,dg,di,dj,dk,dq,dt,du,dv,dw,dy,dz,dE,dF,dG,dH,dI,dJ,dK,dM,dN,dO,dP,dQ,dR,dS,dT,dU,dV,dW,dX,dY,dZ,ed,ee,ef,eg,eh,ei,ej,ek,el,em,eo,ep,eq,et,eu,ey,ez,eA,eB,eC,eD,eE,eF,eG,eH,eI,eJ,eK,eL,eM,eN,eO,eP,eQ,eR,eS,eT,eU,eV,eW,eX,eY,eZ,fa,fb,fc,fd,fe,fg,fh,fi,fj,fk,fm,fn,fo,fp,fq,fs,fu,fv,fw,fx,fy,fz,fA,fB,fC,fD,fF,fG,fH,fI,fJ,fK,fL,fM,fN,fO,fP,fQ,fR,fS,fT,fU,fV,fW,fX,fY,fZ,ga,gb,gc,gd,ge,gf,gg,gh,gi,gj,gk,gl,gm,gn,gp,gr,gt,gu,gv,gw,gx,gy,gz,gA],[]⟩ W := by
  have c1 := HR.er
  have HQ := Lib.hid hQ
  clear hQ
  by_cases h : i < n
  · have e1 : decide ((i : Int) < (n : Int)) = true := decide_eq_true (by omega)
    have e1' : decide (i < n) = true := decide_eq_true h
    rw [e1'] at hR
    cases σ with
    | none =>
      have c1 : W.cell? ⟨rb,1,none⟩ = some (.int .i64 10) := c1
      have hR : false = R := hR
      subst hR
      go_wp2
      all_goals exact HQ.out _ rfl _ _ _ _ _ _ _ _ _
    | some l =>
      have c1 : W.cell? ⟨rb,1,none⟩ = some (.int .i64 0) := c1
      have hR : true = R := hR
      subst hR
      go_wp2
      all_goals exact HQ.out _ rfl _ _ _ _ _ _ _ _ _
  · have e1 : decide ((i : Int) < (n : Int)) = false := decide_eq_false (by omega)
    have e1' : decide (i < n) = false := decide_eq_false h
    rw [e1'] at hR
    have hR : false = R := hR
    subst hR
    go_wp2
    all_goals exact HQ.out _ rfl _ _ _ _ _ _ _ _ _
set_option maxHeartbeats 4000000 in
theorem g19 {W : World} {rb i n : Nat} {σ : St} {R : Bool} (HR : RS 55 W rb σ) (hR : (decide (i < n) && σ.isSome) = R) {u0 u1 u2 u3 u4 u5 u7 u9 ac ae af ag ah ai aj ak am ao ap aq ar au av aw ax ay aA aB aC aD aE aF aG aH aI aJ aK aL aM aN aO aP aQ aR aS aT aU aV aW aX aY aZ ba bb bc bd bf bg bi bj bm bo br bs bt bu bw bz bA bB bC bD bE bF bG bH bI bJ bK bL bM bN bO bP bQ bR bS bT bU bV bW bX bY bZ cg ci cj ck cq cr ct cu cv cw cy cz cE cF cG cH cI cJ cK cM cN cO cP cQ cR cS cT cU cV cW cX cY cZ da dg di dj dk dq dt du dv dw dy dz dE dF dG dH dI dJ dK dM dN dO dP dQ dR dS dT dU dV dW dX dY dZ ed ee ef eg eh ei ej ek el em eo ep eq et eu ey ez eA eB eC eD eE eF eG eH eI eJ eK eL eM eN eO eP eQ eR eS eT eU eV eW eX eY eZ fa fb fc fd fe fg fh fi fj fk fm fn fo fp fq fs fu fv fw fx fy fz fA fB fC fD fF fG fH fI fJ fK fL fM fN fO fP fQ fR fS fT fU fV fW fX fY fZ ga gb gc gd ge gf gg gh gi gj gk gl gm gn gp gr gt gu gv gw gx gy gz gA : Value} {Q : Exit → Act → World → Prop} (HPN : ∀ (p : List PanicEntry) (a : Act) (dd : Nat) (vv : Value) (w : World),Q (.panic p) (a.put (some dd) vv) w → Q (.panic p) a w) (hQ : ∀ (wc : World),wc = W → ∀ x72 x73 x74 x75 x76 x77 x78 x79 x80 : Value,Q .normal ⟨#[u0,u1,u2,u3,u4,u5,(.pointer (some ⟨rb,0,none⟩)),u7,(.int .i64 (n : Int)),u9,(.int .i64 (i : Int)),ac,ae,af,ag,ah,ai,aj,ak,am,ao,ap,aq,ar,au,av,aw,ax,ay,aA,aB,aC,aD,aE,aF,aG,aH,aI,aJ,aK,aL,aM,aN,aO,aP,aQ,aR,aS,aT,aU,aV,aW,aX,aY,aZ,ba,bb,bc,bd,bf,bg,bi,bj,bm,bo,br,bs,bt,bu,bw,bz,bA,x72,x73,x74,x75,x76,x77,x78,x79,x80,(.bool R),bL,bM,bN,bO,bP,bQ,bR,bS,bT,bU,bV,bW,bX,bY,bZ,cg,ci,cj,ck,cq,cr,ct,cu,cv,cw,cy,cz,cE,cF,cG,cH,cI,cJ,cK,cM,cN,cO,cP,cQ,cR,cS,cT,cU,cV,cW,cX,cY,cZ,da,dg,di,dj,dk,dq,dt,du,dv,dw,dy,dz,dE,dF,dG,dH,dI,dJ,dK,dM,dN,dO,dP,dQ,dR,dS,dT,dU,dV,dW,dX,dY,dZ,ed,ee,ef,eg,eh,ei,ej,ek,el,em,eo,ep,eq,et,eu,ey,ez,eA,eB,eC,eD,eE,eF,eG,eH,eI,eJ,eK,eL,eM,eN,eO,eP,eQ,eR,eS,eT,eU,eV,eW,eX,eY,eZ,fa,fb,fc,fd,fe,fg,fh,fi,fj,fk,fm,fn,fo,fp,fq,fs,fu,fv,fw,fx,fy,fz,fA,fB,fC,fD,fF,fG,fH,fI,fJ,fK,fL,fM,fN,fO,fP,fQ,fR,fS,fT,fU,fV,fW,fX,fY,fZ,ga,gb,gc,gd,ge,gf,gg,gh,gi,gj,gk,gl,gm,gn,gp,gr,gt,gu,gv,gw,gx,gy,gz,gA],[]⟩ wc) :
    Code.wp Tryz.prog (Code.region 19 #[⟨some 72,.move (.tmp 10),3,"ref.go:79",#[],none⟩,⟨some 73,.move (.tmp 8),3,"ref.go:79",#[],none⟩,⟨some 74,.binOp .lss 3 (.tmp 72) (.tmp 73) 3,4,"ref.go:79",#[⟨0,.data⟩,⟨1,.data⟩],none⟩,⟨some 75,.move (.tmp 74),4,"ref.go:79",#[⟨2,.data⟩],none⟩,⟨some 76,.move (.tmp 6),53,"ref.go:79",#[⟨3,.guard⟩],some (3,true)⟩,⟨some 77,.nilCheck (.tmp 76),0,"ref.go:79",#[⟨4,.data⟩,⟨3,.guard⟩],some (3,true)⟩,⟨some 78,.fieldAddr 55 (.tmp 77) 1,0,"ref.go:79",#[⟨5,.data⟩,⟨3,.guard⟩],some (3,true)⟩,⟨some 79,.load 29 (.tmp 78),29,"ref.go:79",#[⟨6,.data⟩,⟨3,.guard⟩],some (3,true)⟩,⟨some 80,.binOp .eql 29 (.tmp 79) (.const (.int .i64 0)) 29,4,"ref.go:79",#[⟨7,.data⟩,⟨3,.guard⟩],some (3,true)⟩,⟨some 81,.pick (.tmp 75) (.tmp 80) (.const (.bool false)),4,"ref.go:79",#[⟨3,.data⟩,⟨8,.data⟩],none⟩] false) Q ⟨#[u0,u1,u2,u3,u4,u5,(.pointer (some ⟨rb,0,none⟩)),u7,(.int .i64 (n : Int)),u9,(.int .i64 (i : Int)),ac,ae,af,ag,ah,ai,aj,ak,am,ao,ap,aq,ar,au,av,aw,ax,ay,aA,aB,aC,aD,aE,aF,aG,aH,aI,aJ,aK,aL,aM,aN,aO,aP,aQ,aR,aS,aT,aU,aV,aW,aX,aY,aZ,ba,bb,bc,bd,bf,bg,bi,bj,bm,bo,br,bs,bt,bu,bw,bz,bA,bB,bC,bD,bE,bF,bG,bH,bI,bJ,bK,bL,bM,bN,bO,bP,bQ,bR,bS,bT,bU,bV,bW,bX,bY,bZ,cg,ci,cj,ck,cq,cr,ct,cu,cv,cw,cy,cz,cE,cF,cG,cH,cI,cJ,cK,cM,cN,cO,cP,cQ,cR,cS,cT,cU,cV,cW,cX,cY,cZ,da,dg,di,dj,dk,dq,dt,du,dv,dw,dy,dz,dE,dF,dG,dH,dI,dJ,dK,dM,dN,dO,dP,dQ,dR,dS,dT,dU,dV,dW,dX,dY,dZ,ed,ee,ef,eg,eh,ei,ej,ek,el,em,eo,ep,eq,et,eu,ey,ez,eA,eB,eC,eD,eE,eF,eG,eH,eI,eJ,eK,eL,eM,eN,eO,eP,eQ,eR,eS,eT,eU,eV,eW,eX,eY,eZ,fa,fb,fc,fd,fe,fg,fh,fi,fj,fk,fm,fn,fo,fp,fq,fs,fu,fv,fw,fx,fy,fz,fA,fB,fC,fD,fF,fG,fH,fI,fJ,fK,fL,fM,fN,fO,fP,fQ,fR,fS,fT,fU,fV,fW,fX,fY,fZ,ga,gb,gc,gd,ge,gf,gg,gh,gi,gj,gk,gl,gm,gn,gp,gr,gt,gu,gv,gw,gx,gy,gz,gA],[]⟩ W := by
  have c1 := HR.er
  have HQ := Lib.hid hQ
  clear hQ
  by_cases h : i < n
  · have e1 : decide ((i : Int) < (n : Int)) = true := decide_eq_true (by omega)
    have e1' : decide (i < n) = true := decide_eq_true h
    rw [e1'] at hR
    cases σ with
    | none =>
      have c1 : W.cell? ⟨rb,1,none⟩ = some (.int .i64 10) := c1
      have hR : false = R := hR
      subst hR
      go_wp2
      all_goals exact HQ.out _ rfl _ _ _ _ _ _ _ _ _
    | some l =>
      have c1 : W.cell? ⟨rb,1,none⟩ = some (.int .i64 0) := c1
      have hR : true = R := hR
      subst hR
      go_wp2
      all_goals exact HQ.out _ rfl _ _ _ _ _ _ _ _ _
  · have e1 : decide ((i : Int) < (n : Int)) = false := decide_eq_false (by omega)
    have e1' : decide (i < n) = false := decide_eq_false h
    rw [e1'] at hR
    have hR : false = R := hR
    subst hR
    go_wp2
    all_goals exact HQ.out _ rfl _ _ _ _ _ _ _ _ _
set_option maxHeartbeats 4000000 in
theorem g28 {W : World} {rb i n : Nat} {σ : St} {R : Bool} (HR : RS 55 W rb σ) (hR : (decide (i < n) && σ.isSome) = R) {u0 u1 u2 u3 u4 u5 u7 u9 aa ac af ag ah ai aj ak am ao ap aq ar au av aw ax ay aA aB aC aD aE aF aG aH aI aJ aK aL aM aN aO aP aQ aR aS aT aU aV aW aX aY aZ ba bb bc bd bf bg bi bj bm bo br bs bt bu bw bz bA bB bC bD bE bF bG bH bI bJ bK bL bM bN bO bP bQ bR bS bT bU bV bW bX bY bZ cg ci cj ck cq cr ct cu cv cw cy cz cE cF cG cH cI cJ cK cM cN cO cP cQ cR cS cT cU cV cW cX cY cZ da dg di dj dk dq dt du dv dw dy dz dE dF dG dH dI dJ dK dM dN dO dP dQ dR dS dT dU dV dW dX dY dZ ed ee ef eg eh ei ej ek el em eo ep eq et eu ey ez eA eB eC eD eE eF eG eH eI eJ eK eL eM eN eO eP eQ eR eS eT eU eV eW eX eY eZ fa fb fc fd fe fg fh fi fj fk fm fn fo fp fq fs fu fv fw fx fy fz fA fB fC fD fF fG fH fI fJ fK fL fM fN fO fP fQ fR fS fT fU fV fW fX fY fZ ga gb gc gd ge gf gg gh gi gj gk gl gm gn gp gr gt gu gv gw gx gy gz gA : Value} {Q : Exit → Act → World → Prop} (HPN : ∀ (p : List PanicEntry) (a : Act) (dd : Nat) (vv : Value) (w : World),Q (.panic p) (a.put (some dd) vv) w → Q (.panic p) a w) (hQ : ∀ (wc : World),wc = W → ∀ x101 x102 x103 x104 x105 x106 x107 x108 x109 : Value,Q .normal ⟨#[u0,u1,u2,u3,u4,u5,(.pointer (some ⟨rb,0,none⟩)),u7,(.int .i64 (n : Int)),u9,aa,ac,(.int .i64 (i : Int)),af,ag,ah,ai,aj,ak,am,ao,ap,aq,ar,au,av,aw,ax,ay,aA,aB,aC,aD,aE,aF,aG,aH,aI,aJ,aK,aL,aM,aN,aO,aP,aQ,aR,aS,aT,aU,aV,aW,aX,aY,aZ,ba,bb,bc,bd,bf,bg,bi,bj,bm,bo,br,bs,bt,bu,bw,bz,bA,bB,bC,bD,bE,bF,bG,bH,bI,bJ,bK,bL,bM,bN,bO,bP,bQ,bR,bS,bT,bU,bV,bW,bX,bY,bZ,cg,ci,cj,ck,x101,x102,x103,x104,x105,x106,x107,x108,x109,(.bool R),cG,cH,cI,cJ,cK,cM,cN,cO,cP,cQ,cR,cS,cT,cU,cV,cW,cX,cY,cZ,da,dg,di,dj,dk,dq,dt,du,dv,dw,dy,dz,dE,dF,dG,dH,dI,dJ,dK,dM,dN,dO,dP,dQ,dR,dS,dT,dU,dV,dW,dX,dY,dZ,ed,ee,ef,eg,eh,ei,ej,ek,el,em,eo,ep,eq,et,eu,ey,ez,eA,eB,eC,eD,eE,eF,eG,eH,eI,eJ,eK,eL,eM,eN,eO,eP,eQ,eR,eS,eT,eU,eV,eW,eX,eY,eZ,fa,fb,fc,fd,fe,fg,fh,fi,fj,fk,fm,fn,fo,fp,fq,fs,fu,fv,fw,fx,fy,fz,fA,fB,fC,fD,fF,fG,fH,fI,fJ,fK,fL,fM,fN,fO,fP,fQ,fR,fS,fT,fU,fV,fW,fX,fY,fZ,ga,gb,gc,gd,ge,gf,gg,gh,gi,gj,gk,gl,gm,gn,gp,gr,gt,gu,gv,gw,gx,gy,gz,gA],[]⟩ wc) :
    Code.wp Tryz.prog (Code.region 28 #[⟨some 101,.move (.tmp 12),3,"ref.go:87",#[],none⟩,⟨some 102,.move (.tmp 8),3,"ref.go:87",#[],none⟩,⟨some 103,.binOp .lss 3 (.tmp 101) (.tmp 102) 3,4,"ref.go:87",#[⟨0,.data⟩,⟨1,.data⟩],none⟩,⟨some 104,.move (.tmp 103),4,"ref.go:87",#[⟨2,.data⟩],none⟩,⟨some 105,.move (.tmp 6),53,"ref.go:87",#[⟨3,.guard⟩],some (3,true)⟩,⟨some 106,.nilCheck (.tmp 105),0,"ref.go:87",#[⟨4,.data⟩,⟨3,.guard⟩],some (3,true)⟩,⟨some 107,.fieldAddr 55 (.tmp 106) 1,0,"ref.go:87",#[⟨5,.data⟩,⟨3,.guard⟩],some (3,true)⟩,⟨some 108,.load 29 (.tmp 107),29,"ref.go:87",#[⟨6,.data⟩,⟨3,.guard⟩],some (3,true)⟩,⟨some 109,.binOp .eql 29 (.tmp 108) (.const (.int .i64 0)) 29,4,"ref.go:87",#[⟨7,.data⟩,⟨3,.guard⟩],some (3,true)⟩,⟨some 110,.pick (.tmp 104) (.tmp 109) (.const (.bool false)),4,"ref.go:87",#[⟨3,.data⟩,⟨8,.data⟩],none⟩] false) Q ⟨#[u0,u1,u2,u3,u4,u5,(.pointer (some ⟨rb,0,none⟩)),u7,(.int .i64 (n : Int)),u9,aa,ac,(.int .i64 (i : Int)),af,ag,ah,ai,aj,ak,am,ao,ap,aq,ar,au,av,aw,ax,ay,aA,aB,aC,aD,aE,aF,aG,aH,aI,aJ,aK,aL,aM,aN,aO,aP,aQ,aR,aS,aT,aU,aV,aW,aX,aY,aZ,ba,bb,bc,bd,bf,bg,bi,bj,bm,bo,br,bs,bt,bu,bw,bz,bA,bB,bC,bD,bE,bF,bG,bH,bI,bJ,bK,bL,bM,bN,bO,bP,bQ,bR,bS,bT,bU,bV,bW,bX,bY,bZ,cg,ci,cj,ck,cq,cr,ct,cu,cv,cw,cy,cz,cE,cF,cG,cH,cI,cJ,cK,cM,cN,cO,cP,cQ,cR,cS,cT,cU,cV,cW,cX,cY,cZ,da,dg,di,dj,dk,dq,dt,du,dv,dw,dy,dz,dE,dF,dG,dH,dI,dJ,dK,dM,dN,dO,dP,dQ,dR,dS,dT,dU,dV,dW,dX,dY,dZ,ed,ee,ef,eg,eh,ei,ej,ek,el,em,eo,ep,eq,et,eu,ey,ez,eA,eB,eC,eD,eE,eF,eG,eH,eI,eJ,eK,eL,eM,eN,eO,eP,eQ,eR,eS,eT,eU,eV,eW,eX,eY,eZ,fa,fb,fc,fd,fe,fg,fh,fi,fj,fk,fm,fn,fo,fp,fq,fs,fu,fv,fw,fx,fy,fz,fA,fB,fC,fD,fF,fG,fH,fI,fJ,fK,fL,fM,fN,fO,fP,fQ,fR,fS,fT,fU,fV,fW,fX,fY,fZ,ga,gb,gc,gd,ge,gf,gg,gh,gi,gj,gk,gl,gm,gn,gp,gr,gt,gu,gv,gw,gx,gy,gz,gA],[]⟩ W := by
  have c1 := HR.er
  have HQ := Lib.hid hQ
  clear hQ
  by_cases h : i < n
  · have e1 : decide ((i : Int) < (n : Int)) = true := decide_eq_true (by omega)
    have e1' : decide (i < n) = true := decide_eq_true h
    rw [e1'] at hR
    cases σ with
    | none =>
      have c1 : W.cell? ⟨rb,1,none⟩ = some (.int .i64 10) := c1
      have hR : false = R := hR
      subst hR
      go_wp2
      all_goals exact HQ.out _ rfl _ _ _ _ _ _ _ _ _
    | some l =>
      have c1 : W.cell? ⟨rb,1,none⟩ = some (.int .i64 0) := c1
      have hR : true = R := hR
      subst hR
      go_wp2
      all_goals exact HQ.out _ rfl _ _ _ _ _ _ _ _ _
  · have e1 : decide ((i : Int) < (n : Int)) = false := decide_eq_false (by omega)
    have e1' : decide (i < n) = false := decide_eq_false h
    rw [e1'] at hR
    have hR : false = R := hR
    subst hR
    go_wp2
    all_goals exact HQ.out _ rfl _ _ _ _ _ _ _ _ _
set_option maxHeartbeats 4000000 in
theorem g41 {W : World} {rb i n : Nat} {σ : St} {R : Bool} (HR : RS 55 W rb σ) (hR : (decide (i < n) && σ.isSome) = R) {u0 u1 u2 u3 u4 u5 u7 u8 u9 aa ac ae af ag aj ak am ao ap aq ar au av aw ax ay aA aB aC aD aE aF aG aH aI aJ aK aL aM aN aO aP aQ aR aS aT aU aV aW aX aY aZ ba bb bc bd bf bg bi bj bm bo br bs bt bu bw bz bA bB bC bD bE bF bG bH bI bJ bK bL bM bN bO bP bQ bR bS bT bU bV bW bX bY bZ cg ci cj ck cq cr ct cu cv cw cy cz cE cF cG cH cI cJ cK cM cN cO cP cQ cR cS cT cU cV cW cX cY cZ da dg di dj dk dq dt du dv dw dy dz dE dF dG dH dI dJ dK dM dN dO dP dQ dR dS dT dU dV dW dX dY dZ ed ee ef eg eh ei ej ek el em eo ep eq et eu ey ez eA eB eC eD eE eF eG eH eI eJ eK eL eM eN eO eP eQ eR eS eT eU eV eW eX eY eZ fa fb fc fd fe fg fh fi fj fk fm fn fo fp fq fs fu fv fw fx fy fz fA fB fC fD fF fG fH fI fJ fK fL fM fN fO fP fQ fR fS fT fU fV fW fX fY fZ ga gb gc gd ge gf gg gh gi gj gk gl gm gn gp gr gt gu gv gw gx gy gz gA : Value} {Q : Exit → Act → World → Prop} (HPN : ∀ (p : List PanicEntry) (a : Act) (dd : Nat) (vv : Value) (w : World),Q (.panic p) (a.put (some dd) vv) w → Q (.panic p) a w) (hQ : ∀ (wc : World),wc = W → ∀ x140 x141 x142 x143 x144 x145 x146 x147 x148 : Value,Q .normal ⟨#[u0,u1,u2,u3,u4,u5,(.pointer (some ⟨rb,0,none⟩)),u7,u8,u9,aa,ac,ae,af,ag,(.int .i64 (n : Int)),(.int .i64 (i : Int)),aj,ak,am,ao,ap,aq,ar,au,av,aw,ax,ay,aA,aB,aC,aD,aE,aF,aG,aH,aI,aJ,aK,aL,aM,aN,aO,aP,aQ,aR,aS,aT,aU,aV,aW,aX,aY,aZ,ba,bb,bc,bd,bf,bg,bi,bj,bm,bo,br,bs,bt,bu,bw,bz,bA,bB,bC,bD,bE,bF,bG,bH,bI,bJ,bK,bL,bM,bN,bO,bP,bQ,bR,bS,bT,bU,bV,bW,bX,bY,bZ,cg,ci,cj,ck,cq,cr,ct,cu,cv,cw,cy,cz,cE,cF,cG,cH,cI,cJ,cK,cM,cN,cO,cP,cQ,cR,cS,cT,cU,cV,cW,cX,cY,cZ,da,dg,di,dj,dk,dq,dt,du,dv,dw,x140,x141,x142,x143,x144,x145,x146,x147,x148,(.bool R),dN,dO,dP,dQ,dR,dS,dT,dU,dV,dW,dX,dY,dZ,ed,ee,ef,eg,eh,ei,ej,ek,el,em,eo,ep,eq,et,eu,ey,ez,eA,eB,eC,eD,eE,eF,eG,eH,eI,eJ,eK,eL,eM,eN,eO,eP,eQ,eR,eS,eT,eU,eV,eW,eX,eY,eZ,fa,fb,fc,fd,fe,fg,fh,fi,fj,fk,fm,fn,fo,fp,fq,fs,fu,fv,fw,fx,fy,fz,fA,fB,fC,fD,fF,fG,fH,fI,fJ,fK,fL,fM,fN,fO,fP,fQ,fR,fS,fT,fU,fV,fW,fX,fY,fZ,ga,gb,gc,gd,ge,gf,gg,gh,gi,gj,gk,gl,gm,gn,gp,gr,gt,gu,gv,gw,gx,gy,gz,gA],[]⟩ wc) :
    Code.wp Tryz.prog (Code.region 41 #[⟨some 140,.move (.tmp 16),3,"ref.go:98",#[],none⟩,⟨some 141,.move (.tmp 15),3,"ref.go:98",#[],none⟩,⟨some 142,.binOp .lss 3 (.tmp 140) (.tmp 141) 3,4,"ref.go:98",#[⟨0,.data⟩,⟨1,.data⟩],none⟩,⟨some 143,.move (.tmp 142),4,"ref.go:98",#[⟨2,.data⟩],none⟩,⟨some 144,.move (.tmp 6),53,"ref.go:98",#[⟨3,.guard⟩],some (3,true)⟩,⟨some 145,.nilCheck (.tmp 144),0,"ref.go:98",#[⟨4,.data⟩,⟨3,.guard⟩],some (3,true)⟩,⟨some 146,.fieldAddr 55 (.tmp 145) 1,0,"ref.go:98",#[⟨5,.data⟩,⟨3,.guard⟩],some (3,true)⟩,⟨some 147,.load 29 (.tmp 146),29,"ref.go:98",#[⟨6,.data⟩,⟨3,.guard⟩],some (3,true)⟩,⟨some 148,.binOp .eql 29 (.tmp 147) (.const (.int .i64 0)) 29,4,"ref.go:98",#[⟨7,.data⟩,⟨3,.guard⟩],some (3,true)⟩,⟨some 149,.pick (.tmp 143) (.tmp 148) (.const (.bool false)),4,"ref.go:98",#[⟨3,.data⟩,⟨8,.data⟩],none⟩] false) Q ⟨#[u0,u1,u2,u3,u4,u5,(.pointer (some ⟨rb,0,none⟩)),u7,u8,u9,aa,ac,ae,af,ag,(.int .i64 (n : Int)),(.int .i64 (i : Int)),aj,ak,am,ao,ap,aq,ar,au,av,aw,ax,ay,aA,aB,aC,aD,aE,aF,aG,aH,aI,aJ,aK,aL,aM,aN,aO,aP,aQ,aR,aS,aT,aU,aV,aW,aX,aY,aZ,ba,bb,bc,bd,bf,bg,bi,bj,bm,bo,br,bs,bt,bu,bw,bz,bA,bB,bC,bD,bE,bF,bG,bH,bI,bJ,bK,bL,bM,bN,bO,bP,bQ,bR,bS,bT,bU,bV,bW,bX,bY,bZ,cg,ci,cj,ck,cq,cr,ct,cu,cv,cw,cy,cz,cE,cF,cG,cH,cI,cJ,cK,cM,cN,cO,cP,cQ,cR,cS,cT,cU,cV,cW,cX,cY,cZ,da,dg,di,dj,dk,dq,dt,du,dv,dw,dy,dz,dE,dF,dG,dH,dI,dJ,dK,dM,dN,dO,dP,dQ,dR,dS,dT,dU,dV,dW,dX,dY,dZ,ed,ee,ef,eg,eh,ei,ej,ek,el,em,eo,ep,eq,et,eu,ey,ez,eA,eB,eC,eD,eE,eF,eG,eH,eI,eJ,eK,eL,eM,eN,eO,eP,eQ,eR,eS,eT,eU,eV,eW,eX,eY,eZ,fa,fb,fc,fd,fe,fg,fh,fi,fj,fk,fm,fn,fo,fp,fq,fs,fu,fv,fw,fx,fy,fz,fA,fB,fC,fD,fF,fG,fH,fI,fJ,fK,fL,fM,fN,fO,fP,fQ,fR,fS,fT,fU,fV,fW,fX,fY,fZ,ga,gb,gc,gd,ge,gf,gg,gh,gi,gj,gk,gl,gm,gn,gp,gr,gt,gu,gv,gw,gx,gy,gz,gA],[]⟩ W := by
  have c1 := HR.er
  have HQ := Lib.hid hQ
  clear hQ
  by_cases h : i < n
  · have e1 : decide ((i : Int) < (n : Int)) = true := decide_eq_true (by omega)
    have e1' : decide (i < n) = true := decide_eq_true h
    rw [e1'] at hR
    cases σ with
    | none =>
      have c1 : W.cell? ⟨rb,1,none⟩ = some (.int .i64 10) := c1
      have hR : false = R := hR
      subst hR
      go_wp2
      all_goals exact HQ.out _ rfl _ _ _ _ _ _ _ _ _
    | some l =>
      have c1 : W.cell? ⟨rb,1,none⟩ = some (.int .i64 0) := c1
      have hR : true = R := hR
      subst hR
      go_wp2
      all_goals exact HQ.out _ rfl _ _ _ _ _ _ _ _ _
  · have e1 : decide ((i : Int) < (n : Int)) = false := decide_eq_false (by omega)
    have e1' : decide (i < n) = false := decide_eq_false h
    rw [e1'] at hR
    have hR : false = R := hR
    subst hR
    go_wp2
    all_goals exact HQ.out _ rfl _ _ _ _ _ _ _ _ _
set_option maxHeartbeats 4000000 in
theorem g48 {W : World} {rb i n : Nat} {σ : St} {R : Bool} (HR : RS 55 W rb σ) (hR : (decide (i < n) && σ.isSome) = R) {u0 u1 u2 u3 u4 u5 u7 u9 aa ac ae af ag ah ai aj am ao ap aq ar au av aw ax ay aA aB aC aD aE aF aG aH aI aJ aK aL aM aN aO aP aQ aR aS aT aU aV aW aX aY aZ ba bb bc bd bf bg bi bj bm bo br bs bt bu bw bz bA bB bC bD bE bF bG bH bI bJ bK bL bM bN bO bP bQ bR bS bT bU bV bW bX bY bZ cg ci cj ck cq cr ct cu cv cw cy cz cE cF cG cH cI cJ cK cM cN cO cP cQ cR cS cT cU cV cW cX cY cZ da dg di dj dk dq dt du dv dw dy dz dE dF dG dH dI dJ dK dM dN dO dP dQ dR dS dT dU dV dW dX dY dZ ed ee ef eg eh ei ej ek el em eo ep eq et eu ey ez eA eB eC eD eE eF eG eH eI eJ eK eL eM eN eO eP eQ eR eS eT eU eV eW eX eY eZ fa fb fc fd fe fg fh fi fj fk fm fn fo fp fq fs fu fv fw fx fy fz fA fB fC fD fF fG fH fI fJ fK fL fM fN fO fP fQ fR fS fT fU fV fW fX fY fZ ga gb gc gd ge gf gg gh gi gj gk gl gm gn gp gr gt gu gv gw gx gy gz gA : Value} {Q : Exit → Act → World → Prop} (HPN : ∀ (p : List PanicEntry) (a : Act) (dd : Nat) (vv : Value) (w : World),Q (.panic p) (a.put (some dd) vv) w → Q (.panic p) a w) (hQ : ∀ (wc : World),wc = W → ∀ x167 x168 x169 x170 x171 x172 x173 x174 x175 : Value,Q .normal ⟨#[u0,u1,u2,u3,u4,u5,(.pointer (some ⟨rb,0,none⟩)),u7,(.int .i64 (n : Int)),u9,aa,ac,ae,af,ag,ah,ai,aj,(.int .i64 (i : Int)),am,ao,ap,aq,ar,au,av,aw,ax,ay,aA,aB,aC,aD,aE,aF,aG,aH,aI,aJ,aK,aL,aM,aN,aO,aP,aQ,aR,aS,aT,aU,aV,aW,aX,aY,aZ,ba,bb,bc,bd,bf,bg,bi,bj,bm,bo,br,bs,bt,bu,bw,bz,bA,bB,bC,bD,bE,bF,bG,bH,bI,bJ,bK,bL,bM,bN,bO,bP,bQ,bR,bS,bT,bU,bV,bW,bX,bY,bZ,cg,ci,cj,ck,cq,cr,ct,cu,cv,cw,cy,cz,cE,cF,cG,cH,cI,cJ,cK,cM,cN,cO,cP,cQ,cR,cS,cT,cU,cV,cW,cX,cY,cZ,da,dg,di,dj,dk,dq,dt,du,dv,dw,dy,dz,dE,dF,dG,dH,dI,dJ,dK,dM,dN,dO,dP,dQ,dR,dS,dT,dU,dV,dW,dX,dY,dZ,ed,ee,ef,eg,x167,x168,x169,x170,x171,x172,x173,x174,x175,(.bool R),eu,ey,ez,eA,eB,eC,eD,eE,eF,eG,eH,eI,eJ,eK,eL,eM,eN,eO,eP,eQ,eR,eS,eT,eU,eV,eW,eX,eY,eZ,fa,fb,fc,fd,fe,fg,fh,fi,fj,fk,fm,fn,fo,fp,fq,fs,fu,fv,fw,fx,fy,fz,fA,fB,fC,fD,fF,fG,fH,fI,fJ,fK,fL,fM,fN,fO,fP,fQ,fR,fS,fT,fU,fV,fW,fX,fY,fZ,ga,gb,gc,gd,ge,gf,gg,gh,gi,gj,gk,gl,gm,gn,gp,gr,gt,gu,gv,gw,gx,gy,gz,gA],[]⟩ wc) :
    Code.wp Tryz.prog (Code.region 48 #[⟨some 167,.move (.tmp 18),3,"ref.go:105",#[],none⟩,⟨some 168,.move (.tmp 8),3,"ref.go:105",#[],none⟩,⟨some 169,.binOp .lss 3 (.tmp 167) (.tmp 168) 3,4,"ref.go:105",#[⟨0,.data⟩,⟨1,.data⟩],none⟩,⟨some 170,.move (.tmp 169),4,"ref.go:105",#[⟨2,.data⟩],none⟩,⟨some 171,.move (.tmp 6),53,"ref.go:105",#[⟨3,.guard⟩],some (3,true)⟩,⟨some 172,.nilCheck (.tmp 171),0,"ref.go:105",#[⟨4,.data⟩,⟨3,.guard⟩],some (3,true)⟩,⟨some 173,.fieldAddr 55 (.tmp 172) 1,0,"ref.go:105",#[⟨5,.data⟩,⟨3,.guard⟩],some (3,true)⟩,⟨some 174,.load 29 (.tmp 173),29,"ref.go:105",#[⟨6,.data⟩,⟨3,.guard⟩],some (3,true)⟩,⟨some 175,.binOp .eql 29 (.tmp 174) (.const (.int .i64 0)) 29,4,"ref.go:105",#[⟨7,.data⟩,⟨3,.guard⟩],some (3,true)⟩,⟨some 176,.pick (.tmp 170) (.tmp 175) (.const (.bool false)),4,"ref.go:105",#[⟨3,.data⟩,⟨8,.data⟩],none⟩] false) Q ⟨#[u0,u1,u2,u3,u4,u5,(.pointer (some ⟨rb,0,none⟩)),u7,(.int .i64 (n : Int)),u9,aa,ac,ae,af,ag,ah,ai,aj,(.int .i64 (i : Int)),am,ao,ap,aq,ar,au,av,aw,ax,ay,aA,aB,aC,aD,aE,aF,aG,aH,aI,aJ,aK,aL,aM,aN,aO,aP,aQ,aR,aS,aT,aU,aV,aW,aX,aY,aZ,ba,bb,bc,bd,bf,bg,bi,bj,bm,bo,br,bs,bt,bu,bw,bz,bA,bB,bC,bD,bE,bF,bG,bH,bI,bJ,bK,bL,bM,bN,bO,bP,bQ,bR,bS,bT,bU,bV,bW,bX,bY,bZ,cg,ci,cj,ck,cq,cr,ct,cu,cv,cw,cy,cz,cE,cF,cG,cH,cI,cJ,cK,cM,cN,cO,cP,cQ,cR,cS,cT,cU,cV,cW,cX,cY,cZ,da,dg,di,dj,dk,dq,dt,du,dv,dw,dy,dz,dE,dF,dG,dH,dI,dJ,dK,dM,dN,dO,dP,dQ,dR,dS,dT,dU,dV,dW,dX,dY,dZ,ed,ee,ef,eg,eh,ei,ej,ek,el,em,eo,ep,eq,et,eu,ey,ez,eA,eB,eC,eD,eE,eF,eG,eH,eI,eJ,eK,eL,eM,eN,eO,eP,eQ,eR,eS,eT,eU,eV,eW,eX,eY,eZ,fa,fb,fc,fd,fe,fg,fh,fi,fj,fk,fm,fn,fo,fp,fq,fs,fu,fv,fw,fx,fy,fz,fA,fB,fC,fD,fF,fG,fH,fI,fJ,fK,fL,fM,fN,fO,fP,fQ,fR,fS,fT,fU,fV,fW,fX,fY,fZ,ga,gb,gc,gd,ge,gf,gg,gh,gi,gj,gk,gl,gm,gn,gp,gr,gt,gu,gv,gw,gx,gy,gz,gA],[]⟩ W := by
  have c1 := HR.er
  have HQ := Lib.hid hQ
  clear hQ
  by_cases h : i < n
  · have e1 : decide ((i : Int) < (n : Int)) = true := decide_eq_true (by omega)
    have e1' : decide (i < n) = true := decide_eq_true h
    rw [e1'] at hR
    cases σ with
    | none =>
      have c1 : W.cell? ⟨rb,1,none⟩ = some (.int .i64 10) := c1
      have hR : false = R := hR
      subst hR
      go_wp2
      all_goals exact HQ.out _ rfl _ _ _ _ _ _ _ _ _
    | some l =>
      have c1 : W.cell? ⟨rb,1,none⟩ = some (.int .i64 0) := c1
      have hR : true = R := hR
      subst hR
      go_wp2
      all_goals exact HQ.out _ rfl _ _ _ _ _ _ _ _ _
  · have e1 : decide ((i : Int) < (n : Int)) = false := decide_eq_false (by omega)
    have e1' : decide (i < n) = false := decide_eq_false h
    rw [e1'] at hR
    have hR : false = R := hR
    subst hR
    go_wp2
    all_goals exact HQ.out _ rfl _ _ _ _ _ _ _ _ _
end Go.Proofs.YtdgkanamceeheaaGreat.Im
