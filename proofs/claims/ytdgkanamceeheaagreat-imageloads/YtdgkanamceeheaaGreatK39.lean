/- The document's Load: its last regions; ports. The program's reader: lists of ports. -/
import Derived.Test.YtdgkanamceeheaaGreatK33
import Derived.Test.YtdgkanamceeheaaGreatK29
import Derived.Test.YtdgkanamceeheaaGreatK38
import Derived.Test.YtdgkanamceeheaaGreatK0
set_option linter.unusedVariables false
set_option maxRecDepth 100000
set_option linter.unusedVariables false
namespace Go.Proofs.YtdgkanamceeheaaGreat.Im
open Go.RowKit
open PitotImg (St rd)
theorem ports_end {i n : Nat} {σ : St} (h : (decide (i < n) && σ.isSome) = false) (hi : i ≤ n) : PitotImg.portsS (n - i) σ = some ([],σ) := by
  cases σ with
  | none => exact PitotImg.portsS_none _
  | some l =>
    have : ¬ i < n := by simpa using h
    rw [show n - i = 0 by omega];rfl
theorem ports_bad {i n : Nat} {σ : St} (h : (decide (i < n) && σ.isSome) = true) (hb : PitotImg.badP σ = true) : PitotImg.portsS (n - i) σ = none := by
  cases σ with
  | none => simp at h
  | some l =>
    have h : i < n := by simpa using h
    rw [show n - i = (n - (i + 1)) + 1 by omega]
    show (if PitotImg.badP (some l) = true then none else _) = none
    rw [if_pos hb]
theorem ports_go {i n : Nat} {σ σ' : St} {x : PitotConf.Prt} (h : (decide (i < n) && σ.isSome) = true) (hp : PitotImg.prtS σ = (x,σ')) (hb : PitotImg.badP σ = false) : i < n ∧ PitotImg.portsS (n - i) σ = (PitotImg.portsS (n - (i + 1)) σ').map fun r => (x :: r.1,r.2) := by
  cases σ with
  | none => simp at h
  | some l =>
    have h : i < n := by simpa using h
    refine ⟨h,?_⟩
    rw [show n - i = (n - (i + 1)) + 1 by omega]
    show (if PitotImg.badP (some l) = true then none else (PitotImg.portsS (n - (i + 1)) (PitotImg.prtS (some l)).2).map fun r => ((PitotImg.prtS (some l)).1 :: r.1,r.2)) = _
    rw [if_neg (by rw [hb];decide),hp]
theorem opt_map {p : Option (List PitotConf.Prt × St)} {a : List PitotConf.Prt} {x : PitotConf.Prt} : (p.map fun r => (x :: r.1,r.2)).map (fun r => (a ++ r.1,r.2)) = p.map fun r => (a ++ [x] ++ r.1,r.2) := by
  cases p with
  | none => rfl
  | some r => simp
theorem few_wf {n : Int} (h : PitotImg.Few8 n) : (Lit.int .i64 n).wf = true := by
  obtain ⟨h1,h2⟩ := h
  simp [Lit.wf,IntKind.min,IntKind.max,IntKind.signed,IntKind.bits]
  omega
theorem sm_of (c : Cx) (h : PitotImg.cfB c.pl) (b1 : c.parts.length ≤ 2500) (b2 : c.wins.length ≤ 500) (b3 : c.vls.length ≤ 400) (b4 : c.ports.length ≤ 200) (b5 : ∀ v ∈ c.vls,v.to.length ≤ 2500) : Sm c := by
  obtain ⟨h1,h2,h3,h4,h5,h6⟩ := h
  refine ⟨⟨few_wf h1,by unfold maxLen;omega,fun n hn => few_wf (h2 n hn),few_wf h3,by unfold maxLen;omega,fun y hy => ?_,by unfold maxLen;omega,fun y hy => ?_,by unfold maxLen;omega,fun y hy => ?_⟩,by omega,by omega,by omega,by omega,fun v hv => by have := b5 v hv;omega⟩
  · obtain ⟨a,b,d⟩ := h4 _ (List.mem_map_of_mem hy)
    have a1 : PitotImg.Few8 y.part := a
    have b1 : PitotImg.Few8 y.beg := b
    have d1 : PitotImg.Few8 y.long := d
    exact ⟨few_wf a1,few_wf b1,few_wf d1⟩
  · obtain ⟨a,b,d,e,f,g,k⟩ := h5 _ (List.mem_map_of_mem hy)
    have := b5 y hy
    have a1 : PitotImg.Few8 y.id := a
    have b1 : PitotImg.Few8 y.host := b
    have d1 : PitotImg.Few8 y.bag := d
    have e1 : PitotImg.Few8 y.smax := e
    have f1 : PitotImg.Few8 y.subs := f
    have g1 : PitotImg.Few8 y.skew := g
    have k1 : ∀ t ∈ y.to,PitotImg.Few8 t := k
    exact ⟨few_wf a1,few_wf b1,few_wf d1,few_wf e1,few_wf f1,few_wf g1,by unfold maxLen;omega,fun n hn => few_wf (k1 n hn)⟩
  · obtain ⟨a,b,d,e,f,g,k,l,m,n⟩ := h6 _ (List.mem_map_of_mem hy)
    have a1 : PitotImg.Few8 y.id := a
    have b1 : PitotImg.Few8 y.host := b
    have d1 : PitotImg.Few8 y.part := d
    have e1 : PitotImg.Few8 y.kind := e
    have f1 : PitotImg.Few8 y.vl := f
    have g1 : PitotImg.Few8 y.sub := g
    have k1 : PitotImg.Few8 y.udp := k
    have l1 : PitotImg.Few8 y.size := l
    have m1 : PitotImg.Few8 y.depth := m
    have n1 : PitotImg.Few8 y.fresh := n
    exact ⟨few_wf a1,few_wf b1,few_wf d1,few_wf e1,few_wf f1,few_wf g1,few_wf k1,few_wf l1,few_wf m1,few_wf n1⟩
theorem drew_heap (w : World) (r : Nat) : w.drew.heap[r]? = w.heap[r]? := rfl
theorem keep6 {w : World} {b r : Nat} {y0 y1 y2 y3 y4 y5 : Value} (h : b ≠ r) : ((((((w.setCell ⟨b,0,none⟩ y0).setCell ⟨b,1,none⟩ y1).setCell ⟨b,2,none⟩ y2).setCell ⟨b,3,none⟩ y3).setCell ⟨b,4,none⟩ y4).setCell ⟨b,5,none⟩ y5).drew.heap[r]? = w.heap[r]? := by
  rw [drew_heap,heap_set_ne h,heap_set_ne h,heap_set_ne h,heap_set_ne h,heap_set_ne h,heap_set_ne h]
theorem zset {w : World} {b : Nat} {T : TypeId} {x0 x1 x2 x3 x4 x5 y0 y1 y2 y3 y4 y5 : Value} (h : w.heap[b]? = some (.cells #[x0,x1,x2,x3,x4,x5] T)) : ((((((w.setCell ⟨b,0,none⟩ y0).setCell ⟨b,1,none⟩ y1).setCell ⟨b,2,none⟩ y2).setCell ⟨b,3,none⟩ y3).setCell ⟨b,4,none⟩ y4).setCell ⟨b,5,none⟩ y5).drew.heap[b]? = some (.cells #[y0,y1,y2,y3,y4,y5] T) := by
  rw [drew_heap]
  have h0 : (w.setCell ⟨b,0,none⟩ y0).heap[b]? = some (.cells #[y0,x1,x2,x3,x4,x5] T) := lies_set h 0 y0
  generalize w.setCell ⟨b,0,none⟩ y0 = w0 at h0 ⊢
  have h1 : (w0.setCell ⟨b,1,none⟩ y1).heap[b]? = some (.cells #[y0,y1,x2,x3,x4,x5] T) := lies_set h0 1 y1
  generalize w0.setCell ⟨b,1,none⟩ y1 = w1 at h1 ⊢
  have h2 : (w1.setCell ⟨b,2,none⟩ y2).heap[b]? = some (.cells #[y0,y1,y2,x3,x4,x5] T) := lies_set h1 2 y2
  generalize w1.setCell ⟨b,2,none⟩ y2 = w2 at h2 ⊢
  have h3 : (w2.setCell ⟨b,3,none⟩ y3).heap[b]? = some (.cells #[y0,y1,y2,y3,x4,x5] T) := lies_set h2 3 y3
  generalize w2.setCell ⟨b,3,none⟩ y3 = w3 at h3 ⊢
  have h4 : (w3.setCell ⟨b,4,none⟩ y4).heap[b]? = some (.cells #[y0,y1,y2,y3,y4,x5] T) := lies_set h3 4 y4
  generalize w3.setCell ⟨b,4,none⟩ y4 = w4 at h4 ⊢
  exact lies_set h4 5 y5
theorem zset0 {w : World} {b : Nat} {T : TypeId} {x0 x1 x2 x3 x4 x5 y0 y1 y2 y3 y4 y5 : Value} (h : w.heap[b]? = some (.cells #[x0,x1,x2,x3,x4,x5] T)) : ((((((w.setCell ⟨b,0,none⟩ y0).setCell ⟨b,1,none⟩ y1).setCell ⟨b,2,none⟩ y2).setCell ⟨b,3,none⟩ y3).setCell ⟨b,4,none⟩ y4).setCell ⟨b,5,none⟩ y5).heap[b]? = some (.cells #[y0,y1,y2,y3,y4,y5] T) := by
  have h0 : (w.setCell ⟨b,0,none⟩ y0).heap[b]? = some (.cells #[y0,x1,x2,x3,x4,x5] T) := lies_set h 0 y0
  generalize w.setCell ⟨b,0,none⟩ y0 = w0 at h0 ⊢
  have h1 : (w0.setCell ⟨b,1,none⟩ y1).heap[b]? = some (.cells #[y0,y1,x2,x3,x4,x5] T) := lies_set h0 1 y1
  generalize w0.setCell ⟨b,1,none⟩ y1 = w1 at h1 ⊢
  have h2 : (w1.setCell ⟨b,2,none⟩ y2).heap[b]? = some (.cells #[y0,y1,y2,x3,x4,x5] T) := lies_set h1 2 y2
  generalize w1.setCell ⟨b,2,none⟩ y2 = w2 at h2 ⊢
  have h3 : (w2.setCell ⟨b,3,none⟩ y3).heap[b]? = some (.cells #[y0,y1,y2,y3,x4,x5] T) := lies_set h2 3 y3
  generalize w2.setCell ⟨b,3,none⟩ y3 = w3 at h3 ⊢
  have h4 : (w3.setCell ⟨b,4,none⟩ y4).heap[b]? = some (.cells #[y0,y1,y2,y3,y4,x5] T) := lies_set h3 4 y4
  generalize w3.setCell ⟨b,4,none⟩ y4 = w4 at h4 ⊢
  exact lies_set h4 5 y5
set_option maxHeartbeats 4000000 in
theorem r71 {W : World} {rb resb : Nat} (HR : Hid (RS 55 W rb none)) (HZ : Hid (W.heap[resb]? = some (.cells #[.int .i64 0,.slice none 0 0,.int .i64 0,.slice none 0 0,.slice none 0 0,.slice none 0 0] 28))) (HNE : Hid (resb ≠ rb)) {u0 u1 u3 u4 u5 u7 u8 u9 aa ac ae af ag ah ai aj ak am ao ap aq ar au av aw ax ay aA aB aC aD aE aF aG aH aI aJ aK aL aM aN aO aP aQ aR aS aT aU aV aW aX aY aZ ba bb bc bd bf bg bi bj bm bo br bs bt bu bw bz bA bB bC bD bE bF bG bH bI bJ bK bL bM bN bO bP bQ bR bS bT bU bV bW bX bY bZ cg ci cj ck cq cr ct cu cv cw cy cz cE cF cG cH cI cJ cK cM cN cO cP cQ cR cS cT cU cV cW cX cY cZ da dg di dj dk dq dt du dv dw dy dz dE dF dG dH dI dJ dK dM dN dO dP dQ dR dS dT dU dV dW dX dY dZ ed ee ef eg eh ei ej ek el em eo ep eq et eu ey ez eA eB eC eD eE eF eG eH eI eJ eK eL eM eN eO eP eQ eR eS eT eU eV eW eX eY eZ fa fb fc fd fe fg fh fi fj fk fm fn fo fp fq fs fu fv fw fx fy fz fA fB fC fD fF fG fH fI fJ fK fL fM fN fO fP fQ fR fS fT fU fV fW fX fY fZ ga gb gc gd ge gf gg gh gi gj gk gl gm gn gp gr gt gu gv gw gx gy gz gA : Value} {Q : Exit → Act → World → Prop} (HPN : ∀ (p : List PanicEntry) (a : Act) (dd : Nat) (vv : Value) (w : World),Q (.panic p) (a.put (some dd) vv) w → Q (.panic p) a w) (hQ : ∀ (wc : World),wc.heap[resb]? = some (.cells #[.int .i64 0,.slice none 0 0,.int .i64 0,.slice none 0 0,.slice none 0 0,.slice none 0 0] 28) → (∀ B,B ≤ resb → Below B W wc) → ∀ x255 x256 x257 x258 x259 : Value,Q .normal ⟨#[u0,u1,(.pointer (some ⟨resb,0,none⟩)),(.int .i64 10),u4,u5,(.pointer (some ⟨rb,0,none⟩)),u7,u8,u9,aa,ac,ae,af,ag,ah,ai,aj,ak,am,ao,ap,aq,ar,au,av,aw,ax,ay,aA,aB,aC,aD,aE,aF,aG,aH,aI,aJ,aK,aL,aM,aN,aO,aP,aQ,aR,aS,aT,aU,aV,aW,aX,aY,aZ,ba,bb,bc,bd,bf,bg,bi,bj,bm,bo,br,bs,bt,bu,bw,bz,bA,bB,bC,bD,bE,bF,bG,bH,bI,bJ,bK,bL,bM,bN,bO,bP,bQ,bR,bS,bT,bU,bV,bW,bX,bY,bZ,cg,ci,cj,ck,cq,cr,ct,cu,cv,cw,cy,cz,cE,cF,cG,cH,cI,cJ,cK,cM,cN,cO,cP,cQ,cR,cS,cT,cU,cV,cW,cX,cY,cZ,da,dg,di,dj,dk,dq,dt,du,dv,dw,dy,dz,dE,dF,dG,dH,dI,dJ,dK,dM,dN,dO,dP,dQ,dR,dS,dT,dU,dV,dW,dX,dY,dZ,ed,ee,ef,eg,eh,ei,ej,ek,el,em,eo,ep,eq,et,eu,ey,ez,eA,eB,eC,eD,eE,eF,eG,eH,eI,eJ,eK,eL,eM,eN,eO,eP,eQ,eR,eS,eT,eU,eV,eW,eX,eY,eZ,fa,fb,fc,fd,fe,fg,fh,fi,fj,fk,fm,fn,fo,fp,fq,fs,fu,fv,fw,fx,fy,fz,fA,fB,fC,fD,fF,fG,fH,fI,fJ,fK,fL,fM,fN,fO,fP,fQ,fR,fS,fT,fU,fV,fW,fX,fY,fZ,ga,gb,x255,x256,x257,x258,x259,gh,gi,gj,gk,gl,gm,gn,gp,gr,gt,gu,gv,gw,gx,gy,gz,gA],[]⟩ wc) :
    Code.wp Tryz.prog (Code.region 71 #[⟨some 255,.build 28 #[],28,"ref.go:131",#[],none⟩,⟨some 256,.move (.tmp 6),53,"ref.go:131",#[⟨5,.gcOnly .lateStores⟩],none⟩,⟨some 257,.nilCheck (.tmp 256),0,"ref.go:131",#[⟨1,.data⟩,⟨5,.gcOnly .lateStores⟩],none⟩,⟨some 258,.fieldAddr 55 (.tmp 257) 1,0,"ref.go:131",#[⟨2,.data⟩,⟨5,.gcOnly .lateStores⟩],none⟩,⟨some 259,.load 29 (.tmp 258),29,"ref.go:131",#[⟨3,.data⟩,⟨5,.gcOnly .lateStores⟩],none⟩,⟨none,.store 28 (.tmp 2) (.tmp 255),0,"ref.go:131",#[⟨0,.data⟩,⟨0,.phase⟩,⟨1,.textOnly .lateStores⟩,⟨2,.textOnly .lateStores⟩,⟨3,.textOnly .lateStores⟩,⟨4,.textOnly .lateStores⟩],none⟩,⟨some 3,.assign (.tmp 259),29,"ref.go:131",#[⟨4,.data⟩,⟨5,.chain⟩,⟨0,.phase⟩,⟨1,.phase⟩,⟨2,.phase⟩,⟨3,.phase⟩,⟨4,.phase⟩,⟨5,.phase⟩],none⟩] true) Q ⟨#[u0,u1,(.pointer (some ⟨resb,0,none⟩)),u3,u4,u5,(.pointer (some ⟨rb,0,none⟩)),u7,u8,u9,aa,ac,ae,af,ag,ah,ai,aj,ak,am,ao,ap,aq,ar,au,av,aw,ax,ay,aA,aB,aC,aD,aE,aF,aG,aH,aI,aJ,aK,aL,aM,aN,aO,aP,aQ,aR,aS,aT,aU,aV,aW,aX,aY,aZ,ba,bb,bc,bd,bf,bg,bi,bj,bm,bo,br,bs,bt,bu,bw,bz,bA,bB,bC,bD,bE,bF,bG,bH,bI,bJ,bK,bL,bM,bN,bO,bP,bQ,bR,bS,bT,bU,bV,bW,bX,bY,bZ,cg,ci,cj,ck,cq,cr,ct,cu,cv,cw,cy,cz,cE,cF,cG,cH,cI,cJ,cK,cM,cN,cO,cP,cQ,cR,cS,cT,cU,cV,cW,cX,cY,cZ,da,dg,di,dj,dk,dq,dt,du,dv,dw,dy,dz,dE,dF,dG,dH,dI,dJ,dK,dM,dN,dO,dP,dQ,dR,dS,dT,dU,dV,dW,dX,dY,dZ,ed,ee,ef,eg,eh,ei,ej,ek,el,em,eo,ep,eq,et,eu,ey,ez,eA,eB,eC,eD,eE,eF,eG,eH,eI,eJ,eK,eL,eM,eN,eO,eP,eQ,eR,eS,eT,eU,eV,eW,eX,eY,eZ,fa,fb,fc,fd,fe,fg,fh,fi,fj,fk,fm,fn,fo,fp,fq,fs,fu,fv,fw,fx,fy,fz,fA,fB,fC,fD,fF,fG,fH,fI,fJ,fK,fL,fM,fN,fO,fP,fQ,fR,fS,fT,fU,fV,fW,fX,fY,fZ,ga,gb,gc,gd,ge,gf,gg,gh,gi,gj,gk,gl,gm,gn,gp,gr,gt,gu,gv,gw,gx,gy,gz,gA],[]⟩ W := by
  have hbz := build_cf
  refine wp_region_held_drew (S := fun w' => w'.heap[rb]? = W.heap[rb]?) (by kernel_rfl) ?_ (fun hHeld => ?_)
  · exact rfl
  refine tN 0 ?_ rfl (by kernel_rfl) rfl (by intro w;go_simp<;>with_reducible rfl) HPN hHeld
  try simp only [Act.put,yA,yB,yC]
  refine tN 1 ?_ rfl (by kernel_rfl) rfl (by intro w;go_simp<;>with_reducible rfl) HPN hHeld
  try simp only [Act.put,yA,yB,yC]
  refine tN 2 ?_ rfl (by kernel_rfl) rfl (by intro w;go_simp<;>with_reducible rfl) HPN hHeld
  try simp only [Act.put,yA,yB,yC]
  refine tN 3 ?_ rfl (by kernel_rfl) rfl (by intro w;go_simp<;>with_reducible rfl) HPN hHeld
  try simp only [Act.put,yA,yB,yC]
  refine tY 4 ?_ rfl (by kernel_rfl) rfl (by intro w hSw;(try dsimp only at hSw);have c1 := (RS.keep HR.out hSw).er;have c1 : _ = some (Value.int .i64 10) := c1;clear hSw;go_simp<;>with_reducible rfl) HPN hHeld
  try simp only [Act.put,yA,yB,yC]
  refine rY 5 [] ?_ (by kernel_rfl)
  refine rC rfl (fun K hK => ?_) AllReadyH.nil
  have f0 := lies_frozen HZ.out 0
  have f1 := lies_frozen HZ.out 1
  have f2 := lies_frozen HZ.out 2
  have f3 := lies_frozen HZ.out 3
  have f4 := lies_frozen HZ.out 4
  have f5 := lies_frozen HZ.out 5
  obtain ⟨r0,r1,r2,r3,r4,r5⟩ := cells_6 HZ.out
  go_simp
  clear f0 f1 f2 f3 f4 f5 r0 r1 r2 r3 r4 r5
  refine hK.out _ _ ?_ (fun hHeld => ?_)
  · exact keep6 HNE.out
  clear hK K
  try simp only [Act.put,yA,yB,yC]
  refine tN 6 ?_ rfl (by kernel_rfl) rfl (by intro w;go_simp<;>with_reducible rfl) HPN hHeld
  try simp only [Act.put,yA,yB,yC]
  refine wpAnyH_done (by kernel_rfl) ?_ _
  clear hHeld
  exact hQ _ (zset HZ.out) (fun B hB => below_6 (Below.refl B W) hB _ _ _ _ _ _ |>.drew) _ _ _ _ _
set_option maxHeartbeats 4000000 in
theorem r68 {W : World} {resb : Nat} (HZ : Hid (W.heap[resb]? = some (.cells #[.int .i64 0,.slice none 0 0,.int .i64 0,.slice none 0 0,.slice none 0 0,.slice none 0 0] 28))) {u0 u1 u3 u4 u5 u6 u7 u8 u9 aa ac ae af ag ah ai aj ak am ao ap aq ar au av aw ax ay aA aB aC aD aE aF aG aH aI aJ aK aL aM aN aO aP aQ aR aS aT aU aV aW aX aY aZ ba bb bc bd bf bg bi bj bm bo br bs bt bu bw bz bA bB bC bD bE bF bG bH bI bJ bK bL bM bN bO bP bQ bR bS bT bU bV bW bX bY bZ cg ci cj ck cq cr ct cu cv cw cy cz cE cF cG cH cI cJ cK cM cN cO cP cQ cR cS cT cU cV cW cX cY cZ da dg di dj dk dq dt du dv dw dy dz dE dF dG dH dI dJ dK dM dN dO dP dQ dR dS dT dU dV dW dX dY dZ ed ee ef eg eh ei ej ek el em eo ep eq et eu ey ez eA eB eC eD eE eF eG eH eI eJ eK eL eM eN eO eP eQ eR eS eT eU eV eW eX eY eZ fa fb fc fd fe fg fh fi fj fk fm fn fo fp fq fs fu fv fw fx fy fz fA fB fC fD fF fG fH fI fJ fK fL fM fN fO fP fQ fR fS fT fU fV fW fX fY fZ ga gb gc gd ge gf gg gh gi gj gk gl gm gn gp gr gt gu gv gw gx gy gz gA : Value} {Q : Exit → Act → World → Prop} (HPN : ∀ (p : List PanicEntry) (a : Act) (dd : Nat) (vv : Value) (w : World),Q (.panic p) (a.put (some dd) vv) w → Q (.panic p) a w) (hQ : ∀ (wc : World),wc.heap[resb]? = some (.cells #[.int .i64 0,.slice none 0 0,.int .i64 0,.slice none 0 0,.slice none 0 0,.slice none 0 0] 28) → (∀ B,B ≤ resb → Below B W wc) → ∀ x243 : Value,Q .normal ⟨#[u0,u1,(.pointer (some ⟨resb,0,none⟩)),(.int .i64 1),u4,u5,u6,u7,u8,u9,aa,ac,ae,af,ag,ah,ai,aj,ak,am,ao,ap,aq,ar,au,av,aw,ax,ay,aA,aB,aC,aD,aE,aF,aG,aH,aI,aJ,aK,aL,aM,aN,aO,aP,aQ,aR,aS,aT,aU,aV,aW,aX,aY,aZ,ba,bb,bc,bd,bf,bg,bi,bj,bm,bo,br,bs,bt,bu,bw,bz,bA,bB,bC,bD,bE,bF,bG,bH,bI,bJ,bK,bL,bM,bN,bO,bP,bQ,bR,bS,bT,bU,bV,bW,bX,bY,bZ,cg,ci,cj,ck,cq,cr,ct,cu,cv,cw,cy,cz,cE,cF,cG,cH,cI,cJ,cK,cM,cN,cO,cP,cQ,cR,cS,cT,cU,cV,cW,cX,cY,cZ,da,dg,di,dj,dk,dq,dt,du,dv,dw,dy,dz,dE,dF,dG,dH,dI,dJ,dK,dM,dN,dO,dP,dQ,dR,dS,dT,dU,dV,dW,dX,dY,dZ,ed,ee,ef,eg,eh,ei,ej,ek,el,em,eo,ep,eq,et,eu,ey,ez,eA,eB,eC,eD,eE,eF,eG,eH,eI,eJ,eK,eL,eM,eN,eO,eP,eQ,eR,eS,eT,eU,eV,eW,eX,eY,eZ,fa,fb,fc,fd,fe,fg,fh,fi,fj,fk,fm,fn,fo,fp,fq,fs,fu,fv,fw,fx,fy,fz,fA,fB,fC,fD,fF,fG,fH,fI,fJ,fK,fL,fM,fN,fO,fP,x243,fR,fS,fT,fU,fV,fW,fX,fY,fZ,ga,gb,gc,gd,ge,gf,gg,gh,gi,gj,gk,gl,gm,gn,gp,gr,gt,gu,gv,gw,gx,gy,gz,gA],[]⟩ wc) :
    Code.wp Tryz.prog (Code.region 68 #[⟨some 243,.build 28 #[],28,"ref.go:126",#[],none⟩,⟨none,.store 28 (.tmp 2) (.tmp 243),0,"ref.go:126",#[⟨0,.data⟩,⟨0,.phase⟩],none⟩,⟨some 3,.assign (.const (.int .i64 1)),29,"ref.go:126",#[⟨1,.chain⟩,⟨0,.phase⟩,⟨1,.phase⟩],none⟩] false) Q ⟨#[u0,u1,(.pointer (some ⟨resb,0,none⟩)),u3,u4,u5,u6,u7,u8,u9,aa,ac,ae,af,ag,ah,ai,aj,ak,am,ao,ap,aq,ar,au,av,aw,ax,ay,aA,aB,aC,aD,aE,aF,aG,aH,aI,aJ,aK,aL,aM,aN,aO,aP,aQ,aR,aS,aT,aU,aV,aW,aX,aY,aZ,ba,bb,bc,bd,bf,bg,bi,bj,bm,bo,br,bs,bt,bu,bw,bz,bA,bB,bC,bD,bE,bF,bG,bH,bI,bJ,bK,bL,bM,bN,bO,bP,bQ,bR,bS,bT,bU,bV,bW,bX,bY,bZ,cg,ci,cj,ck,cq,cr,ct,cu,cv,cw,cy,cz,cE,cF,cG,cH,cI,cJ,cK,cM,cN,cO,cP,cQ,cR,cS,cT,cU,cV,cW,cX,cY,cZ,da,dg,di,dj,dk,dq,dt,du,dv,dw,dy,dz,dE,dF,dG,dH,dI,dJ,dK,dM,dN,dO,dP,dQ,dR,dS,dT,dU,dV,dW,dX,dY,dZ,ed,ee,ef,eg,eh,ei,ej,ek,el,em,eo,ep,eq,et,eu,ey,ez,eA,eB,eC,eD,eE,eF,eG,eH,eI,eJ,eK,eL,eM,eN,eO,eP,eQ,eR,eS,eT,eU,eV,eW,eX,eY,eZ,fa,fb,fc,fd,fe,fg,fh,fi,fj,fk,fm,fn,fo,fp,fq,fs,fu,fv,fw,fx,fy,fz,fA,fB,fC,fD,fF,fG,fH,fI,fJ,fK,fL,fM,fN,fO,fP,fQ,fR,fS,fT,fU,fV,fW,fX,fY,fZ,ga,gb,gc,gd,ge,gf,gg,gh,gi,gj,gk,gl,gm,gn,gp,gr,gt,gu,gv,gw,gx,gy,gz,gA],[]⟩ W := by
  have f0 := lies_frozen HZ.out 0
  have f1 := lies_frozen HZ.out 1
  have f2 := lies_frozen HZ.out 2
  have f3 := lies_frozen HZ.out 3
  have f4 := lies_frozen HZ.out 4
  have f5 := lies_frozen HZ.out 5
  obtain ⟨r0,r1,r2,r3,r4,r5⟩ := cells_6 HZ.out
  have hbz := build_cf
  have hz := Lib.hid (zset0 HZ.out (y0 := .int .i64 0) (y1 := .slice none 0 0) (y2 := .int .i64 0) (y3 := .slice none 0 0) (y4 := .slice none 0 0) (y5 := .slice none 0 0))
  have hbl := Lib.hid (fun B (hB : B ≤ resb) => below_6 (Below.refl B W) hB (.int .i64 0) (.slice none 0 0) (.int .i64 0) (.slice none 0 0) (.slice none 0 0) (.slice none 0 0))
  have HQ := Lib.hid hQ
  clear hQ
  go_wp2
  all_goals exact HQ.out _ hz.out hbl.out _
end Go.Proofs.YtdgkanamceeheaaGreat.Im
set_option maxRecDepth 100000
set_option linter.unusedVariables false
namespace Go.Proofs.YtdgkanamceeheaaGreat.Im
open Go.RowKit
open PitotImg (St rd)
def PInv (PT : Option (List PitotConf.Prt × St)) (acc : List Px) (m : Nat) (x : Int) (σ : St) : Prop :=
  (x = 1 ∧ PT = none) ∨ (x = 0 ∧ σ = none ∧ ∃ az,PT = some (az,none)) ∨ (x = 0 ∧ ∃ l,σ = some l ∧ (PitotImg.portsS m σ).map (fun r => (acc.map Px.pl ++ r.1,r.2)) = PT)
def PRes (PT : Option (List PitotConf.Prt × St)) (xs : List Px) (x : Int) (σ : St) : Prop :=
  (x = 1 ∧ PT = none) ∨ (x = 0 ∧ σ = none ∧ ∃ az,PT = some (az,none)) ∨ (x = 0 ∧ ∃ l,σ = some l ∧ PT = some (xs.map Px.pl,some l))
theorem pinv_start (n : Nat) (σ : St) : PInv (PitotImg.portsS n σ) [] n 0 σ := by
  cases σ with
  | none => exact .inr (.inl ⟨rfl,rfl,[],PitotImg.portsS_none n⟩)
  | some l => exact .inr (.inr ⟨rfl,l,rfl,by cases PitotImg.portsS n (some l) <;> rfl⟩)
theorem pinv_end {PT : Option (List PitotConf.Prt × St)} {acc : List Px} {x : Int} {σ : St} (h : PInv PT acc 0 x σ) : PRes PT acc x σ := by
  rcases h with h | h | ⟨h1,l,h2,h3⟩
  · exact .inl h
  · exact .inr (.inl h)
  · exact .inr (.inr ⟨h1,l,h2,by rw [← h3,h2];simp [PitotImg.portsS]⟩)
theorem pinv_stop {PT : Option (List PitotConf.Prt × St)} {acc : List Px} {m : Nat} {x : Int} {σ : St} (h : PInv PT acc m x σ) (hx : pe x σ ≠ 0) : PRes PT acc x σ := by
  rcases h with h | h | ⟨h1,l,h2,h3⟩
  · exact .inl h
  · exact .inr (.inl h)
  · exfalso;apply hx;rw [h1,h2];rfl
theorem pinv_go {PT : Option (List PitotConf.Prt × St)} {acc : List Px} {m : Nat} {x : Int} {σ : St} (h : PInv PT acc m x σ) (hx : pe x σ = 0) : x = 0 ∧ ∃ l,σ = some l ∧ (PitotImg.portsS m σ).map (fun r => (acc.map Px.pl ++ r.1,r.2)) = PT := by
  rcases h with ⟨h1,h2⟩ | ⟨h1,h2,h3⟩ | h
  · rw [h1] at hx;exact absurd hx (by unfold pe;simp)
  · rw [h1,h2] at hx;exact absurd hx (by unfold pe ec;simp)
  · exact h
theorem pinv_step {PT : Option (List PitotConf.Prt × St)} {acc : List Px} {i n : Nat} {σ σ10 : St} {l : List UInt8} {yh yl : Int} (hl : σ = some l) (hi : i < n) (h : (PitotImg.portsS (n - i) σ).map (fun r => (acc.map Px.pl ++ r.1,r.2)) = PT) (px : Px)
    (hx : PitotImg.prtS σ = (⟨px.id,px.host,px.part,px.kind,px.out,px.vl,px.sub,px.udp,px.size,px.depth,PitotImg.freshF yh yl⟩,σ10)) (hb : PitotImg.badP σ = (PitotImg.wrongF yh yl && σ10.isSome)) (hf : px.fresh = PitotImg.joinF yh yl) (b1 : 0 ≤ yh) (b2 : 0 ≤ yl) (b3 : yl < 4294967296) :
    PInv PT (acc ++ [px]) (n - (i + 1)) (wr1 (PitotImg.wrongF yh yl && σ10.isSome)) σ10 := by
  have hg : (decide (i < n) && σ.isSome) = true := by rw [hl];simp [hi]
  cases hq : (PitotImg.wrongF yh yl && σ10.isSome) with
  | true =>
    rw [hq] at hb
    refine .inl ⟨rfl,?_⟩
    rw [← h,ports_bad hg hb];rfl
  | false =>
    rw [hq] at hb
    obtain ⟨_,h2⟩ := ports_go hg hx hb
    rw [h2,opt_map] at h
    cases σ10 with
    | none =>
      refine .inr (.inl ⟨rfl,rfl,?_⟩)
      rw [← h,PitotImg.portsS_none]
      exact ⟨_,rfl⟩
    | some l2 =>
      refine .inr (.inr ⟨rfl,l2,rfl,?_⟩)
      have hw : PitotImg.wrongF yh yl = false := by simpa using hq
      have e := PitotImg.join_fresh yh yl b1 b2 b3 hw
      rw [← h]
      have e2 : (⟨px.id,px.host,px.part,px.kind,px.out,px.vl,px.sub,px.udp,px.size,px.depth,PitotImg.freshF yh yl⟩ : PitotConf.Prt) = px.pl := by rw [← e,← hf]
      rw [e2,List.map_append];rfl
set_option maxHeartbeats 4000000 in
theorem c3_any (y1 y2 y3 q0 : Int) (bq : Bool) (y5 q2 y7 y8 y9 fr xx : Int) (σ3 : St) (p r kb : Nat) (σ : St) (w : World) (h : PS w p r 0 σ) (hpr : p ≠ r) (hK : w.heap[kb]? = some (.cells #[.pointer (some ⟨p,0,none⟩)] 46))
    (HC0 : ∀ w,PS w p r 0 σ → Calls Tryz.prog 49 #[.pointer (some ⟨p,0,none⟩)] w fun e w' => e = .returned (.agg #[.int .i64 y1,.int .i64 y2,.int .i64 y3,.int .i64 q0,.bool bq,.int .i64 y5,.int .i64 q2,.int .i64 y7,.int .i64 y8,.int .i64 y9,.int .i64 fr]) ∧ PS w' p r xx σ3 ∧ Fr w.heap.size r p w w') :
    Calls Tryz.prog 48 #[.pointer (some ⟨kb,0,none⟩)] w fun e w' => e = .returned (.agg #[.int .i64 y1,.int .i64 y2,.int .i64 y3,.int .i64 q0,.bool bq,.int .i64 y5,.int .i64 q2,.int .i64 y7,.int .i64 y8,.int .i64 y9,.int .i64 fr]) ∧ PS w' p r xx σ3 ∧ Fr w.heap.size r p w w' := by
  have HC := Lib.hid HC0
  have HS : Hid (PS (w.alloc (.cells #[.int .i64 0,.int .i64 0,.int .i64 0,.int .i64 0,.bool false,.int .i64 0,.int .i64 0,.int .i64 0,.int .i64 0,.int .i64 0,.int .i64 0] 62)) p r 0 σ) := ⟨lies_alloc h.1 _,RS.al h.2 _⟩
  have k0 : (w.alloc (.cells #[.int .i64 0,.int .i64 0,.int .i64 0,.int .i64 0,.bool false,.int .i64 0,.int .i64 0,.int .i64 0,.int .i64 0,.int .i64 0,.int .i64 0] 62)).cell? ⟨kb,0,none⟩ = some (.pointer (some ⟨p,0,none⟩)) := lies_cell (lies_alloc hK _) 0
  have HF : Hid (Fr w.heap.size r p w (w.alloc (.cells #[.int .i64 0,.int .i64 0,.int .i64 0,.int .i64 0,.bool false,.int .i64 0,.int .i64 0,.int .i64 0,.int .i64 0,.int .i64 0,.int .i64 0] 62))) := Fr.al Fr.refl _
  have VB : Hid ((w.alloc (.cells #[.int .i64 0,.int .i64 0,.int .i64 0,.int .i64 0,.bool false,.int .i64 0,.int .i64 0,.int .i64 0,.int .i64 0,.int .i64 0,.int .i64 0] 62)).heap[w.heap.size]? = some (.cells #[.int .i64 0,.int .i64 0,.int .i64 0,.int .i64 0,.bool false,.int .i64 0,.int .i64 0,.int .i64 0,.int .i64 0,.int .i64 0,.int .i64 0] 62)) := heap_alloc_new w _
  have hsz : (w.alloc (.cells #[.int .i64 0,.int .i64 0,.int .i64 0,.int .i64 0,.bool false,.int .i64 0,.int .i64 0,.int .i64 0,.int .i64 0,.int .i64 0,.int .i64 0] 62)).heap.size = w.heap.size + 1 := World.size_alloc _ _
  have hpw := lies_lt h.1
  have hrw := h.2.lt
  have hzz := zero_prt
  clear h HC0 hK
  go_enter Tryz.func48,Tryz.ntmps48
  go_upto_region 1 with (fail)
  obtain ⟨W1,hW1⟩ : ∃ W,w.alloc (.cells #[.int .i64 0,.int .i64 0,.int .i64 0,.int .i64 0,.bool false,.int .i64 0,.int .i64 0,.int .i64 0,.int .i64 0,.int .i64 0,.int .i64 0] 62) = W := ⟨_,rfl⟩
  rw [hW1] at HS HF VB k0 hsz ⊢
  clear hW1
  obtain ⟨vb,hvb⟩ : ∃ n,w.heap.size = n := ⟨_,rfl⟩
  rw [hvb] at HF VB hpw hrw hsz ⊢
  have HHB := Lib.hid hvb
  have HSZ := Lib.hid hsz
  clear hvb hsz
  go_wp2_with (first
    | (go_at_call 49;(with_reducible refine (HC.out _ HS.out).mono ?_);rintro e w2 ⟨rfl,hs2,hf2⟩
       (have HS2 := Lib.hid hs2)
       (have HF2 : Hid (Fr vb r p w w2) := HF.out.trans (hf2.mono (by have := HSZ.out;omega)))
       (have VB2 := Lib.hid ((hf2.block vb (by have := HSZ.out;omega) (by omega) (by omega) (lies_lt VB.out)).trans VB.out))
       (clear hs2 hf2 HS HF VB k0 HC)
       (have VB := VB2)
       (clear VB2)
       (have f0 := lies_frozen VB.out 0)
       (have f1 := lies_frozen VB.out 1)
       (have f2 := lies_frozen VB.out 2)
       (have f3 := lies_frozen VB.out 3)
       (have f4 := lies_frozen VB.out 4)
       (have f5 := lies_frozen VB.out 5)
       (have f6 := lies_frozen VB.out 6)
       (have f7 := lies_frozen VB.out 7)
       (have f8 := lies_frozen VB.out 8)
       (have f9 := lies_frozen VB.out 9)
       (have f10 := lies_frozen VB.out 10)
       (obtain ⟨cc0,cc1,cc2,cc3,cc4,cc5,cc6,cc7,cc8,cc9,cc10⟩ := cells_11 VB.out)))
  (try simp only [Exit.inBlock,Exit.then])
  obtain ⟨k0,k1,k2,k3,k4,k5,k6,k7,k8,k9,k10,_⟩ := read_11 (y0 := .int .i64 y1) (y1 := .int .i64 y2) (y2 := .int .i64 y3) (y3 := .int .i64 q0) (y4 := .bool bq) (y5 := .int .i64 y5) (y6 := .int .i64 q2) (y7 := .int .i64 y7) (y8 := .int .i64 y8) (y9 := .int .i64 y9) (y10 := .int .i64 fr) VB.out
  refine bodyPost_ret (by simp [results,Tryz.results48,go_sem,k0,k1,k2,k3,k4,k5,k6,k7,k8,k9,k10];try rfl) rfl ?_
  rw [HHB.out]
  exact ⟨rfl,⟨(far_11 (by omega)).trans HS2.out.1,RS.keep HS2.out.2 (far_11 (by omega))⟩,frs_11 HF2.out (Nat.le_refl _)⟩
set_option maxHeartbeats 4000000 in
theorem rlistP (p r kb n : Nat) (σ0 σ1 : St) (PT : Option (List PitotConf.Prt × St)) (w : World) (h : PS w p r 0 σ0) (hpr : p ≠ r) (hK : w.heap[kb]? = some (.cells #[.pointer (some ⟨p,0,none⟩)] 46)) (hkr : kb ≠ r) (hkp : kb ≠ p) (h1 : rd 2 σ0 = ((n : Int),σ1)) (h2 : PitotImg.portsS n σ1 = PT) :
    Calls Tryz.prog 47 #[.pointer (some ⟨p,0,none⟩),.func (.func 48) #[] #[.pointer (some ⟨kb,0,none⟩)]] w fun e w' => (∃ x σ' xs0,PRes PT xs0 x σ' ∧ Lst PxsIn w.heap.size (fun xs => xs = xs0) e w' ∧ PS w' p r x σ') ∧ Fr w.heap.size r p w w' := by
  have HN1 := Lib.hid (pU16_of (r := r) h1)
  have hnb := rd_ge h1
  have hN : n < 65536 := by have : (n : Int) < 65536 := hnb.2;omega
  have HPR := Lib.hid hpr
  have HP : Hid (w.heap[p]? = some (.cells #[.pointer (some ⟨r,0,none⟩),.int .i64 0] 50)) := h.1
  have HR : Hid (RS 82 w r σ0) := h.2
  have H2 : Hid (PInv PT [] n 0 σ1) := by show PInv _ _ _ _ _;rw [← h2];exact pinv_start n σ1
  have HK : Hid (w.heap[kb]? = some (.cells #[.pointer (some ⟨p,0,none⟩)] 46)) := hK
  have hkw := lies_lt hK
  have hpw := lies_lt h.1
  have hrw := h.2.lt
  have c0 := lies_cell h.1 0
  clear h hpr h1 h2 hnb
  go_enter Tryz.func47,Tryz.ntmps47
  go_wp2_with (go_at_call 38;(with_reducible refine (HN1.out _ HR.out).mono ?_);rintro e w2 ⟨rfl,hw2,hg2⟩)
  have HP2 := Lib.hid (lies_grown HP.out hg2 HPR.out)
  have HR2 := Lib.hid hw2
  have HF2 : Hid (Fr w.heap.size r p w w2) := Fr.grown hg2
  have HK2 := Lib.hid (lies_grown HK.out hg2 hkr)
  obtain ⟨B,hB⟩ : ∃ n,w.heap.size = n := ⟨_,rfl⟩
  rw [hB] at HF2 hpw hrw hkw
  have HBB := Lib.hid hB
  clear HP HR hw2 hg2 c0 HN1 hB HK hK
  have HOW : Hid (w2.ownsRow B 62 11 (.slice none 0 0) 0 []) := World.ownsRow_nil _ _ _ _
  go_loopw [5,11] (fun v5 v11 wr => ∃ (i : Nat) (σ : St) (acc : List Px) (x : Int),i ≤ n ∧ v11 = .int .i64 i ∧ acc.length = i ∧ Hid (PInv PT acc (n - i) x σ) ∧ Hid (wr.heap[p]? = some (.cells #[.pointer (some ⟨r,0,none⟩),.int .i64 x] 50)) ∧ Hid (RS 82 wr r σ) ∧ Hid (Fr B r p w wr) ∧ Hid (wr.ownsRow B 62 11 v5 i (acc.flatMap Px.enc)) ∧ Hid (wr.heap[kb]? = some (.cells #[.pointer (some ⟨p,0,none⟩)] 46))) (fun _ v11 _ => n - (intOf v11).toNat)
  case atStart => exact ⟨0,σ1,[],0,Nat.zero_le _,rfl,rfl,H2,HP2,HR2,HF2,HOW,HK2⟩
  case round =>
    obtain ⟨i,σ,acc,x,hi,rfl,hal,ha1,HP,HR,HF,HO,HK⟩ := hrel
    clear HP2 HR2 HF2 HOW HK2
    have HE := Lib.hid (perr_any p r x σ wr ⟨HP.out,HR.out⟩)
    obtain ⟨ev,hev⟩ : ∃ v,pe x σ = v := ⟨_,rfl⟩
    rw [hev] at HE
    by_cases hlt : i < n
    · have e1 : decide ((i : Int) < (n : Int)) = true := decide_eq_true (by omega)
      have e1' : decide (i < n) = true := decide_eq_true hlt
      by_cases hz : ev = 0
      · subst hz
        obtain ⟨hx0,l,hl,hpt⟩ := pinv_go ha1.out hev
        subst hx0
        obtain ⟨y1,τ1,HE1⟩ := rd_of 4 σ
        obtain ⟨y2,τ2,HE3⟩ := rd_of 2 τ1
        obtain ⟨y3,τ3,HE4⟩ := rd_of 2 τ2
        obtain ⟨yb,τ4,HE5⟩ := rd_of 1 τ3
        obtain ⟨y5,τ5,HE6⟩ := rd_of 2 τ4
        obtain ⟨y7,τ6,HE7⟩ := rd_of 2 τ5
        obtain ⟨y8,τ7,HE8⟩ := rd_of 2 τ6
        obtain ⟨y9,τ8,HE9⟩ := rd_of 2 τ7
        obtain ⟨yh,τ9,HE10⟩ := rd_of 4 τ8
        obtain ⟨yl,τA,HE11⟩ := rd_of 4 τ9
        have bh := rd_ge HE10.out
        have bl := rd_ge HE11.out
        obtain ⟨q0,hq0⟩ : ∃ q,yb / 64 = q := ⟨_,rfl⟩
        obtain ⟨q2,hq2⟩ : ∃ q,yb % 32 = q := ⟨_,rfl⟩
        obtain ⟨bq,hbq⟩ : ∃ b,decide (yb / 32 % 2 = 1) = b := ⟨_,rfl⟩
        obtain ⟨fr,hfr⟩ : ∃ x,PitotImg.joinF yh yl = x := ⟨_,rfl⟩
        obtain ⟨xx,hxx⟩ : ∃ x,wr1 (PitotImg.wrongF yh yl && τA.isSome) = x := ⟨_,rfl⟩
        have HST : Hid (PInv PT (acc ++ [(⟨y1,y2,y3,q0,bq,y5,q2,y7,y8,y9,fr⟩ : Px)]) (n - (i + 1)) xx τA) := by
          show PInv _ _ _ _ _
          rw [← hxx]
          refine pinv_step hl hlt hpt (⟨y1,y2,y3,q0,bq,y5,q2,y7,y8,y9,fr⟩ : Px) (yh := yh) (yl := yl) ?_ ?_ hfr.symm bh.1 bl.1 bl.2
          · rw [← hq0,← hq2,← hbq]
            unfold PitotImg.prtS PitotImg.prtT
            simp only [HE1.out,HE3.out,HE4.out,HE5.out,HE6.out,HE7.out,HE8.out,HE9.out,HE10.out,HE11.out]
          · unfold PitotImg.badP PitotImg.prtT
            simp only [HE1.out,HE3.out,HE4.out,HE5.out,HE6.out,HE7.out,HE8.out,HE9.out,HE10.out,HE11.out]
        have HNv : Hid (∀ w,PS w p r 0 σ → w.heap[kb]? = some (.cells #[.pointer (some ⟨p,0,none⟩)] 46) → Calls Tryz.prog 48 #[.pointer (some ⟨kb,0,none⟩)] w fun e w' => e = .returned (.agg #[.int .i64 y1,.int .i64 y2,.int .i64 y3,.int .i64 q0,.bool bq,.int .i64 y5,.int .i64 q2,.int .i64 y7,.int .i64 y8,.int .i64 y9,.int .i64 fr]) ∧ PS w' p r xx τA ∧ Fr w.heap.size r p w w') := fun w hs hk => c3_any y1 y2 y3 q0 bq y5 q2 y7 y8 y9 fr xx τA p r kb σ w hs HPR.out hk (fun w hs => by
          rw [← hq0,← hq2,← hbq,← hfr,← hxx]
          exact rport_any p r y1 y2 y3 yb y5 y7 y8 y9 yh yl σ τ1 τ2 τ3 τ4 τ5 τ6 τ7 τ8 τ9 τA w hs HPR.out HE1.out HE3.out HE4.out HE5.out HE6.out HE7.out HE8.out HE9.out HE10.out HE11.out)
        clear hq0 hq2 hbq hfr hxx bh bl hpt ha1 hl hev
        obtain ⟨ii,hii,hzz,hs3,hb3'⟩ := info_parts infoP
        go_wp2_with (first
          | (go_at_call 50;(with_reducible refine (HE.out).mono ?_);rintro e w' ⟨rfl,rfl⟩)
          | (go_at_call 48;(with_reducible refine (HNv.out _ (ps_mk HP.out HR.out) HK.out).mono ?_);rintro e V ⟨rfl,hw,hf⟩
             (have HPV := Lib.hid hw.1)
             (have HRV := Lib.hid hw.2)
             (have HFV := Lib.hid (HF.out.trans (hf.mono (by (have h1 := HF.out.size);(have h2 := HBB.out);omega))))
             (have HOV := Lib.hid (own_fr HO.out hf (Nat.le_refl _) (by omega) (.inl (by omega))))
             (have HKV := Lib.hid ((hf.block kb (lies_lt HK.out) hkr hkp (lies_lt HK.out)).trans HK.out))
             (have HKA := Lib.hid (lies_alloc (o := .cells #[.int .i64 y1,.int .i64 y2,.int .i64 y3,.int .i64 q0,.bool bq,.int .i64 y5,.int .i64 q2,.int .i64 y7,.int .i64 y8,.int .i64 y9,.int .i64 fr] 62) HKV.out))
             (clear HP HR HF HO HK hw hf)
             (have HPA := Lib.hid (lies_alloc (o := .cells #[.int .i64 y1,.int .i64 y2,.int .i64 y3,.int .i64 q0,.bool bq,.int .i64 y5,.int .i64 q2,.int .i64 y7,.int .i64 y8,.int .i64 y9,.int .i64 fr] 62) HPV.out))
             (have HRA := Lib.hid (RS.al HRV.out (.cells #[.int .i64 y1,.int .i64 y2,.int .i64 y3,.int .i64 q0,.bool bq,.int .i64 y5,.int .i64 q2,.int .i64 y7,.int .i64 y8,.int .i64 y9,.int .i64 fr] 62)))
             (have HFA := Lib.hid (Fr.al HFV.out (.cells #[.int .i64 y1,.int .i64 y2,.int .i64 y3,.int .i64 q0,.bool bq,.int .i64 y5,.int .i64 q2,.int .i64 y7,.int .i64 y8,.int .i64 y9,.int .i64 fr] 62)))
             (have HOA := Lib.hid (HOV.out.alloc (.cells #[.int .i64 y1,.int .i64 y2,.int .i64 y3,.int .i64 q0,.bool bq,.int .i64 y5,.int .i64 q2,.int .i64 y7,.int .i64 y8,.int .i64 y9,.int .i64 fr] 62)))
             (have HNW : Hid (∀ j u,(Px.enc (⟨y1,y2,y3,q0,bq,y5,q2,y7,y8,y9,fr⟩ : Px))[j]? = some u → (V.alloc (.cells #[.int .i64 y1,.int .i64 y2,.int .i64 y3,.int .i64 q0,.bool bq,.int .i64 y5,.int .i64 q2,.int .i64 y7,.int .i64 y8,.int .i64 y9,.int .i64 fr] 62)).cell? ((⟨V.heap.size,0,none⟩ : Addr).add j) = some u) := World.news_of_block (heap_alloc_new V _))
             (have HONE : Hid (∀ u ∈ (Px.enc (⟨y1,y2,y3,q0,bq,y5,q2,y7,y8,y9,fr⟩ : Px)),u.oneCell' = true) := Px.enc_one _)
             (have hbs : Hid (B ≤ (V.alloc (.cells #[.int .i64 y1,.int .i64 y2,.int .i64 y3,.int .i64 q0,.bool bq,.int .i64 y5,.int .i64 q2,.int .i64 y7,.int .i64 y8,.int .i64 y9,.int .i64 fr] 62)).heap.size) := by (have h1 := HFA.out.size);(have h2 := HBB.out);show _ ≤ _;omega))
          | (at_builtin;refine wpList_append_lies _ rfl _ _ 26 (by rfl) B 62 ii _ 11 88 Tryz.underlying26 hii hzz hs3 hb3' rfl (by omega) u5 i _ (by rfl) HOA.out ⟨V.heap.size,0,none⟩ 1 1 (Px.enc (⟨y1,y2,y3,q0,bq,y5,q2,y7,y8,y9,fr⟩ : Px)) (by rfl) (by rfl) HNW.out HONE.out (by omega) (by unfold maxLen;omega) (by omega) hbs.out _ rfl ?_;intro gq cp w5 hrow5 hg5 hgb5 hgl5))
        have HPX := Lib.hid ((hg5.block p (lies_lt HPA.out) (own_neg HOA.out (by omega))).trans HPA.out)
        have HRX := Lib.hid (RS.keep HRA.out (hg5.block r HRA.out.lt (own_neg HOA.out (by omega))))
        have HFX := Lib.hid (Fr.app HFA.out HOA.out hg5)
        have HOX : Hid (w5.ownsRow B 62 11 (.slice (some ⟨gq,0,none⟩) (i + 1) cp) (i + 1) ((acc ++ [(⟨y1,y2,y3,q0,bq,y5,q2,y7,y8,y9,fr⟩ : Px)]).flatMap Px.enc)) := by
          show World.ownsRow _ _ _ _ _ _ _
          rw [List.flatMap_append,List.flatMap_singleton]
          exact hrow5
        have HKX := Lib.hid ((hg5.block kb (lies_lt HKA.out) (own_neg HOA.out (by omega))).trans HKA.out)
        go_roundw
        case rel => exact ⟨i + 1,τA,acc ++ [(⟨y1,y2,y3,q0,bq,y5,q2,y7,y8,y9,fr⟩ : Px)],xx,by omega,by go_num,by simp [hal],HST,HPX,HRX,HFX,HOX,HKX⟩
        case measure => simp [intOf];omega
      · have HRS : Hid (PRes PT acc x σ) := pinv_stop ha1.out (by rw [hev];exact hz)
        obtain ⟨A,cap,hrv,HIN0⟩ := Pxs_row HO.out hal.symm
        have HIN := Lib.hid HIN0
        have HRV := Lib.hid hrv
        have g1 : (ev == 0) = false := by simpa using hz
        have g1' : (ev != 0) = true := by simpa using hz
        clear ha1 HIN0 hrv HO hev hz
        go_wp2_with (go_at_call 50;(with_reducible refine (HE.out).mono ?_);rintro e w' ⟨rfl,rfl⟩)
        go_returns
        rw [HBB.out]
        exact ⟨⟨x,σ,acc,HRS.out,⟨A,cap,acc,rfl,by show Ending.returned u5 = _;rw [HRV.out],HIN.out⟩,⟨HP.out,HR.out⟩⟩,HF.out⟩
    · have e1 : decide ((i : Int) < (n : Int)) = false := decide_eq_false (by omega)
      have e1' : decide (i < n) = false := decide_eq_false hlt
      have HRS : Hid (PRes PT acc x σ) := pinv_end (by have h := ha1.out;rw [show n - i = 0 by omega] at h;exact h)
      obtain ⟨A,cap,hrv,HIN0⟩ := Pxs_row HO.out hal.symm
      have HIN := Lib.hid HIN0
      have HRV := Lib.hid hrv
      clear ha1 HIN0 hrv HO hev HE
      go_wp2_with fail
      go_returns
      rw [HBB.out]
      exact ⟨⟨x,σ,acc,HRS.out,⟨A,cap,acc,rfl,by show Ending.returned u5 = _;rw [HRV.out],HIN.out⟩,⟨HP.out,HR.out⟩⟩,HF.out⟩
end Go.Proofs.YtdgkanamceeheaaGreat.Im
