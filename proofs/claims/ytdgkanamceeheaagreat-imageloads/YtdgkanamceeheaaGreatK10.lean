/- The document's Load: its regions that append a number. -/
import Derived.Test.YtdgkanamceeheaaGreatK8
import Derived.Test.YtdgkanamceeheaaGreatK9
import Derived.Test.YtdgkanamceeheaaGreatK0
import Derived.Deep.AppendLies
set_option linter.unusedVariables false
set_option maxRecDepth 100000
set_option linter.unusedVariables false
namespace Go.Proofs.YtdgkanamceeheaaGreat.Im
open Go.RowKit
open PitotImg (St rd)
theorem info3 : (Tryz.prog.info? 3).map (fun i => (i.zero,i.size,i.bytes)) = some (some (.int .i64 0),1,8) := by kernel_rfl
structure Fr (base a b : Nat) (w w' : World) : Prop where
  os : w'.os = w.os
  tape : w'.tape = w.tape
  output : w'.output = w.output
  size : w.heap.size ≤ w'.heap.size
  block : ∀ k,k < base → k ≠ a → k ≠ b → k < w.heap.size → w'.heap[k]? = w.heap[k]?
theorem Fr.dr {base a b : Nat} {w : World} : Fr base a b w w.drew := ⟨rfl,rfl,rfl,Nat.le_refl _,fun _ _ _ _ _ => rfl⟩
theorem Fr.refl {base a b : Nat} {w : World} : Fr base a b w w := ⟨rfl,rfl,rfl,Nat.le_refl _,fun _ _ _ _ _ => rfl⟩
theorem Fr.trans {base a b : Nat} {w w' w'' : World} (h : Fr base a b w w') (k : Fr base a b w' w'') : Fr base a b w w'' :=
  ⟨k.os.trans h.os,k.tape.trans h.tape,k.output.trans h.output,Nat.le_trans h.size k.size,fun i h1 h2 h3 h4 => (k.block i h1 h2 h3 (Nat.lt_of_lt_of_le h4 h.size)).trans (h.block i h1 h2 h3 h4)⟩
theorem Fr.grown {base a b : Nat} {w w' : World} (hg : w.grownBy w' (some a)) : Fr base a b w w' :=
  ⟨hg.os,hg.tape,hg.output,hg.size,fun k _ h2 _ h4 => hg.block k h4 (by simpa using h2)⟩
theorem Fr.of_grown {base a b : Nat} {w w' w'' : World} (h : Fr base a b w w') (hg : w'.grownBy w'' (some a)) : Fr base a b w w'' := h.trans (Fr.grown hg)
theorem Fr.al {base a b : Nat} {w w' : World} (h : Fr base a b w w') (o : Obj) : Fr base a b w (w'.alloc o) := h.of_grown (Bi.grown_alloc o)
theorem Fr.set {base a b : Nat} {w w' : World} {i : Nat} {u : Value} (h : Fr base a b w w') : Fr base a b w (w'.setCell ⟨b,i,none⟩ u) :=
  h.trans ⟨rfl,rfl,rfl,by simp [World.setCell],fun k _ _ h3 _ => Below.heap_setCell w' _ u k (by intro e;exact h3 (by rw [e]))⟩
theorem own_neg {w : World} {base n e sz : Nat} {v : Value} {xs : List Value} {k : Nat} (h : w.ownsRow base e sz v n xs) (hk : k < base) : some k ≠ v.ownBlock := fun e => by
  have := (h.lt k e.symm).1
  omega
theorem own_ne {w : World} {base n e sz : Nat} {v : Value} {xs : List Value} {k : Nat} (h : w.ownsRow base e sz v n xs) (hk : k < base) : v.ownBlock = none ∨ v.ownBlock ≠ some k := .inr fun e => own_neg h hk e.symm
theorem Fr.app {base a b e sz n : Nat} {w w' w'' : World} {v : Value} {xs : List Value} (h : Fr base a b w w') (hr : w'.ownsRow base e sz v n xs) (hg : w'.grownBy w'' v.ownBlock) : Fr base a b w w'' :=
  h.trans ⟨hg.os,hg.tape,hg.output,hg.size,fun k h1 _ _ h4 => hg.block k h4 (own_neg hr h1)⟩
theorem heap_set_ne {w : World} {k r i : Nat} {u : Value} (h : k ≠ r) : (w.setCell ⟨k,i,none⟩ u).heap[r]? = w.heap[r]? := Below.heap_setCell w _ u r (by intro e;exact h e.symm)
theorem RS.al {T : TypeId} {w : World} {r : Nat} {σ : St} (h : RS T w r σ) (o : Obj) : RS T (w.alloc o) r σ := h.keep (Below.heap_alloc w o r h.lt)
theorem own_set {w : World} {base e sz n k i : Nat} {v u : Value} {xs : List Value} (h : w.ownsRow base e sz v n xs) (hk : k < base) : (w.setCell ⟨k,i,none⟩ u).ownsRow base e sz v n xs := h.kept (Bi.grown_set k i u) (own_ne h hk)
set_option maxHeartbeats 4000000 in
theorem app15 {W : World} {rb kb base n : Nat} {σ σ' : St} {v : Int} {rv : Value} {xs : List Value} {hosts major : Int} {wv vv qv : Value} (HR : Hid (RS 55 W rb σ)) (HNM : Hid (∀ w,RS 55 w rb σ → Calls Tryz.prog 20 #[.pointer (some ⟨rb,0,none⟩),.int .i64 2] w fun e w' => e = .returned (.int .i64 v) ∧ RS 55 w' rb σ' ∧ w.grownBy w' (some rb))) (HC : Hid (W.heap[kb]? = some (.cells #[.int .i64 hosts,rv,.int .i64 major,wv,vv,qv] 28))) (HOWN : Hid (W.ownsRow base 3 1 rv n xs)) (hn : n ≤ 100000) (HBB : Hid (base ≤ W.heap.size)) (HRB : Hid (rb < base)) (HKB : Hid (kb < base)) (HNE : Hid (kb ≠ rb)) {u0 u1 u2 u3 u4 u5 u8 u9 aa ac ae af ag ah ai aj ak am ao ap aq ar au av aw ax ay aA aB aC aD aE aF aG aH aI aJ aK aL aM aN aO aP aQ aR aS aT aU aV aW aX aY aZ ba bb bc bd bf bg bi bj bm bo br bs bt bu bw bz bA bB bC bD bE bF bG bH bI bJ bK bL bM bN bO bP bQ bR bS bT bU bV bW bX bY bZ cg ci cj ck cq cr ct cu cv cw cy cz cE cF cG cH cI cJ cK cM cN cO cP cQ cR cS cT cU cV cW cX cY cZ da dg di dj dk dq dt du dv dw dy dz dE dF dG dH dI dJ dK dM dN dO dP dQ dR dS dT dU dV dW dX dY dZ ed ee ef eg eh ei ej ek el em eo ep eq et eu ey ez eA eB eC eD eE eF eG eH eI eJ eK eL eM eN eO eP eQ eR eS eT eU eV eW eX eY eZ fa fb fc fd fe fg fh fi fj fk fm fn fo fp fq fs fu fv fw fx fy fz fA fB fC fD fF fG fH fI fJ fK fL fM fN fO fP fQ fR fS fT fU fV fW fX fY fZ ga gb gc gd ge gf gg gh gi gj gk gl gm gn gp gr gt gu gv gw gx gy gz gA : Value} {Q : Exit → Act → World → Prop} (HPN : ∀ (p : List PanicEntry) (a : Act) (dd : Nat) (vv : Value) (w : World),Q (.panic p) (a.put (some dd) vv) w → Q (.panic p) a w) (hQ : ∀ (wc : World) (g cp : Nat),wc.heap[kb]? = some (.cells #[.int .i64 hosts,.slice (some ⟨g,0,none⟩) (n + 1) cp,.int .i64 major,wv,vv,qv] 28) → RS 55 wc rb σ' → wc.ownsRow base 3 1 (.slice (some ⟨g,0,none⟩) (n + 1) cp) (n + 1) (xs ++ [.int .i64 v]) → Fr base rb kb W wc → ∀ x60 x61 x62 x63 x64 x65 x66 : Value,Q .normal ⟨#[u0,u1,u2,u3,u4,u5,(.pointer (some ⟨rb,0,none⟩)),(.pointer (some ⟨kb,0,none⟩)),u8,u9,aa,ac,ae,af,ag,ah,ai,aj,ak,am,ao,ap,aq,ar,au,av,aw,ax,ay,aA,aB,aC,aD,aE,aF,aG,aH,aI,aJ,aK,aL,aM,aN,aO,aP,aQ,aR,aS,aT,aU,aV,aW,aX,aY,aZ,ba,bb,bc,bd,bf,x60,x61,x62,x63,x64,x65,x66,bt,bu,bw,bz,bA,bB,bC,bD,bE,bF,bG,bH,bI,bJ,bK,bL,bM,bN,bO,bP,bQ,bR,bS,bT,bU,bV,bW,bX,bY,bZ,cg,ci,cj,ck,cq,cr,ct,cu,cv,cw,cy,cz,cE,cF,cG,cH,cI,cJ,cK,cM,cN,cO,cP,cQ,cR,cS,cT,cU,cV,cW,cX,cY,cZ,da,dg,di,dj,dk,dq,dt,du,dv,dw,dy,dz,dE,dF,dG,dH,dI,dJ,dK,dM,dN,dO,dP,dQ,dR,dS,dT,dU,dV,dW,dX,dY,dZ,ed,ee,ef,eg,eh,ei,ej,ek,el,em,eo,ep,eq,et,eu,ey,ez,eA,eB,eC,eD,eE,eF,eG,eH,eI,eJ,eK,eL,eM,eN,eO,eP,eQ,eR,eS,eT,eU,eV,eW,eX,eY,eZ,fa,fb,fc,fd,fe,fg,fh,fi,fj,fk,fm,fn,fo,fp,fq,fs,fu,fv,fw,fx,fy,fz,fA,fB,fC,fD,fF,fG,fH,fI,fJ,fK,fL,fM,fN,fO,fP,fQ,fR,fS,fT,fU,fV,fW,fX,fY,fZ,ga,gb,gc,gd,ge,gf,gg,gh,gi,gj,gk,gl,gm,gn,gp,gr,gt,gu,gv,gw,gx,gy,gz,gA],[]⟩ wc) :
    Code.wp Tryz.prog (Code.region 15 #[⟨some 60,.fieldAddr 28 (.tmp 7) 1,0,"ref.go:75",#[],none⟩,⟨some 61,.load 23 (.tmp 60),23,"ref.go:75",#[⟨0,.data⟩],none⟩,⟨some 62,.move (.tmp 6),53,"ref.go:75",#[],none⟩,⟨some 63,.call ⟨.value (.func 20),#[.tmp 62,.const (.int .i64 2)],#[53,3]⟩,3,"ref.go:75",#[⟨2,.data⟩],none⟩,⟨some 64,.buildSlice 23 1 #[(0,.tmp 63)],23,"ref.go:75",#[⟨3,.data⟩],none⟩,⟨some 65,.call ⟨.builtin .append,#[.tmp 61,.tmp 64],#[23,23]⟩,23,"ref.go:75",#[⟨1,.data⟩,⟨4,.data⟩,⟨3,.chain⟩],none⟩,⟨some 66,.fieldAddr 28 (.tmp 7) 1,0,"ref.go:75",#[⟨0,.phase⟩,⟨1,.phase⟩,⟨2,.phase⟩,⟨3,.phase⟩,⟨4,.phase⟩,⟨5,.phase⟩],none⟩,⟨none,.store 23 (.tmp 66) (.tmp 65),0,"ref.go:75",#[⟨6,.data⟩,⟨5,.data⟩,⟨5,.chain⟩,⟨0,.phase⟩,⟨1,.phase⟩,⟨2,.phase⟩,⟨3,.phase⟩,⟨4,.phase⟩,⟨5,.phase⟩],none⟩] true) Q ⟨#[u0,u1,u2,u3,u4,u5,(.pointer (some ⟨rb,0,none⟩)),(.pointer (some ⟨kb,0,none⟩)),u8,u9,aa,ac,ae,af,ag,ah,ai,aj,ak,am,ao,ap,aq,ar,au,av,aw,ax,ay,aA,aB,aC,aD,aE,aF,aG,aH,aI,aJ,aK,aL,aM,aN,aO,aP,aQ,aR,aS,aT,aU,aV,aW,aX,aY,aZ,ba,bb,bc,bd,bf,bg,bi,bj,bm,bo,br,bs,bt,bu,bw,bz,bA,bB,bC,bD,bE,bF,bG,bH,bI,bJ,bK,bL,bM,bN,bO,bP,bQ,bR,bS,bT,bU,bV,bW,bX,bY,bZ,cg,ci,cj,ck,cq,cr,ct,cu,cv,cw,cy,cz,cE,cF,cG,cH,cI,cJ,cK,cM,cN,cO,cP,cQ,cR,cS,cT,cU,cV,cW,cX,cY,cZ,da,dg,di,dj,dk,dq,dt,du,dv,dw,dy,dz,dE,dF,dG,dH,dI,dJ,dK,dM,dN,dO,dP,dQ,dR,dS,dT,dU,dV,dW,dX,dY,dZ,ed,ee,ef,eg,eh,ei,ej,ek,el,em,eo,ep,eq,et,eu,ey,ez,eA,eB,eC,eD,eE,eF,eG,eH,eI,eJ,eK,eL,eM,eN,eO,eP,eQ,eR,eS,eT,eU,eV,eW,eX,eY,eZ,fa,fb,fc,fd,fe,fg,fh,fi,fj,fk,fm,fn,fo,fp,fq,fs,fu,fv,fw,fx,fy,fz,fA,fB,fC,fD,fF,fG,fH,fI,fJ,fK,fL,fM,fN,fO,fP,fQ,fR,fS,fT,fU,fV,fW,fX,fY,fZ,ga,gb,gc,gd,ge,gf,gg,gh,gi,gj,gk,gl,gm,gn,gp,gr,gt,gu,gv,gw,gx,gy,gz,gA],[]⟩ W := by
  have HCc : Hid (W.drew.heap[kb]? = some (.cells #[.int .i64 hosts,rv,.int .i64 major,wv,vv,qv] 28)) := HC.out
  have HRc : Hid (RS 55 W.drew rb σ) := HR.out
  have HOc : Hid (W.drew.ownsRow base 3 1 rv n xs) := HOWN.out
  have HFc : Hid (Fr base rb kb W W.drew) := Fr.dr
  refine wp_region_held_drew (S := fun _ => True) (by kernel_rfl) ?_ (fun hHeld => ?_)
  · exact trivial
  refine tN 0 ?_ rfl (by kernel_rfl) rfl (by intro w;go_simp<;>with_reducible rfl) HPN hHeld
  try simp only [Act.put,yA,yB,yC]
  refine tN 2 ?_ rfl (by kernel_rfl) rfl (by intro w;go_simp<;>with_reducible rfl) HPN hHeld
  try simp only [Act.put,yA,yB,yC]
  refine rY 1 [3] ?_ (by kernel_rfl)
  refine rC rfl (fun K hK => ?_) (rC rfl (fun K hK => ?_) AllReadyH.nil)
  · have hc := lies_cell HCc.out 1
    go_simp
    clear hc
    refine hK.out _ _ ?_ (fun hHeld => ?_)
    · exact trivial
    clear hK K
    try simp only [Act.put,yA,yB,yC]
    refine rY 3 [] ?_ (by kernel_rfl)
    refine rC rfl (fun K hK => ?_) AllReadyH.nil
    go_simp
    (go_at_call 20;(with_reducible refine (HNM.out _ HRc.out).mono ?_);rintro e V ⟨rfl,hw,hg⟩;go_wp2_with fail)
    have HCd := Lib.hid (lies_grown HCc.out hg HNE.out)
    have HRd := Lib.hid hw
    have HOd := Lib.hid (HOc.out.kept hg (own_ne HOc.out HRB.out))
    have HFd := Lib.hid (Fr.of_grown (base := base) (b := kb) HFc.out hg)
    clear HCc HRc HOc HFc hw hg
    have HCc := HCd
    have HRc := HRd
    have HOc := HOd
    have HFc := HFd
    clear HCd HRd HOd HFd
    refine hK.out _ _ ?_ (fun hHeld => ?_)
    · exact trivial
    clear hK K
    try simp only [Act.put,yA,yB,yC]
    refine rY 4 [] ?_ (by kernel_rfl)
    refine rC rfl (fun K hK => ?_) AllReadyH.nil
    go_simp
    have HNW := Lib.hid (World.news_of_block (heap_alloc_new V (.cells #[.int .i64 v] 3)))
    have HCd := Lib.hid (lies_alloc (o := .cells #[.int .i64 v] 3) HCc.out)
    have HRd := Lib.hid (RS.al HRc.out (.cells #[.int .i64 v] 3))
    have HOd := Lib.hid (HOc.out.alloc (.cells #[.int .i64 v] 3))
    have HFd := Lib.hid (Fr.al HFc.out (.cells #[.int .i64 v] 3))
    have HBS : Hid (base ≤ (V.alloc (.cells #[.int .i64 v] 3)).heap.size) := Nat.le_trans HBB.out HFd.out.size
    clear HCc HRc HOc HFc
    have HCc := HCd
    have HRc := HRd
    have HOc := HOd
    have HFc := HFd
    clear HCd HRd HOd HFd
    refine hK.out _ _ ?_ (fun hHeld => ?_)
    · exact trivial
    clear hK K
    try simp only [Act.put,yA,yB,yC]
    refine rY 5 [] ?_ (by kernel_rfl)
    refine rC rfl (fun K hK => ?_) AllReadyH.nil
    obtain ⟨ii,hii,hzz,hs3,hb3⟩ := info_parts info3
    refine step_append_lies _ (by rfl) _ _ 23 (by rfl) base 3 ii _ 1 8 Tryz.underlying23 hii hzz hs3 hb3 rfl (by omega) rv n xs (by rfl) HOc.out ⟨V.heap.size,0,none⟩ 1 1 [.int .i64 v] (by rfl) (by rfl) HNW.out (by simp [Value.oneCell']) (by omega) (by unfold maxLen;omega) (by omega) HBS.out _ rfl ?_
    intro g cp w5 hrow5 hg5 hgb hgl
    have HGL : Hid (base ≤ g) := (hrow5.lt g rfl).1
    have HCd := Lib.hid (hg5.block kb (lies_lt HCc.out) (own_neg HOc.out HKB.out)|>.trans HCc.out)
    have HRd := Lib.hid (RS.keep HRc.out (hg5.block rb HRc.out.lt (own_neg HOc.out HRB.out)))
    have HOd := Lib.hid hrow5
    have HFd := Lib.hid (Fr.app HFc.out HOc.out hg5)
    clear HCc HRc HOc HFc hrow5 hg5 hgb hgl hii hzz hs3 hb3 ii
    refine hK.out _ _ ?_ (fun hHeld => ?_)
    · exact trivial
    clear hK K
    try simp only [Act.put,yA,yB,yC]
    refine tN 6 ?_ rfl (by kernel_rfl) rfl (by intro w;go_simp<;>with_reducible rfl) HPN hHeld
    try simp only [Act.put,yA,yB,yC]
    refine rY 7 [] ?_ (by kernel_rfl)
    refine rC rfl (fun K hK => ?_) AllReadyH.nil
    have hc := lies_cell HCd.out 1
    have hf := lies_frozen HCd.out 1
    go_simp
    clear hc hf
    refine hK.out _ _ ?_ (fun hHeld => ?_)
    · exact trivial
    clear hK K
    try simp only [Act.put,yA,yB,yC]
    refine wpAnyH_done (by kernel_rfl) ?_ _
    clear hHeld
    exact hQ _ g cp (lies_set HCd.out 1 _) (RS.keep HRd.out (heap_set_ne HNE.out)) (own_set HOd.out HKB.out) (Fr.set HFd.out) _ _ _ _ _ _ _
  · go_simp
    (go_at_call 20;(with_reducible refine (HNM.out _ HRc.out).mono ?_);rintro e V ⟨rfl,hw,hg⟩;go_wp2_with fail)
    have HCd := Lib.hid (lies_grown HCc.out hg HNE.out)
    have HRd := Lib.hid hw
    have HOd := Lib.hid (HOc.out.kept hg (own_ne HOc.out HRB.out))
    have HFd := Lib.hid (Fr.of_grown (base := base) (b := kb) HFc.out hg)
    clear HCc HRc HOc HFc hw hg
    have HCc := HCd
    have HRc := HRd
    have HOc := HOd
    have HFc := HFd
    clear HCd HRd HOd HFd
    refine hK.out _ _ ?_ (fun hHeld => ?_)
    · exact trivial
    clear hK K
    try simp only [Act.put,yA,yB,yC]
    refine rY 1 [4] ?_ (by kernel_rfl)
    refine rC rfl (fun K hK => ?_) (rC rfl (fun K hK => ?_) AllReadyH.nil)
    · have hc := lies_cell HCc.out 1
      go_simp
      clear hc
      refine hK.out _ _ ?_ (fun hHeld => ?_)
      · exact trivial
      clear hK K
      try simp only [Act.put,yA,yB,yC]
      refine rY 4 [] ?_ (by kernel_rfl)
      refine rC rfl (fun K hK => ?_) AllReadyH.nil
      go_simp
      have HNW := Lib.hid (World.news_of_block (heap_alloc_new V (.cells #[.int .i64 v] 3)))
      have HCd := Lib.hid (lies_alloc (o := .cells #[.int .i64 v] 3) HCc.out)
      have HRd := Lib.hid (RS.al HRc.out (.cells #[.int .i64 v] 3))
      have HOd := Lib.hid (HOc.out.alloc (.cells #[.int .i64 v] 3))
      have HFd := Lib.hid (Fr.al HFc.out (.cells #[.int .i64 v] 3))
      have HBS : Hid (base ≤ (V.alloc (.cells #[.int .i64 v] 3)).heap.size) := Nat.le_trans HBB.out HFd.out.size
      clear HCc HRc HOc HFc
      have HCc := HCd
      have HRc := HRd
      have HOc := HOd
      have HFc := HFd
      clear HCd HRd HOd HFd
      refine hK.out _ _ ?_ (fun hHeld => ?_)
      · exact trivial
      clear hK K
      try simp only [Act.put,yA,yB,yC]
      refine rY 5 [] ?_ (by kernel_rfl)
      refine rC rfl (fun K hK => ?_) AllReadyH.nil
      obtain ⟨ii,hii,hzz,hs3,hb3⟩ := info_parts info3
      refine step_append_lies _ (by rfl) _ _ 23 (by rfl) base 3 ii _ 1 8 Tryz.underlying23 hii hzz hs3 hb3 rfl (by omega) rv n xs (by rfl) HOc.out ⟨V.heap.size,0,none⟩ 1 1 [.int .i64 v] (by rfl) (by rfl) HNW.out (by simp [Value.oneCell']) (by omega) (by unfold maxLen;omega) (by omega) HBS.out _ rfl ?_
      intro g cp w5 hrow5 hg5 hgb hgl
      have HGL : Hid (base ≤ g) := (hrow5.lt g rfl).1
      have HCd := Lib.hid (hg5.block kb (lies_lt HCc.out) (own_neg HOc.out HKB.out)|>.trans HCc.out)
      have HRd := Lib.hid (RS.keep HRc.out (hg5.block rb HRc.out.lt (own_neg HOc.out HRB.out)))
      have HOd := Lib.hid hrow5
      have HFd := Lib.hid (Fr.app HFc.out HOc.out hg5)
      clear HCc HRc HOc HFc hrow5 hg5 hgb hgl hii hzz hs3 hb3 ii
      refine hK.out _ _ ?_ (fun hHeld => ?_)
      · exact trivial
      clear hK K
      try simp only [Act.put,yA,yB,yC]
      refine tN 6 ?_ rfl (by kernel_rfl) rfl (by intro w;go_simp<;>with_reducible rfl) HPN hHeld
      try simp only [Act.put,yA,yB,yC]
      refine rY 7 [] ?_ (by kernel_rfl)
      refine rC rfl (fun K hK => ?_) AllReadyH.nil
      have hc := lies_cell HCd.out 1
      have hf := lies_frozen HCd.out 1
      go_simp
      clear hc hf
      refine hK.out _ _ ?_ (fun hHeld => ?_)
      · exact trivial
      clear hK K
      try simp only [Act.put,yA,yB,yC]
      refine wpAnyH_done (by kernel_rfl) ?_ _
      clear hHeld
      exact hQ _ g cp (lies_set HCd.out 1 _) (RS.keep HRd.out (heap_set_ne HNE.out)) (own_set HOd.out HKB.out) (Fr.set HFd.out) _ _ _ _ _ _ _
    · go_simp
      have HNW := Lib.hid (World.news_of_block (heap_alloc_new V (.cells #[.int .i64 v] 3)))
      have HCd := Lib.hid (lies_alloc (o := .cells #[.int .i64 v] 3) HCc.out)
      have HRd := Lib.hid (RS.al HRc.out (.cells #[.int .i64 v] 3))
      have HOd := Lib.hid (HOc.out.alloc (.cells #[.int .i64 v] 3))
      have HFd := Lib.hid (Fr.al HFc.out (.cells #[.int .i64 v] 3))
      have HBS : Hid (base ≤ (V.alloc (.cells #[.int .i64 v] 3)).heap.size) := Nat.le_trans HBB.out HFd.out.size
      clear HCc HRc HOc HFc
      have HCc := HCd
      have HRc := HRd
      have HOc := HOd
      have HFc := HFd
      clear HCd HRd HOd HFd
      refine hK.out _ _ ?_ (fun hHeld => ?_)
      · exact trivial
      clear hK K
      try simp only [Act.put,yA,yB,yC]
      refine rY 1 [] ?_ (by kernel_rfl)
      refine rC rfl (fun K hK => ?_) AllReadyH.nil
      have hc := lies_cell HCc.out 1
      go_simp
      clear hc
      refine hK.out _ _ ?_ (fun hHeld => ?_)
      · exact trivial
      clear hK K
      try simp only [Act.put,yA,yB,yC]
      refine rY 5 [] ?_ (by kernel_rfl)
      refine rC rfl (fun K hK => ?_) AllReadyH.nil
      obtain ⟨ii,hii,hzz,hs3,hb3⟩ := info_parts info3
      refine step_append_lies _ (by rfl) _ _ 23 (by rfl) base 3 ii _ 1 8 Tryz.underlying23 hii hzz hs3 hb3 rfl (by omega) rv n xs (by rfl) HOc.out ⟨V.heap.size,0,none⟩ 1 1 [.int .i64 v] (by rfl) (by rfl) HNW.out (by simp [Value.oneCell']) (by omega) (by unfold maxLen;omega) (by omega) HBS.out _ rfl ?_
      intro g cp w5 hrow5 hg5 hgb hgl
      have HGL : Hid (base ≤ g) := (hrow5.lt g rfl).1
      have HCd := Lib.hid (hg5.block kb (lies_lt HCc.out) (own_neg HOc.out HKB.out)|>.trans HCc.out)
      have HRd := Lib.hid (RS.keep HRc.out (hg5.block rb HRc.out.lt (own_neg HOc.out HRB.out)))
      have HOd := Lib.hid hrow5
      have HFd := Lib.hid (Fr.app HFc.out HOc.out hg5)
      clear HCc HRc HOc HFc hrow5 hg5 hgb hgl hii hzz hs3 hb3 ii
      refine hK.out _ _ ?_ (fun hHeld => ?_)
      · exact trivial
      clear hK K
      try simp only [Act.put,yA,yB,yC]
      refine tN 6 ?_ rfl (by kernel_rfl) rfl (by intro w;go_simp<;>with_reducible rfl) HPN hHeld
      try simp only [Act.put,yA,yB,yC]
      refine rY 7 [] ?_ (by kernel_rfl)
      refine rC rfl (fun K hK => ?_) AllReadyH.nil
      have hc := lies_cell HCd.out 1
      have hf := lies_frozen HCd.out 1
      go_simp
      clear hc hf
      refine hK.out _ _ ?_ (fun hHeld => ?_)
      · exact trivial
      clear hK K
      try simp only [Act.put,yA,yB,yC]
      refine wpAnyH_done (by kernel_rfl) ?_ _
      clear hHeld
      exact hQ _ g cp (lies_set HCd.out 1 _) (RS.keep HRd.out (heap_set_ne HNE.out)) (own_set HOd.out HKB.out) (Fr.set HFd.out) _ _ _ _ _ _ _
set_option maxHeartbeats 4000000 in
theorem app43 {W : World} {rb kb base n : Nat} {σ σ' : St} {v : Int} {rv : Value} {xs : List Value} {vid vhost vbag vsmax vsubs vskew : Int} {vhigh : Bool} (HR : Hid (RS 55 W rb σ)) (HNM : Hid (∀ w,RS 55 w rb σ → Calls Tryz.prog 20 #[.pointer (some ⟨rb,0,none⟩),.int .i64 2] w fun e w' => e = .returned (.int .i64 v) ∧ RS 55 w' rb σ' ∧ w.grownBy w' (some rb))) (HC : Hid (W.heap[kb]? = some (.cells #[.int .i64 vid,.int .i64 vhost,.int .i64 vbag,.int .i64 vsmax,.bool vhigh,.int .i64 vsubs,.int .i64 vskew,rv] 60))) (HOWN : Hid (W.ownsRow base 3 1 rv n xs)) (hn : n ≤ 100000) (HBB : Hid (base ≤ W.heap.size)) (HRB : Hid (rb < base)) (HKB : Hid (kb < base)) (HNE : Hid (kb ≠ rb)) {u0 u1 u2 u3 u4 u5 u7 u8 u9 aa ac ae ag ah ai aj ak am ao ap aq ar au av aw ax ay aA aB aC aD aE aF aG aH aI aJ aK aL aM aN aO aP aQ aR aS aT aU aV aW aX aY aZ ba bb bc bd bf bg bi bj bm bo br bs bt bu bw bz bA bB bC bD bE bF bG bH bI bJ bK bL bM bN bO bP bQ bR bS bT bU bV bW bX bY bZ cg ci cj ck cq cr ct cu cv cw cy cz cE cF cG cH cI cJ cK cM cN cO cP cQ cR cS cT cU cV cW cX cY cZ da dg di dj dk dq dt du dv dw dy dz dE dF dG dH dI dJ dK dM dN dO dP dQ dR dS dT dU dV dW dX dY dZ ed ee ef eg eh ei ej ek el em eo ep eq et eu ey ez eA eB eC eD eE eF eG eH eI eJ eK eL eM eN eO eP eQ eR eS eT eU eV eW eX eY eZ fa fb fc fd fe fg fh fi fj fk fm fn fo fp fq fs fu fv fw fx fy fz fA fB fC fD fF fG fH fI fJ fK fL fM fN fO fP fQ fR fS fT fU fV fW fX fY fZ ga gb gc gd ge gf gg gh gi gj gk gl gm gn gp gr gt gu gv gw gx gy gz gA : Value} {Q : Exit → Act → World → Prop} (HPN : ∀ (p : List PanicEntry) (a : Act) (dd : Nat) (vv : Value) (w : World),Q (.panic p) (a.put (some dd) vv) w → Q (.panic p) a w) (hQ : ∀ (wc : World) (g cp : Nat),wc.heap[kb]? = some (.cells #[.int .i64 vid,.int .i64 vhost,.int .i64 vbag,.int .i64 vsmax,.bool vhigh,.int .i64 vsubs,.int .i64 vskew,.slice (some ⟨g,0,none⟩) (n + 1) cp] 60) → RS 55 wc rb σ' → wc.ownsRow base 3 1 (.slice (some ⟨g,0,none⟩) (n + 1) cp) (n + 1) (xs ++ [.int .i64 v]) → Fr base rb kb W wc → ∀ x152 x153 x154 x155 x156 x157 x158 : Value,Q .normal ⟨#[u0,u1,u2,u3,u4,u5,(.pointer (some ⟨rb,0,none⟩)),u7,u8,u9,aa,ac,ae,(.pointer (some ⟨kb,0,none⟩)),ag,ah,ai,aj,ak,am,ao,ap,aq,ar,au,av,aw,ax,ay,aA,aB,aC,aD,aE,aF,aG,aH,aI,aJ,aK,aL,aM,aN,aO,aP,aQ,aR,aS,aT,aU,aV,aW,aX,aY,aZ,ba,bb,bc,bd,bf,bg,bi,bj,bm,bo,br,bs,bt,bu,bw,bz,bA,bB,bC,bD,bE,bF,bG,bH,bI,bJ,bK,bL,bM,bN,bO,bP,bQ,bR,bS,bT,bU,bV,bW,bX,bY,bZ,cg,ci,cj,ck,cq,cr,ct,cu,cv,cw,cy,cz,cE,cF,cG,cH,cI,cJ,cK,cM,cN,cO,cP,cQ,cR,cS,cT,cU,cV,cW,cX,cY,cZ,da,dg,di,dj,dk,dq,dt,du,dv,dw,dy,dz,dE,dF,dG,dH,dI,dJ,dK,dM,dN,dO,x152,x153,x154,x155,x156,x157,x158,dW,dX,dY,dZ,ed,ee,ef,eg,eh,ei,ej,ek,el,em,eo,ep,eq,et,eu,ey,ez,eA,eB,eC,eD,eE,eF,eG,eH,eI,eJ,eK,eL,eM,eN,eO,eP,eQ,eR,eS,eT,eU,eV,eW,eX,eY,eZ,fa,fb,fc,fd,fe,fg,fh,fi,fj,fk,fm,fn,fo,fp,fq,fs,fu,fv,fw,fx,fy,fz,fA,fB,fC,fD,fF,fG,fH,fI,fJ,fK,fL,fM,fN,fO,fP,fQ,fR,fS,fT,fU,fV,fW,fX,fY,fZ,ga,gb,gc,gd,ge,gf,gg,gh,gi,gj,gk,gl,gm,gn,gp,gr,gt,gu,gv,gw,gx,gy,gz,gA],[]⟩ wc) :
    Code.wp Tryz.prog (Code.region 43 #[⟨some 152,.fieldAddr 60 (.tmp 13) 7,0,"ref.go:99",#[],none⟩,⟨some 153,.load 23 (.tmp 152),23,"ref.go:99",#[⟨0,.data⟩],none⟩,⟨some 154,.move (.tmp 6),53,"ref.go:99",#[],none⟩,⟨some 155,.call ⟨.value (.func 20),#[.tmp 154,.const (.int .i64 2)],#[53,3]⟩,3,"ref.go:99",#[⟨2,.data⟩],none⟩,⟨some 156,.buildSlice 23 1 #[(0,.tmp 155)],23,"ref.go:99",#[⟨3,.data⟩],none⟩,⟨some 157,.call ⟨.builtin .append,#[.tmp 153,.tmp 156],#[23,23]⟩,23,"ref.go:99",#[⟨1,.data⟩,⟨4,.data⟩,⟨3,.chain⟩],none⟩,⟨some 158,.fieldAddr 60 (.tmp 13) 7,0,"ref.go:99",#[⟨0,.phase⟩,⟨1,.phase⟩,⟨2,.phase⟩,⟨3,.phase⟩,⟨4,.phase⟩,⟨5,.phase⟩],none⟩,⟨none,.store 23 (.tmp 158) (.tmp 157),0,"ref.go:99",#[⟨6,.data⟩,⟨5,.data⟩,⟨5,.chain⟩,⟨0,.phase⟩,⟨1,.phase⟩,⟨2,.phase⟩,⟨3,.phase⟩,⟨4,.phase⟩,⟨5,.phase⟩],none⟩] true) Q ⟨#[u0,u1,u2,u3,u4,u5,(.pointer (some ⟨rb,0,none⟩)),u7,u8,u9,aa,ac,ae,(.pointer (some ⟨kb,0,none⟩)),ag,ah,ai,aj,ak,am,ao,ap,aq,ar,au,av,aw,ax,ay,aA,aB,aC,aD,aE,aF,aG,aH,aI,aJ,aK,aL,aM,aN,aO,aP,aQ,aR,aS,aT,aU,aV,aW,aX,aY,aZ,ba,bb,bc,bd,bf,bg,bi,bj,bm,bo,br,bs,bt,bu,bw,bz,bA,bB,bC,bD,bE,bF,bG,bH,bI,bJ,bK,bL,bM,bN,bO,bP,bQ,bR,bS,bT,bU,bV,bW,bX,bY,bZ,cg,ci,cj,ck,cq,cr,ct,cu,cv,cw,cy,cz,cE,cF,cG,cH,cI,cJ,cK,cM,cN,cO,cP,cQ,cR,cS,cT,cU,cV,cW,cX,cY,cZ,da,dg,di,dj,dk,dq,dt,du,dv,dw,dy,dz,dE,dF,dG,dH,dI,dJ,dK,dM,dN,dO,dP,dQ,dR,dS,dT,dU,dV,dW,dX,dY,dZ,ed,ee,ef,eg,eh,ei,ej,ek,el,em,eo,ep,eq,et,eu,ey,ez,eA,eB,eC,eD,eE,eF,eG,eH,eI,eJ,eK,eL,eM,eN,eO,eP,eQ,eR,eS,eT,eU,eV,eW,eX,eY,eZ,fa,fb,fc,fd,fe,fg,fh,fi,fj,fk,fm,fn,fo,fp,fq,fs,fu,fv,fw,fx,fy,fz,fA,fB,fC,fD,fF,fG,fH,fI,fJ,fK,fL,fM,fN,fO,fP,fQ,fR,fS,fT,fU,fV,fW,fX,fY,fZ,ga,gb,gc,gd,ge,gf,gg,gh,gi,gj,gk,gl,gm,gn,gp,gr,gt,gu,gv,gw,gx,gy,gz,gA],[]⟩ W := by
  have HCc : Hid (W.drew.heap[kb]? = some (.cells #[.int .i64 vid,.int .i64 vhost,.int .i64 vbag,.int .i64 vsmax,.bool vhigh,.int .i64 vsubs,.int .i64 vskew,rv] 60)) := HC.out
  have HRc : Hid (RS 55 W.drew rb σ) := HR.out
  have HOc : Hid (W.drew.ownsRow base 3 1 rv n xs) := HOWN.out
  have HFc : Hid (Fr base rb kb W W.drew) := Fr.dr
  refine wp_region_held_drew (S := fun _ => True) (by kernel_rfl) ?_ (fun hHeld => ?_)
  · exact trivial
  refine tN 0 ?_ rfl (by kernel_rfl) rfl (by intro w;go_simp<;>with_reducible rfl) HPN hHeld
  try simp only [Act.put,yA,yB,yC]
  refine tN 2 ?_ rfl (by kernel_rfl) rfl (by intro w;go_simp<;>with_reducible rfl) HPN hHeld
  try simp only [Act.put,yA,yB,yC]
  refine rY 1 [3] ?_ (by kernel_rfl)
  refine rC rfl (fun K hK => ?_) (rC rfl (fun K hK => ?_) AllReadyH.nil)
  · have hc := lies_cell HCc.out 7
    go_simp
    clear hc
    refine hK.out _ _ ?_ (fun hHeld => ?_)
    · exact trivial
    clear hK K
    try simp only [Act.put,yA,yB,yC]
    refine rY 3 [] ?_ (by kernel_rfl)
    refine rC rfl (fun K hK => ?_) AllReadyH.nil
    go_simp
    (go_at_call 20;(with_reducible refine (HNM.out _ HRc.out).mono ?_);rintro e V ⟨rfl,hw,hg⟩;go_wp2_with fail)
    have HCd := Lib.hid (lies_grown HCc.out hg HNE.out)
    have HRd := Lib.hid hw
    have HOd := Lib.hid (HOc.out.kept hg (own_ne HOc.out HRB.out))
    have HFd := Lib.hid (Fr.of_grown (base := base) (b := kb) HFc.out hg)
    clear HCc HRc HOc HFc hw hg
    have HCc := HCd
    have HRc := HRd
    have HOc := HOd
    have HFc := HFd
    clear HCd HRd HOd HFd
    refine hK.out _ _ ?_ (fun hHeld => ?_)
    · exact trivial
    clear hK K
    try simp only [Act.put,yA,yB,yC]
    refine rY 4 [] ?_ (by kernel_rfl)
    refine rC rfl (fun K hK => ?_) AllReadyH.nil
    go_simp
    have HNW := Lib.hid (World.news_of_block (heap_alloc_new V (.cells #[.int .i64 v] 3)))
    have HCd := Lib.hid (lies_alloc (o := .cells #[.int .i64 v] 3) HCc.out)
    have HRd := Lib.hid (RS.al HRc.out (.cells #[.int .i64 v] 3))
    have HOd := Lib.hid (HOc.out.alloc (.cells #[.int .i64 v] 3))
    have HFd := Lib.hid (Fr.al HFc.out (.cells #[.int .i64 v] 3))
    have HBS : Hid (base ≤ (V.alloc (.cells #[.int .i64 v] 3)).heap.size) := Nat.le_trans HBB.out HFd.out.size
    clear HCc HRc HOc HFc
    have HCc := HCd
    have HRc := HRd
    have HOc := HOd
    have HFc := HFd
    clear HCd HRd HOd HFd
    refine hK.out _ _ ?_ (fun hHeld => ?_)
    · exact trivial
    clear hK K
    try simp only [Act.put,yA,yB,yC]
    refine rY 5 [] ?_ (by kernel_rfl)
    refine rC rfl (fun K hK => ?_) AllReadyH.nil
    obtain ⟨ii,hii,hzz,hs3,hb3⟩ := info_parts info3
    refine step_append_lies _ (by rfl) _ _ 23 (by rfl) base 3 ii _ 1 8 Tryz.underlying23 hii hzz hs3 hb3 rfl (by omega) rv n xs (by rfl) HOc.out ⟨V.heap.size,0,none⟩ 1 1 [.int .i64 v] (by rfl) (by rfl) HNW.out (by simp [Value.oneCell']) (by omega) (by unfold maxLen;omega) (by omega) HBS.out _ rfl ?_
    intro g cp w5 hrow5 hg5 hgb hgl
    have HGL : Hid (base ≤ g) := (hrow5.lt g rfl).1
    have HCd := Lib.hid (hg5.block kb (lies_lt HCc.out) (own_neg HOc.out HKB.out)|>.trans HCc.out)
    have HRd := Lib.hid (RS.keep HRc.out (hg5.block rb HRc.out.lt (own_neg HOc.out HRB.out)))
    have HOd := Lib.hid hrow5
    have HFd := Lib.hid (Fr.app HFc.out HOc.out hg5)
    clear HCc HRc HOc HFc hrow5 hg5 hgb hgl hii hzz hs3 hb3 ii
    refine hK.out _ _ ?_ (fun hHeld => ?_)
    · exact trivial
    clear hK K
    try simp only [Act.put,yA,yB,yC]
    refine tN 6 ?_ rfl (by kernel_rfl) rfl (by intro w;go_simp<;>with_reducible rfl) HPN hHeld
    try simp only [Act.put,yA,yB,yC]
    refine rY 7 [] ?_ (by kernel_rfl)
    refine rC rfl (fun K hK => ?_) AllReadyH.nil
    have hc := lies_cell HCd.out 7
    have hf := lies_frozen HCd.out 7
    go_simp
    clear hc hf
    refine hK.out _ _ ?_ (fun hHeld => ?_)
    · exact trivial
    clear hK K
    try simp only [Act.put,yA,yB,yC]
    refine wpAnyH_done (by kernel_rfl) ?_ _
    clear hHeld
    exact hQ _ g cp (lies_set HCd.out 7 _) (RS.keep HRd.out (heap_set_ne HNE.out)) (own_set HOd.out HKB.out) (Fr.set HFd.out) _ _ _ _ _ _ _
  · go_simp
    (go_at_call 20;(with_reducible refine (HNM.out _ HRc.out).mono ?_);rintro e V ⟨rfl,hw,hg⟩;go_wp2_with fail)
    have HCd := Lib.hid (lies_grown HCc.out hg HNE.out)
    have HRd := Lib.hid hw
    have HOd := Lib.hid (HOc.out.kept hg (own_ne HOc.out HRB.out))
    have HFd := Lib.hid (Fr.of_grown (base := base) (b := kb) HFc.out hg)
    clear HCc HRc HOc HFc hw hg
    have HCc := HCd
    have HRc := HRd
    have HOc := HOd
    have HFc := HFd
    clear HCd HRd HOd HFd
    refine hK.out _ _ ?_ (fun hHeld => ?_)
    · exact trivial
    clear hK K
    try simp only [Act.put,yA,yB,yC]
    refine rY 1 [4] ?_ (by kernel_rfl)
    refine rC rfl (fun K hK => ?_) (rC rfl (fun K hK => ?_) AllReadyH.nil)
    · have hc := lies_cell HCc.out 7
      go_simp
      clear hc
      refine hK.out _ _ ?_ (fun hHeld => ?_)
      · exact trivial
      clear hK K
      try simp only [Act.put,yA,yB,yC]
      refine rY 4 [] ?_ (by kernel_rfl)
      refine rC rfl (fun K hK => ?_) AllReadyH.nil
      go_simp
      have HNW := Lib.hid (World.news_of_block (heap_alloc_new V (.cells #[.int .i64 v] 3)))
      have HCd := Lib.hid (lies_alloc (o := .cells #[.int .i64 v] 3) HCc.out)
      have HRd := Lib.hid (RS.al HRc.out (.cells #[.int .i64 v] 3))
      have HOd := Lib.hid (HOc.out.alloc (.cells #[.int .i64 v] 3))
      have HFd := Lib.hid (Fr.al HFc.out (.cells #[.int .i64 v] 3))
      have HBS : Hid (base ≤ (V.alloc (.cells #[.int .i64 v] 3)).heap.size) := Nat.le_trans HBB.out HFd.out.size
      clear HCc HRc HOc HFc
      have HCc := HCd
      have HRc := HRd
      have HOc := HOd
      have HFc := HFd
      clear HCd HRd HOd HFd
      refine hK.out _ _ ?_ (fun hHeld => ?_)
      · exact trivial
      clear hK K
      try simp only [Act.put,yA,yB,yC]
      refine rY 5 [] ?_ (by kernel_rfl)
      refine rC rfl (fun K hK => ?_) AllReadyH.nil
      obtain ⟨ii,hii,hzz,hs3,hb3⟩ := info_parts info3
      refine step_append_lies _ (by rfl) _ _ 23 (by rfl) base 3 ii _ 1 8 Tryz.underlying23 hii hzz hs3 hb3 rfl (by omega) rv n xs (by rfl) HOc.out ⟨V.heap.size,0,none⟩ 1 1 [.int .i64 v] (by rfl) (by rfl) HNW.out (by simp [Value.oneCell']) (by omega) (by unfold maxLen;omega) (by omega) HBS.out _ rfl ?_
      intro g cp w5 hrow5 hg5 hgb hgl
      have HGL : Hid (base ≤ g) := (hrow5.lt g rfl).1
      have HCd := Lib.hid (hg5.block kb (lies_lt HCc.out) (own_neg HOc.out HKB.out)|>.trans HCc.out)
      have HRd := Lib.hid (RS.keep HRc.out (hg5.block rb HRc.out.lt (own_neg HOc.out HRB.out)))
      have HOd := Lib.hid hrow5
      have HFd := Lib.hid (Fr.app HFc.out HOc.out hg5)
      clear HCc HRc HOc HFc hrow5 hg5 hgb hgl hii hzz hs3 hb3 ii
      refine hK.out _ _ ?_ (fun hHeld => ?_)
      · exact trivial
      clear hK K
      try simp only [Act.put,yA,yB,yC]
      refine tN 6 ?_ rfl (by kernel_rfl) rfl (by intro w;go_simp<;>with_reducible rfl) HPN hHeld
      try simp only [Act.put,yA,yB,yC]
      refine rY 7 [] ?_ (by kernel_rfl)
      refine rC rfl (fun K hK => ?_) AllReadyH.nil
      have hc := lies_cell HCd.out 7
      have hf := lies_frozen HCd.out 7
      go_simp
      clear hc hf
      refine hK.out _ _ ?_ (fun hHeld => ?_)
      · exact trivial
      clear hK K
      try simp only [Act.put,yA,yB,yC]
      refine wpAnyH_done (by kernel_rfl) ?_ _
      clear hHeld
      exact hQ _ g cp (lies_set HCd.out 7 _) (RS.keep HRd.out (heap_set_ne HNE.out)) (own_set HOd.out HKB.out) (Fr.set HFd.out) _ _ _ _ _ _ _
    · go_simp
      have HNW := Lib.hid (World.news_of_block (heap_alloc_new V (.cells #[.int .i64 v] 3)))
      have HCd := Lib.hid (lies_alloc (o := .cells #[.int .i64 v] 3) HCc.out)
      have HRd := Lib.hid (RS.al HRc.out (.cells #[.int .i64 v] 3))
      have HOd := Lib.hid (HOc.out.alloc (.cells #[.int .i64 v] 3))
      have HFd := Lib.hid (Fr.al HFc.out (.cells #[.int .i64 v] 3))
      have HBS : Hid (base ≤ (V.alloc (.cells #[.int .i64 v] 3)).heap.size) := Nat.le_trans HBB.out HFd.out.size
      clear HCc HRc HOc HFc
      have HCc := HCd
      have HRc := HRd
      have HOc := HOd
      have HFc := HFd
      clear HCd HRd HOd HFd
      refine hK.out _ _ ?_ (fun hHeld => ?_)
      · exact trivial
      clear hK K
      try simp only [Act.put,yA,yB,yC]
      refine rY 1 [] ?_ (by kernel_rfl)
      refine rC rfl (fun K hK => ?_) AllReadyH.nil
      have hc := lies_cell HCc.out 7
      go_simp
      clear hc
      refine hK.out _ _ ?_ (fun hHeld => ?_)
      · exact trivial
      clear hK K
      try simp only [Act.put,yA,yB,yC]
      refine rY 5 [] ?_ (by kernel_rfl)
      refine rC rfl (fun K hK => ?_) AllReadyH.nil
      obtain ⟨ii,hii,hzz,hs3,hb3⟩ := info_parts info3
      refine step_append_lies _ (by rfl) _ _ 23 (by rfl) base 3 ii _ 1 8 Tryz.underlying23 hii hzz hs3 hb3 rfl (by omega) rv n xs (by rfl) HOc.out ⟨V.heap.size,0,none⟩ 1 1 [.int .i64 v] (by rfl) (by rfl) HNW.out (by simp [Value.oneCell']) (by omega) (by unfold maxLen;omega) (by omega) HBS.out _ rfl ?_
      intro g cp w5 hrow5 hg5 hgb hgl
      have HGL : Hid (base ≤ g) := (hrow5.lt g rfl).1
      have HCd := Lib.hid (hg5.block kb (lies_lt HCc.out) (own_neg HOc.out HKB.out)|>.trans HCc.out)
      have HRd := Lib.hid (RS.keep HRc.out (hg5.block rb HRc.out.lt (own_neg HOc.out HRB.out)))
      have HOd := Lib.hid hrow5
      have HFd := Lib.hid (Fr.app HFc.out HOc.out hg5)
      clear HCc HRc HOc HFc hrow5 hg5 hgb hgl hii hzz hs3 hb3 ii
      refine hK.out _ _ ?_ (fun hHeld => ?_)
      · exact trivial
      clear hK K
      try simp only [Act.put,yA,yB,yC]
      refine tN 6 ?_ rfl (by kernel_rfl) rfl (by intro w;go_simp<;>with_reducible rfl) HPN hHeld
      try simp only [Act.put,yA,yB,yC]
      refine rY 7 [] ?_ (by kernel_rfl)
      refine rC rfl (fun K hK => ?_) AllReadyH.nil
      have hc := lies_cell HCd.out 7
      have hf := lies_frozen HCd.out 7
      go_simp
      clear hc hf
      refine hK.out _ _ ?_ (fun hHeld => ?_)
      · exact trivial
      clear hK K
      try simp only [Act.put,yA,yB,yC]
      refine wpAnyH_done (by kernel_rfl) ?_ _
      clear hHeld
      exact hQ _ g cp (lies_set HCd.out 7 _) (RS.keep HRd.out (heap_set_ne HNE.out)) (own_set HOd.out HKB.out) (Fr.set HFd.out) _ _ _ _ _ _ _
end Go.Proofs.YtdgkanamceeheaaGreat.Im
