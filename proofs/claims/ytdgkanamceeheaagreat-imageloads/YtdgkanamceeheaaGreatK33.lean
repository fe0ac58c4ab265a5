/- The document's Check. The document's Load: what is wrong with a Fresh; what is answered. -/
import Derived.Test.YtdgkanamceeheaaGreatK30
import Derived.Test.YtdgkanamceeheaaGreatK31
import Derived.Test.YtdgkanamceeheaaGreatK32
import Derived.Test.YtdgkanamceeheaaGreatK17
import Derived.Test.YtdgkanamceeheaaGreatK14
import Derived.Test.YtdgkanamceeheaaGreatK11
set_option linter.unusedVariables false
set_option maxRecDepth 100000
namespace Go.Proofs.YtdgkanamceeheaaGreat
open Go.RowKit
def at_ {α : Type} (J : List α → α → Int) (l : List α) (k : Nat) : Int := if h : k < l.length then J (l.take k) l[k] else 0
theorem at_eq {α : Type} (J : List α → α → Int) (l : List α) (k : Nat) (h : k < l.length) : at_ J l k = J (l.take k) l[k] := dif_pos h
theorem at_hit {α : Type} {J : List α → α → Int} {l : List α} {k : Nat} (hk : k < l.length) (hp : ∀ q,q < k → at_ J l q = 0) (h : at_ J l k ≠ 0) : told (PitotConf.scan J [] l) = ((k : Int),at_ J l k) := by
  have : PitotConf.scan J [] l = some (k,at_ J l k) := by
    rw [PitotConf.scan_some]
    refine ⟨k,hk,by simp,by rw [at_eq J l k hk];rfl,h,fun q hq => ?_⟩
    have := hp q hq
    rw [at_eq J l q (by omega)] at this
    exact this
  rw [this];rfl
theorem at_none {α : Type} {J : List α → α → Int} {l : List α} (hp : ∀ q,q < l.length → at_ J l q = 0) : (told (PitotConf.scan J [] l)).2 = 0 := by
  have : PitotConf.scan J [] l = none := by
    rw [PitotConf.scan_none]
    intro i hi
    have := hp i hi
    rw [at_eq J l i hi] at this
    exact this
  rw [this];rfl
theorem isPart_nohost {parts : List Int} {a : Int} : isPart parts a = false ↔ PitotConf.hostOf parts a = none := by
  unfold isPart PitotConf.hostOf
  by_cases h : 0 ≤ a
  · rw [if_pos h,List.getElem?_eq_none_iff,decide_eq_true h,Bool.true_and,decide_eq_false_iff_not];omega
  · rw [if_neg h,decide_eq_false h,Bool.false_and];simp
set_option maxHeartbeats 2000000 in
theorem refWin_all (c : Cx) (k : Nat) (w : World) (hc : c.Held w) (hk : k < c.wins.length) (hmaj : c.major ≤ 1073741824) (hpl : c.parts.length ≤ maxLen) (hwl : c.wins.length ≤ maxLen) (hp : ∀ q,q < k → at_ (PitotConf.winJ c.parts c.major) (c.wins.map Wn.pl) q = 0) : Calls Tryz.prog 55 #[c.val,.int .i64 k] w fun e w' => e = .returned (.int .i64 (at_ (PitotConf.winJ c.parts c.major) (c.wins.map Wn.pl) k)) ∧ Below w.heap.size w w' := by
  have hk2 : k < (c.wins.map Wn.pl).length := by simpa using hk
  have hlen : ((c.wins.map Wn.pl).take k).length = k := by simp;omega
  have hprev : ∀ q (hq : q < k),isPart c.parts (c.wins[q]'(by omega)).part = true ∧ 0 ≤ (c.wins[q]'(by omega)).beg ∧ 1 ≤ (c.wins[q]'(by omega)).long ∧ (c.wins[q]'(by omega)).beg + (c.wins[q]'(by omega)).long ≤ 1073741824 := fun q hq => by
    have h := hp q hq
    rw [at_eq _ _ q (by simp;omega),PitotConf.winJ] at h
    have hb := (PitotConf.ite0 (by decide) h).1
    simp only [not_or,List.getElem_map] at hb
    obtain ⟨_,h1,h2,h3,h4⟩ := hb
    refine ⟨?_,by omega,by omega,by omega⟩
    cases hh : isPart c.parts (c.wins[q]'(by omega)).part with
    | true => rfl
    | false => exact absurd (isPart_nohost.1 hh) h1
  rw [at_eq _ _ k hk2,PitotConf.winJ,hlen,List.getElem_map]
  by_cases hb : 256 ≤ k ∨ PitotConf.hostOf c.parts c.wins[k].pl.part = none ∨ c.wins[k].pl.beg < 0 ∨ c.wins[k].pl.long < 1 ∨ c.major < c.wins[k].pl.beg + c.wins[k].pl.long
  · rw [if_pos hb]
    refine win_bad c k c.wins[k] w hc hk rfl hmaj hpl ?_
    rcases hb with h | h | h | h | h
    · exact Or.inl h
    · exact Or.inr (Or.inl (isPart_nohost.2 h))
    · exact Or.inr (Or.inr (Or.inl h))
    · exact Or.inr (Or.inr (Or.inr (Or.inl h)))
    · have h : c.major < c.wins[k].beg + c.wins[k].long := h
      exact Or.inr (Or.inr (Or.inr (Or.inr (Or.inr (by omega)))))
  · rw [if_neg hb]
    simp only [not_or] at hb
    obtain ⟨h1,h2,h3,h4,h5⟩ := hb
    have hpt : isPart c.parts c.wins[k].part = true := by
      cases hh : isPart c.parts c.wins[k].part with
      | true => rfl
      | false => exact absurd (isPart_nohost.1 hh) h2
    have := win_good c k c.wins[k] w hc hk rfl hmaj hpl hwl (by omega) hpt (by omega) (by omega) (by omega) hprev
    rw [List.map_take] at this
    exact this
theorem mayV_bad {hosts : Int} {x : Vx} (h : mayV hosts x.id x.host x.bag x.smax x.subs x.skew x.to.length = false) : x.id < 1 ∨ 65535 < x.id ∨ PitotConf.isHost hosts x.host = false ∨ x.bag < 0 ∨ 7 < x.bag ∨ x.smax < 64 ∨ 1518 < x.smax ∨ x.subs < 1 ∨ 4 < x.subs ∨ x.skew < 0 ∨ 1073741824 < x.skew ∨ x.to = [] := by
  apply Classical.byContradiction
  intro hh
  have : mayV hosts x.id x.host x.bag x.smax x.subs x.skew x.to.length = true := by
    rw [mayV_id]
    simp only [not_or] at hh
    obtain ⟨a,b,c,d,e,f,g,h,i,j,n,o⟩ := hh
    exact ⟨by omega,by omega,by simpa using c,by omega,by omega,by omega,by omega,by omega,by omega,by omega,by omega,List.length_pos_iff.2 o⟩
  rw [this] at h;cases h
theorem refLink_all (c : Cx) (k : Nat) (w : World) (hc : c.Held w) (hk : k < c.vls.length) (htl : ∀ v ∈ c.vls,v.to.length ≤ 5000) : Calls Tryz.prog 56 #[c.val,.int .i64 k] w fun e w' => e = .returned (.int .i64 (at_ (PitotConf.linkJ c.hosts) (c.vls.map Vx.pl) k)) ∧ Below w.heap.size w w' := by
  have hk2 : k < (c.vls.map Vx.pl).length := by simpa using hk
  rw [at_eq _ _ k hk2,linkJ_eq c.hosts c.vls k hk]
  by_cases h256 : 256 ≤ k
  · rw [if_pos h256]
    exact link_bad c k c.vls[k] w hc hk rfl (Or.inl h256)
  rw [if_neg h256,linkP]
  by_cases hM : mayV c.hosts c.vls[k].id c.vls[k].host c.vls[k].bag c.vls[k].smax c.vls[k].subs c.vls[k].skew c.vls[k].to.length = false
  · rw [if_pos hM]
    exact link_bad c k c.vls[k] w hc hk rfl (Or.inr (mayV_bad hM))
  rw [if_neg hM]
  have hM : mayV c.hosts c.vls[k].id c.vls[k].host c.vls[k].bag c.vls[k].smax c.vls[k].subs c.vls[k].skew c.vls[k].to.length = true := by simpa using hM
  rw [mayV_id] at hM
  have hid := hM.1
  have hg := link_good c k c.vls[k] (aheadV (c.vls.take k)) w hc hk rfl (by omega) hM (by have := htl _ (List.getElem_mem hk);unfold maxLen;omega) (fun j hj => by subst hj;rw [aheadV_take c.vls j (by omega)])
  have e : linkR c.hosts (aheadV (c.vls.take k)) k c.vls[k] = (if decide (c.vls[k].id ≤ aheadV (c.vls.take k)) = true then 25 else if PitotConf.rises c.vls[k].to = false then 25 else if c.vls[k].to.any (fun n => !PitotConf.isHost c.hosts n || decide (n = c.vls[k].host)) = true then 20 else 0) := by
    rw [linkR]
    by_cases hk0 : 0 < k
    · rw [decide_eq_true hk0,Bool.true_and]
    · have hz : k = 0 := by omega
      have ha : aheadV (c.vls.take k) = 0 := by subst hz;rfl
      rw [decide_eq_false hk0,Bool.false_and,ha,if_neg (show ¬ (false = true) by decide),decide_eq_false (show ¬ (c.vls[k].id ≤ 0) by omega),if_neg (show ¬ (false = true) by decide)]
  rw [e] at hg
  exact hg
theorem refPort_all (c : Cx) (k : Nat) (w : World) (hc : c.Held w) (hk : k < c.ports.length) (hql : c.ports.length ≤ 1000) (hpl : c.parts.length ≤ maxLen) (hvl : c.vls.length ≤ maxLen) (hz : Sized c.vls) : Calls Tryz.prog 57 #[c.val,.int .i64 k] w fun e w' => e = .returned (.int .i64 (at_ (PitotConf.portJ c.parts (c.vls.map Vx.pl)) (c.ports.map Px.pl) k)) ∧ Below w.heap.size w w' := by
  rw [at_eq _ _ k (by simpa using hk)]
  exact refPort_any c k w hc hk hql hpl hvl hz
set_option maxHeartbeats 2000000 in
theorem refCheck_any (c : Cx) (hs : Sm c) (w : World) (hc : c.Held w) : Calls Tryz.prog 21 #[c.val] w fun e w' => e = .returned (.tuple #[.int .i64 (PitotConf.check c.pl).1,.int .i64 (PitotConf.check c.pl).2.1,.int .i64 (PitotConf.check c.pl).2.2]) ∧ Below w.heap.size w w' := by
  rw [check_eq]
  have hpl : c.parts.length ≤ maxLen := by have := hs.parts;unfold maxLen;omega
  have hvl : c.vls.length ≤ maxLen := by have := hs.vls;unfold maxLen;omega
  have hwl : c.wins.length ≤ maxLen := by have := hs.wins;unfold maxLen;omega
  have b1 := hs.parts
  have b2 := hs.wins
  have b3 := hs.vls
  have b4 := hs.ports
  have HV5 : (jd c 5).2 = 0 → ∀ v ∈ c.vls,64 ≤ v.smax ∧ v.smax ≤ 1518 ∧ 1 ≤ v.subs ∧ v.subs ≤ 4 := fun h => by
    have hn := told_zero h
    rw [PitotConf.scan_none] at hn
    intro x hx
    obtain ⟨i,hi,rfl⟩ := List.mem_iff_getElem.1 hx
    have := hn i (by simpa using hi)
    rw [List.getElem_map] at this
    unfold PitotConf.linkJ at this
    have hb := (PitotConf.ite0 (by decide) this).1
    simp only [not_or] at hb
    obtain ⟨_,_,_,_,_,_,a,b,d,e,_⟩ := hb
    exact ⟨by omega,by omega,by omega,by omega⟩
  have HM3 : (jd c 3).2 = 0 → c.major ≤ 1073741824 := fun h => by
    by_cases h2 : c.major < 1 ∨ 1073741824 < c.major
    · have h3 : (jd c 3).2 = 1 := if_pos h2
      rw [h3] at h;omega
    · omega
  refine refCheck_core c.hosts c.major c.partsA c.winsA c.vlsA c.portsA c.parts.length c.partsc c.wins.length c.winsc c.vls.length c.vlsc c.ports.length c.portsc w c.parts (jd c)
    (at_ (PitotConf.partJ c.hosts) c.parts) (at_ (PitotConf.winJ c.parts c.major) (c.wins.map Wn.pl)) (at_ (PitotConf.linkJ c.hosts) (c.vls.map Vx.pl)) (at_ (PitotConf.portJ c.parts (c.vls.map Vx.pl)) (c.ports.map Px.pl)) (PitotConf.jitter (c.vls.map Vx.pl))
    hc.1 rfl (by omega) (by omega) (by omega) (by omega) rfl rfl
    (fun k hk hp h => at_hit hk hp h) (fun h => at_none h) (fun k hk => by rw [at_eq _ _ k hk,PitotConf.partJ,List.length_take,Nat.min_eq_left (by omega)])
    (fun k hk hp h => at_hit (by simpa using hk) hp h) (fun h => at_none (by simpa using h))
    (fun k hk hp h => at_hit (by simpa using hk) hp h) (fun h => at_none (by simpa using h))
    (fun k hk hp h => at_hit (by simpa using hk) hp h) (fun h => at_none (by simpa using h))
    (fun k hk hp h => ?_) (fun h => ?_) (fun n w => host_any c n w)
    (fun hprev k hk hp w' hb => refWin_all c k w' (hc.below hb) hk (HM3 (hprev 3 (by omega) (by omega))) hpl hwl hp)
    (fun hprev k hk hp w' hb => refLink_all c k w' (hc.below hb) hk hs.tol)
    (fun hprev k hk hp w' hb => refPort_all c k w' (hc.below hb) hk hs.ports hpl hvl (fun v hv => by have := HV5 (hprev 5 (by omega) (by omega)) v hv;exact ⟨hs.tol v hv,by omega,by omega,by omega,by omega⟩))
    (fun hprev k w' hb => jitter_any c k w' (hc.below hb) hs.vls (fun v hv => by have := HV5 (hprev 5 (by omega) (by omega)) v hv;omega))
  · show toldJ (PitotConf.jitF (c.vls.map Vx.pl) c.hosts) = _
    rw [jitF_some hk h hp];rfl
  · show (toldJ (PitotConf.jitF (c.vls.map Vx.pl) c.hosts)).2 = 0
    rw [PitotConf.jitF_none.2 h];rfl
end Go.Proofs.YtdgkanamceeheaaGreat
set_option maxRecDepth 100000
set_option linter.unusedVariables false
namespace Go.Proofs.YtdgkanamceeheaaGreat.Im
open Go.RowKit
open PitotImg (St rd)
set_option maxHeartbeats 4000000 in
theorem r64 {W : World} {pb : Nat} {a0 a1 a2 a3 a5 a6 a7 a8 a9 hi lo : Int} {a4 : Bool} {R : Bool} (HP : Hid (W.heap[pb]? = some (.cells #[.int .i64 a0,.int .i64 a1,.int .i64 a2,.int .i64 a3,.bool a4,.int .i64 a5,.int .i64 a6,.int .i64 a7,.int .i64 a8,.int .i64 a9,.int .i64 lo] 62))) (hR : PitotImg.wrongF hi lo = R) {u0 u1 u2 u3 u4 u5 u6 u7 u8 u9 aa ac ae af ag ah ai aj ak ao aq ar au av aw ax ay aA aB aC aD aE aF aG aH aI aJ aK aL aM aN aO aP aQ aR aS aT aU aV aW aX aY aZ ba bb bc bd bf bg bi bj bm bo br bs bt bu bw bz bA bB bC bD bE bF bG bH bI bJ bK bL bM bN bO bP bQ bR bS bT bU bV bW bX bY bZ cg ci cj ck cq cr ct cu cv cw cy cz cE cF cG cH cI cJ cK cM cN cO cP cQ cR cS cT cU cV cW cX cY cZ da dg di dj dk dq dt du dv dw dy dz dE dF dG dH dI dJ dK dM dN dO dP dQ dR dS dT dU dV dW dX dY dZ ed ee ef eg eh ei ej ek el em eo ep eq et eu ey ez eA eB eC eD eE eF eG eH eI eJ eK eL eM eN eO eP eQ eR eS eT eU eV eW eX eY eZ fa fb fc fd fe fg fh fi fj fk fm fn fo fp fq fs fu fv fw fx fy fz fA fB fC fD fF fG fH fI fJ fK fL fM fN fO fP fQ fR fS fT fU fV fW fX fY fZ ga gb gc gd ge gf gg gh gi gj gk gl gm gn gp gr gt gu gv gw gx gy gz gA : Value} {Q : Exit → Act → World → Prop} (HPN : ∀ (p : List PanicEntry) (a : Act) (dd : Nat) (vv : Value) (w : World),Q (.panic p) (a.put (some dd) vv) w → Q (.panic p) a w) (hQ : ∀ (wc : World),wc = W → ∀ x218 x219 x220 x221 x222 x223 x224 x225 x226 x227 : Value,Q .normal ⟨#[u0,u1,u2,u3,u4,u5,u6,u7,u8,u9,aa,ac,ae,af,ag,ah,ai,aj,ak,(.pointer (some ⟨pb,0,none⟩)),ao,(.int .i64 hi),aq,ar,au,av,aw,ax,ay,aA,aB,aC,aD,aE,aF,aG,aH,aI,aJ,aK,aL,aM,aN,aO,aP,aQ,aR,aS,aT,aU,aV,aW,aX,aY,aZ,ba,bb,bc,bd,bf,bg,bi,bj,bm,bo,br,bs,bt,bu,bw,bz,bA,bB,bC,bD,bE,bF,bG,bH,bI,bJ,bK,bL,bM,bN,bO,bP,bQ,bR,bS,bT,bU,bV,bW,bX,bY,bZ,cg,ci,cj,ck,cq,cr,ct,cu,cv,cw,cy,cz,cE,cF,cG,cH,cI,cJ,cK,cM,cN,cO,cP,cQ,cR,cS,cT,cU,cV,cW,cX,cY,cZ,da,dg,di,dj,dk,dq,dt,du,dv,dw,dy,dz,dE,dF,dG,dH,dI,dJ,dK,dM,dN,dO,dP,dQ,dR,dS,dT,dU,dV,dW,dX,dY,dZ,ed,ee,ef,eg,eh,ei,ej,ek,el,em,eo,ep,eq,et,eu,ey,ez,eA,eB,eC,eD,eE,eF,eG,eH,eI,eJ,eK,eL,eM,eN,eO,eP,eQ,eR,eS,eT,eU,eV,eW,eX,eY,eZ,fa,fb,fc,fd,fe,fg,fh,fi,fj,fk,fm,fn,x218,x219,x220,x221,x222,x223,x224,x225,x226,x227,(.bool R),fB,fC,fD,fF,fG,fH,fI,fJ,fK,fL,fM,fN,fO,fP,fQ,fR,fS,fT,fU,fV,fW,fX,fY,fZ,ga,gb,gc,gd,ge,gf,gg,gh,gi,gj,gk,gl,gm,gn,gp,gr,gt,gu,gv,gw,gx,gy,gz,gA],[]⟩ wc) :
    Code.wp Tryz.prog (Code.region 64 #[⟨some 218,.move (.tmp 21),3,"ref.go:120",#[],none⟩,⟨some 219,.binOp .gtr 3 (.tmp 218) (.const (.int .i64 256)) 3,4,"ref.go:120",#[⟨0,.data⟩],none⟩,⟨some 220,.move (.tmp 219),4,"ref.go:120",#[⟨1,.data⟩],none⟩,⟨some 221,.move (.tmp 21),3,"ref.go:120",#[⟨2,.guard⟩],some (2,false)⟩,⟨some 222,.binOp .eql 3 (.tmp 221) (.const (.int .i64 256)) 3,4,"ref.go:120",#[⟨3,.data⟩,⟨2,.guard⟩],some (2,false)⟩,⟨some 223,.move (.tmp 222),4,"ref.go:120",#[⟨4,.data⟩,⟨2,.chain⟩,⟨2,.guard⟩],some (2,false)⟩,⟨some 224,.fieldAddr 62 (.tmp 19) 10,0,"ref.go:120",#[⟨5,.guard⟩],some (5,true)⟩,⟨some 225,.load 3 (.tmp 224),3,"ref.go:120",#[⟨6,.data⟩,⟨5,.guard⟩],some (5,true)⟩,⟨some 226,.binOp .gtr 3 (.tmp 225) (.const (.int .i64 0)) 3,4,"ref.go:120",#[⟨7,.data⟩,⟨5,.guard⟩],some (5,true)⟩,⟨some 227,.pick (.tmp 223) (.tmp 226) (.const (.bool false)),4,"ref.go:120",#[⟨5,.data⟩,⟨8,.data⟩,⟨2,.guard⟩],some (2,false)⟩,⟨some 228,.pick (.tmp 220) (.const (.bool true)) (.tmp 227),4,"ref.go:120",#[⟨2,.data⟩,⟨9,.data⟩],none⟩] false) Q ⟨#[u0,u1,u2,u3,u4,u5,u6,u7,u8,u9,aa,ac,ae,af,ag,ah,ai,aj,ak,(.pointer (some ⟨pb,0,none⟩)),ao,(.int .i64 hi),aq,ar,au,av,aw,ax,ay,aA,aB,aC,aD,aE,aF,aG,aH,aI,aJ,aK,aL,aM,aN,aO,aP,aQ,aR,aS,aT,aU,aV,aW,aX,aY,aZ,ba,bb,bc,bd,bf,bg,bi,bj,bm,bo,br,bs,bt,bu,bw,bz,bA,bB,bC,bD,bE,bF,bG,bH,bI,bJ,bK,bL,bM,bN,bO,bP,bQ,bR,bS,bT,bU,bV,bW,bX,bY,bZ,cg,ci,cj,ck,cq,cr,ct,cu,cv,cw,cy,cz,cE,cF,cG,cH,cI,cJ,cK,cM,cN,cO,cP,cQ,cR,cS,cT,cU,cV,cW,cX,cY,cZ,da,dg,di,dj,dk,dq,dt,du,dv,dw,dy,dz,dE,dF,dG,dH,dI,dJ,dK,dM,dN,dO,dP,dQ,dR,dS,dT,dU,dV,dW,dX,dY,dZ,ed,ee,ef,eg,eh,ei,ej,ek,el,em,eo,ep,eq,et,eu,ey,ez,eA,eB,eC,eD,eE,eF,eG,eH,eI,eJ,eK,eL,eM,eN,eO,eP,eQ,eR,eS,eT,eU,eV,eW,eX,eY,eZ,fa,fb,fc,fd,fe,fg,fh,fi,fj,fk,fm,fn,fo,fp,fq,fs,fu,fv,fw,fx,fy,fz,fA,fB,fC,fD,fF,fG,fH,fI,fJ,fK,fL,fM,fN,fO,fP,fQ,fR,fS,fT,fU,fV,fW,fX,fY,fZ,ga,gb,gc,gd,ge,gf,gg,gh,gi,gj,gk,gl,gm,gn,gp,gr,gt,gu,gv,gw,gx,gy,gz,gA],[]⟩ W := by
  have p10 := lies_cell HP.out 10
  have HQ := Lib.hid hQ
  clear hQ
  unfold PitotImg.wrongF at hR
  obtain ⟨b1,e1⟩ : ∃ b,decide (256 < hi) = b := ⟨_,rfl⟩
  obtain ⟨b2,e2⟩ : ∃ b,decide (hi = 256) = b := ⟨_,rfl⟩
  have e2' : (hi == 256) = b2 := e2
  obtain ⟨b3,e3⟩ : ∃ b,decide (0 < lo) = b := ⟨_,rfl⟩
  rw [e1,e2,e3] at hR
  cases b1
  · cases b2
    · have hR : false = R := hR
      subst hR
      go_wp2
      all_goals exact HQ.out _ rfl _ _ _ _ _ _ _ _ _ _
    · have hR : b3 = R := by rw [← hR];rfl
      subst hR
      go_wp2
      all_goals exact HQ.out _ rfl _ _ _ _ _ _ _ _ _ _
  · have hR : true = R := hR
    subst hR
    go_wp2
    all_goals exact HQ.out _ rfl _ _ _ _ _ _ _ _ _ _
set_option maxHeartbeats 4000000 in
theorem r67 {W : World} {rb : Nat} {σ : St} {wg : Bool} {R : Bool} (HR : RS 55 W rb σ) (hR : (σ.isSome && wg) = R) {u0 u1 u2 u3 u4 u5 u7 u8 u9 aa ac ae af ag ah ai ak am ao ap aq ar au av aw ax ay aA aB aC aD aE aF aG aH aI aJ aK aL aM aN aO aP aQ aR aS aT aU aV aW aX aY aZ ba bb bc bd bf bg bi bj bm bo br bs bt bu bw bz bA bB bC bD bE bF bG bH bI bJ bK bL bM bN bO bP bQ bR bS bT bU bV bW bX bY bZ cg ci cj ck cq cr ct cu cv cw cy cz cE cF cG cH cI cJ cK cM cN cO cP cQ cR cS cT cU cV cW cX cY cZ da dg di dj dk dq dt du dv dw dy dz dE dF dG dH dI dJ dK dM dN dO dP dQ dR dS dT dU dV dW dX dY dZ ed ee ef eg eh ei ej ek el em eo ep eq et eu ey ez eA eB eC eD eE eF eG eH eI eJ eK eL eM eN eO eP eQ eR eS eT eU eV eW eX eY eZ fa fb fc fd fe fg fh fi fj fk fm fn fo fp fq fs fu fv fw fx fy fz fA fB fC fD fF fG fH fI fJ fK fL fM fN fO fP fQ fR fS fT fU fV fW fX fY fZ ga gb gc gd ge gf gg gh gi gj gk gl gm gn gp gr gt gu gv gw gx gy gz gA : Value} {Q : Exit → Act → World → Prop} (HPN : ∀ (p : List PanicEntry) (a : Act) (dd : Nat) (vv : Value) (w : World),Q (.panic p) (a.put (some dd) vv) w → Q (.panic p) a w) (hQ : ∀ (wc : World),wc = W → ∀ x235 x236 x237 x238 x239 x240 x241 : Value,Q .normal ⟨#[u0,u1,u2,u3,u4,u5,(.pointer (some ⟨rb,0,none⟩)),u7,u8,u9,aa,ac,ae,af,ag,ah,ai,(.bool wg),ak,am,ao,ap,aq,ar,au,av,aw,ax,ay,aA,aB,aC,aD,aE,aF,aG,aH,aI,aJ,aK,aL,aM,aN,aO,aP,aQ,aR,aS,aT,aU,aV,aW,aX,aY,aZ,ba,bb,bc,bd,bf,bg,bi,bj,bm,bo,br,bs,bt,bu,bw,bz,bA,bB,bC,bD,bE,bF,bG,bH,bI,bJ,bK,bL,bM,bN,bO,bP,bQ,bR,bS,bT,bU,bV,bW,bX,bY,bZ,cg,ci,cj,ck,cq,cr,ct,cu,cv,cw,cy,cz,cE,cF,cG,cH,cI,cJ,cK,cM,cN,cO,cP,cQ,cR,cS,cT,cU,cV,cW,cX,cY,cZ,da,dg,di,dj,dk,dq,dt,du,dv,dw,dy,dz,dE,dF,dG,dH,dI,dJ,dK,dM,dN,dO,dP,dQ,dR,dS,dT,dU,dV,dW,dX,dY,dZ,ed,ee,ef,eg,eh,ei,ej,ek,el,em,eo,ep,eq,et,eu,ey,ez,eA,eB,eC,eD,eE,eF,eG,eH,eI,eJ,eK,eL,eM,eN,eO,eP,eQ,eR,eS,eT,eU,eV,eW,eX,eY,eZ,fa,fb,fc,fd,fe,fg,fh,fi,fj,fk,fm,fn,fo,fp,fq,fs,fu,fv,fw,fx,fy,fz,fA,fB,fC,fD,fF,fG,fH,x235,x236,x237,x238,x239,x240,x241,(.bool R),fQ,fR,fS,fT,fU,fV,fW,fX,fY,fZ,ga,gb,gc,gd,ge,gf,gg,gh,gi,gj,gk,gl,gm,gn,gp,gr,gt,gu,gv,gw,gx,gy,gz,gA],[]⟩ wc) :
    Code.wp Tryz.prog (Code.region 67 #[⟨some 235,.move (.tmp 6),53,"ref.go:125",#[],none⟩,⟨some 236,.nilCheck (.tmp 235),0,"ref.go:125",#[⟨0,.data⟩],none⟩,⟨some 237,.fieldAddr 55 (.tmp 236) 1,0,"ref.go:125",#[⟨1,.data⟩],none⟩,⟨some 238,.load 29 (.tmp 237),29,"ref.go:125",#[⟨2,.data⟩],none⟩,⟨some 239,.binOp .eql 29 (.tmp 238) (.const (.int .i64 0)) 29,4,"ref.go:125",#[⟨3,.data⟩],none⟩,⟨some 240,.move (.tmp 239),4,"ref.go:125",#[⟨4,.data⟩],none⟩,⟨some 241,.move (.tmp 17),4,"ref.go:125",#[⟨5,.guard⟩],some (5,true)⟩,⟨some 242,.pick (.tmp 240) (.tmp 241) (.const (.bool false)),4,"ref.go:125",#[⟨5,.data⟩,⟨6,.data⟩],none⟩] false) Q ⟨#[u0,u1,u2,u3,u4,u5,(.pointer (some ⟨rb,0,none⟩)),u7,u8,u9,aa,ac,ae,af,ag,ah,ai,(.bool wg),ak,am,ao,ap,aq,ar,au,av,aw,ax,ay,aA,aB,aC,aD,aE,aF,aG,aH,aI,aJ,aK,aL,aM,aN,aO,aP,aQ,aR,aS,aT,aU,aV,aW,aX,aY,aZ,ba,bb,bc,bd,bf,bg,bi,bj,bm,bo,br,bs,bt,bu,bw,bz,bA,bB,bC,bD,bE,bF,bG,bH,bI,bJ,bK,bL,bM,bN,bO,bP,bQ,bR,bS,bT,bU,bV,bW,bX,bY,bZ,cg,ci,cj,ck,cq,cr,ct,cu,cv,cw,cy,cz,cE,cF,cG,cH,cI,cJ,cK,cM,cN,cO,cP,cQ,cR,cS,cT,cU,cV,cW,cX,cY,cZ,da,dg,di,dj,dk,dq,dt,du,dv,dw,dy,dz,dE,dF,dG,dH,dI,dJ,dK,dM,dN,dO,dP,dQ,dR,dS,dT,dU,dV,dW,dX,dY,dZ,ed,ee,ef,eg,eh,ei,ej,ek,el,em,eo,ep,eq,et,eu,ey,ez,eA,eB,eC,eD,eE,eF,eG,eH,eI,eJ,eK,eL,eM,eN,eO,eP,eQ,eR,eS,eT,eU,eV,eW,eX,eY,eZ,fa,fb,fc,fd,fe,fg,fh,fi,fj,fk,fm,fn,fo,fp,fq,fs,fu,fv,fw,fx,fy,fz,fA,fB,fC,fD,fF,fG,fH,fI,fJ,fK,fL,fM,fN,fO,fP,fQ,fR,fS,fT,fU,fV,fW,fX,fY,fZ,ga,gb,gc,gd,ge,gf,gg,gh,gi,gj,gk,gl,gm,gn,gp,gr,gt,gu,gv,gw,gx,gy,gz,gA],[]⟩ W := by
  have c1 := HR.er
  have HQ := Lib.hid hQ
  clear hQ
  cases σ with
  | none =>
    have c1 : W.cell? ⟨rb,1,none⟩ = some (.int .i64 10) := c1
    have hR : false = R := hR
    subst hR
    go_wp2
    all_goals exact HQ.out _ rfl _ _ _ _ _ _ _
  | some l =>
    have c1 : W.cell? ⟨rb,1,none⟩ = some (.int .i64 0) := c1
    have hR : wg = R := hR
    subst hR
    go_wp2
    all_goals exact HQ.out _ rfl _ _ _ _ _ _ _
abbrev zc : Value := .agg #[.int .i64 0,.slice none 0 0,.int .i64 0,.slice none 0 0,.slice none 0 0,.slice none 0 0]
def Ans (r : Except Int PitotConf.Cf) (e : Ending) (w' : World) : Prop := match r with
  | .error k => e = .returned (.tuple #[zc,.int .i64 k])
  | .ok c => ∃ cx : Cx,cx.pl = c ∧ cx.Held w' ∧ e = .returned (.tuple #[cx.val,.int .i64 0])
theorem zero_cf (w : World) : (zeroValue 28).run Tryz.prog w = .ok zc w := by kernel_rfl
theorem build_cf (w : World) : (Instr.build 28 #[]).run Tryz.prog w = .ok zc w := by kernel_rfl
theorem zero_win (w : World) : (zeroValue 58).run Tryz.prog w = .ok (.agg #[.int .i64 0,.int .i64 0,.int .i64 0]) w := by kernel_rfl
theorem zero_vl (w : World) : (zeroValue 60).run Tryz.prog w = .ok (.agg #[.int .i64 0,.int .i64 0,.int .i64 0,.int .i64 0,.bool false,.int .i64 0,.int .i64 0,.slice none 0 0]) w := by kernel_rfl
theorem zero_prt (w : World) : (zeroValue 62).run Tryz.prog w = .ok (.agg #[.int .i64 0,.int .i64 0,.int .i64 0,.int .i64 0,.bool false,.int .i64 0,.int .i64 0,.int .i64 0,.int .i64 0,.int .i64 0,.int .i64 0]) w := by kernel_rfl
theorem infoW : (Tryz.prog.info? 58).map (fun i => (i.zero,i.size,i.bytes)) = some (some (.agg #[.int .i64 0,.int .i64 0,.int .i64 0]),3,24) := by kernel_rfl
theorem infoV : (Tryz.prog.info? 60).map (fun i => (i.zero,i.size,i.bytes)) = some (some (.agg #[.int .i64 0,.int .i64 0,.int .i64 0,.int .i64 0,.bool false,.int .i64 0,.int .i64 0,.slice none 0 0]),8,80) := by kernel_rfl
theorem infoP : (Tryz.prog.info? 62).map (fun i => (i.zero,i.size,i.bytes)) = some (some (.agg #[.int .i64 0,.int .i64 0,.int .i64 0,.int .i64 0,.bool false,.int .i64 0,.int .i64 0,.int .i64 0,.int .i64 0,.int .i64 0,.int .i64 0]),11,88) := by kernel_rfl
end Go.Proofs.YtdgkanamceeheaaGreat.Im
