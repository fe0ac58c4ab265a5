/- The document's Load: its last regions; ports. -/
import Derived.Test.YtdgkanamceeheaaGreatL32
import Derived.Test.YtdgkanamceeheaaGreatL28
import Derived.Test.YtdgkanamceeheaaGreatL0
set_option linter.unusedVariables false
set_option maxRecDepth 100000
set_option linter.unusedVariables false
namespace Go.Proofs.YtdgkanamceeheaaGreat.Im
open Go.RowKit
open PitotImg (St rd)
theorem ports_end {i n : Nat} {σ : St} (h : (decide (i < n) && σ.isSome) = false) (hi : i ≤ n) : PitotImg.portsS (n - i) σ = some ([], σ) := by
  cases σ with
  | none => exact PitotImg.portsS_none _
  | some l =>
    have : ¬ i < n := by simpa using h
    rw [show n - i = 0 by omega]; rfl
theorem ports_bad {i n : Nat} {σ : St} (h : (decide (i < n) && σ.isSome) = true) (hb : PitotImg.badP σ = true) : PitotImg.portsS (n - i) σ = none := by
  cases σ with
  | none => simp at h
  | some l =>
    have h : i < n := by simpa using h
    rw [show n - i = (n - (i + 1)) + 1 by omega]
    show (if PitotImg.badP (some l) = true then none else _) = none
    rw [if_pos hb]
theorem ports_go {i n : Nat} {σ σ' : St} {x : PitotConf.Prt} (h : (decide (i < n) && σ.isSome) = true) (hp : PitotImg.prtS σ = (x, σ')) (hb : PitotImg.badP σ = false) : i < n ∧ PitotImg.portsS (n - i) σ = (PitotImg.portsS (n - (i + 1)) σ').map fun r => (x :: r.1, r.2) := by
  cases σ with
  | none => simp at h
  | some l =>
    have h : i < n := by simpa using h
    refine ⟨h, ?_⟩
    rw [show n - i = (n - (i + 1)) + 1 by omega]
    show (if PitotImg.badP (some l) = true then none else (PitotImg.portsS (n - (i + 1)) (PitotImg.prtS (some l)).2).map fun r => ((PitotImg.prtS (some l)).1 :: r.1, r.2)) = _
    rw [if_neg (by rw [hb]; decide), hp]
theorem opt_map {p : Option (List PitotConf.Prt × St)} {a : List PitotConf.Prt} {x : PitotConf.Prt} : (p.map fun r => (x :: r.1, r.2)).map (fun r => (a ++ r.1, r.2)) = p.map fun r => (a ++ [x] ++ r.1, r.2) := by
  cases p with
  | none => rfl
  | some r => simp
theorem few_wf {n : Int} (h : PitotImg.Few8 n) : (Lit.int .i64 n).wf = true := by
  obtain ⟨h1, h2⟩ := h
  simp [Lit.wf, IntKind.min, IntKind.max, IntKind.signed, IntKind.bits]
  omega
theorem sm_of (c : Cx) (h : PitotImg.cfB c.pl) (b1 : c.parts.length ≤ 2500) (b2 : c.wins.length ≤ 500) (b3 : c.vls.length ≤ 400) (b4 : c.ports.length ≤ 200) (b5 : ∀ v ∈ c.vls, v.to.length ≤ 2500) : Sm c := by
  obtain ⟨h1, h2, h3, h4, h5, h6⟩ := h
  refine ⟨⟨few_wf h1, by unfold maxLen; omega, fun n hn => few_wf (h2 n hn), few_wf h3, by unfold maxLen; omega, fun y hy => ?_, by unfold maxLen; omega, fun y hy => ?_, by unfold maxLen; omega, fun y hy => ?_⟩, by omega, by omega, by omega, by omega, fun v hv => by have := b5 v hv; omega⟩
  · obtain ⟨a, b, d⟩ := h4 _ (List.mem_map_of_mem hy)
    have a1 : PitotImg.Few8 y.part := a
    have b1 : PitotImg.Few8 y.beg := b
    have d1 : PitotImg.Few8 y.long := d
    exact ⟨few_wf a1, few_wf b1, few_wf d1⟩
  · obtain ⟨a, b, d, e, f, g, k⟩ := h5 _ (List.mem_map_of_mem hy)
    have := b5 y hy
    have a1 : PitotImg.Few8 y.id := a
    have b1 : PitotImg.Few8 y.host := b
    have d1 : PitotImg.Few8 y.bag := d
    have e1 : PitotImg.Few8 y.smax := e
    have f1 : PitotImg.Few8 y.subs := f
    have g1 : PitotImg.Few8 y.skew := g
    have k1 : ∀ t ∈ y.to, PitotImg.Few8 t := k
    exact ⟨few_wf a1, few_wf b1, few_wf d1, few_wf e1, few_wf f1, few_wf g1, by unfold maxLen; omega, fun n hn => few_wf (k1 n hn)⟩
  · obtain ⟨a, b, d, e, f, g, k, l, m, n⟩ := h6 _ (List.mem_map_of_mem hy)
    have a1 : PitotImg.Few8 y.id := a
    have b1 : PitotImg.Few8 y.host := b
    have d1 : PitotImg.Few8 y.part := d
    have e1 : PitotImg.Few8 y.kind := e
    have f1 : PitotImg.Few8 y.vl := f
    have g1 : PitotImg.Few8 y.sub := g
    have k1 : PitotImg.Few8 y.udp := k
    have l1 : PitotImg.Few8 y.size := l
    have m1 : PitotImg.Few8 y.depth := m
    have n1 : PitotImg.Few8 y.fresh := n
    exact ⟨few_wf a1, few_wf b1, few_wf d1, few_wf e1, few_wf f1, few_wf g1, few_wf k1, few_wf l1, few_wf m1, few_wf n1⟩
theorem drew_heap (w : World) (r : Nat) : w.drew.heap[r]? = w.heap[r]? := rfl
theorem keep6 {w : World} {b r : Nat} {y0 y1 y2 y3 y4 y5 : Value} (h : b ≠ r) : ((((((w.setCell ⟨b, 0, none⟩ y0).setCell ⟨b, 1, none⟩ y1).setCell ⟨b, 2, none⟩ y2).setCell ⟨b, 3, none⟩ y3).setCell ⟨b, 4, none⟩ y4).setCell ⟨b, 5, none⟩ y5).drew.heap[r]? = w.heap[r]? := by
  rw [drew_heap, heap_set_ne h, heap_set_ne h, heap_set_ne h, heap_set_ne h, heap_set_ne h, heap_set_ne h]
theorem zset {w : World} {b : Nat} {T : TypeId} {x0 x1 x2 x3 x4 x5 y0 y1 y2 y3 y4 y5 : Value} (h : w.heap[b]? = some (.cells #[x0, x1, x2, x3, x4, x5] T)) : ((((((w.setCell ⟨b, 0, none⟩ y0).setCell ⟨b, 1, none⟩ y1).setCell ⟨b, 2, none⟩ y2).setCell ⟨b, 3, none⟩ y3).setCell ⟨b, 4, none⟩ y4).setCell ⟨b, 5, none⟩ y5).drew.heap[b]? = some (.cells #[y0, y1, y2, y3, y4, y5] T) := by
  rw [drew_heap]
  have h0 : (w.setCell ⟨b, 0, none⟩ y0).heap[b]? = some (.cells #[y0, x1, x2, x3, x4, x5] T) := lies_set h 0 y0
  generalize w.setCell ⟨b, 0, none⟩ y0 = w0 at h0 ⊢
  have h1 : (w0.setCell ⟨b, 1, none⟩ y1).heap[b]? = some (.cells #[y0, y1, x2, x3, x4, x5] T) := lies_set h0 1 y1
  generalize w0.setCell ⟨b, 1, none⟩ y1 = w1 at h1 ⊢
  have h2 : (w1.setCell ⟨b, 2, none⟩ y2).heap[b]? = some (.cells #[y0, y1, y2, x3, x4, x5] T) := lies_set h1 2 y2
  generalize w1.setCell ⟨b, 2, none⟩ y2 = w2 at h2 ⊢
  have h3 : (w2.setCell ⟨b, 3, none⟩ y3).heap[b]? = some (.cells #[y0, y1, y2, y3, x4, x5] T) := lies_set h2 3 y3
  generalize w2.setCell ⟨b, 3, none⟩ y3 = w3 at h3 ⊢
  have h4 : (w3.setCell ⟨b, 4, none⟩ y4).heap[b]? = some (.cells #[y0, y1, y2, y3, y4, x5] T) := lies_set h3 4 y4
  generalize w3.setCell ⟨b, 4, none⟩ y4 = w4 at h4 ⊢
  exact lies_set h4 5 y5
theorem zset0 {w : World} {b : Nat} {T : TypeId} {x0 x1 x2 x3 x4 x5 y0 y1 y2 y3 y4 y5 : Value} (h : w.heap[b]? = some (.cells #[x0, x1, x2, x3, x4, x5] T)) : ((((((w.setCell ⟨b, 0, none⟩ y0).setCell ⟨b, 1, none⟩ y1).setCell ⟨b, 2, none⟩ y2).setCell ⟨b, 3, none⟩ y3).setCell ⟨b, 4, none⟩ y4).setCell ⟨b, 5, none⟩ y5).heap[b]? = some (.cells #[y0, y1, y2, y3, y4, y5] T) := by
  have h0 : (w.setCell ⟨b, 0, none⟩ y0).heap[b]? = some (.cells #[y0, x1, x2, x3, x4, x5] T) := lies_set h 0 y0
  generalize w.setCell ⟨b, 0, none⟩ y0 = w0 at h0 ⊢
  have h1 : (w0.setCell ⟨b, 1, none⟩ y1).heap[b]? = some (.cells #[y0, y1, x2, x3, x4, x5] T) := lies_set h0 1 y1
  generalize w0.setCell ⟨b, 1, none⟩ y1 = w1 at h1 ⊢
  have h2 : (w1.setCell ⟨b, 2, none⟩ y2).heap[b]? = some (.cells #[y0, y1, y2, x3, x4, x5] T) := lies_set h1 2 y2
  generalize w1.setCell ⟨b, 2, none⟩ y2 = w2 at h2 ⊢
  have h3 : (w2.setCell ⟨b, 3, none⟩ y3).heap[b]? = some (.cells #[y0, y1, y2, y3, x4, x5] T) := lies_set h2 3 y3
  generalize w2.setCell ⟨b, 3, none⟩ y3 = w3 at h3 ⊢
  have h4 : (w3.setCell ⟨b, 4, none⟩ y4).heap[b]? = some (.cells #[y0, y1, y2, y3, y4, x5] T) := lies_set h3 4 y4
  generalize w3.setCell ⟨b, 4, none⟩ y4 = w4 at h4 ⊢
  exact lies_set h4 5 y5
set_option maxHeartbeats 4000000 in
theorem r71 {W : World} {rb resb : Nat} (HR : Hid (RS 55 W rb none)) (HZ : Hid (W.heap[resb]? = some (.cells #[.int .i64 0, .slice none 0 0, .int .i64 0, .slice none 0 0, .slice none 0 0, .slice none 0 0] 28))) (HNE : Hid (resb ≠ rb)) {u0 u1 u3 u4 u5 u7 u8 u9 aa ac ae af ag ah ai aj ak am ao ap aq ar au av aw ax ay aA aB aC aD aE aF aG aH aI aJ aK aL aM aN aO aP aQ aR aS aT aU aV aW aX aY aZ ba bb bc bd bf bg bi bj bm bo br bs bt bu bw bz bA bB bC bD bE bF bG bH bI bJ bK bL bM bN bO bP bQ bR bS bT bU bV bW bX bY bZ cg ci cj ck cq cr ct cu cv cw cy cz cE cF cG cH cI cJ cK cM cN cO cP cQ cR cS cT cU cV cW cX cY cZ da dg di dj dk dq dt du dv dw dy dz dE dF dG dH dI dJ dK dM dN dO dP dQ dR dS dT dU dV dW dX dY dZ ed ee ef eg eh ei ej ek el em eo ep eq et eu ey ez eA eB eC eD eE eF eG eH eI eJ eK eL eM eN eO eP eQ eR eS eT eU eV eW eX eY eZ fa fb fc fd fe fg fh fi fj fk fm fn fo fp fq fs fu fv fw fx fy fz fA fB fC fD fF fG fH fI fJ fK fL fM fN fO fP fQ fR fS fT fU fV fW fX fY fZ ga gb gc gd ge gf gg gh gi gj gk gl gm gn gp gr gt gu gv gw gx gy gz gA : Value} {Q : Exit → Act → World → Prop} (HPN : ∀ (p : List PanicEntry) (a : Act) (dd : Nat) (vv : Value) (w : World), Q (.panic p) (a.put (some dd) vv) w → Q (.panic p) a w) (hQ : ∀ (wc : World), wc.heap[resb]? = some (.cells #[.int .i64 0, .slice none 0 0, .int .i64 0, .slice none 0 0, .slice none 0 0, .slice none 0 0] 28) → (∀ B, B ≤ resb → Below B W wc) → ∀ x255 x256 x257 x258 x259 : Value, Q .normal ⟨#[u0, u1, (.pointer (some ⟨resb, 0, none⟩)), (.int .i64 10), u4, u5, (.pointer (some ⟨rb, 0, none⟩)), u7, u8, u9, aa, ac, ae, af, ag, ah, ai, aj, ak, am, ao, ap, aq, ar, au, av, aw, ax, ay, aA, aB, aC, aD, aE, aF, aG, aH, aI, aJ, aK, aL, aM, aN, aO, aP, aQ, aR, aS, aT, aU, aV, aW, aX, aY, aZ, ba, bb, bc, bd, bf, bg, bi, bj, bm, bo, br, bs, bt, bu, bw, bz, bA, bB, bC, bD, bE, bF, bG, bH, bI, bJ, bK, bL, bM, bN, bO, bP, bQ, bR, bS, bT, bU, bV, bW, bX, bY, bZ, cg, ci, cj, ck, cq, cr, ct, cu, cv, cw, cy, cz, cE, cF, cG, cH, cI, cJ, cK, cM, cN, cO, cP, cQ, cR, cS, cT, cU, cV, cW, cX, cY, cZ, da, dg, di, dj, dk, dq, dt, du, dv, dw, dy, dz, dE, dF, dG, dH, dI, dJ, dK, dM, dN, dO, dP, dQ, dR, dS, dT, dU, dV, dW, dX, dY, dZ, ed, ee, ef, eg, eh, ei, ej, ek, el, em, eo, ep, eq, et, eu, ey, ez, eA, eB, eC, eD, eE, eF, eG, eH, eI, eJ, eK, eL, eM, eN, eO, eP, eQ, eR, eS, eT, eU, eV, eW, eX, eY, eZ, fa, fb, fc, fd, fe, fg, fh, fi, fj, fk, fm, fn, fo, fp, fq, fs, fu, fv, fw, fx, fy, fz, fA, fB, fC, fD, fF, fG, fH, fI, fJ, fK, fL, fM, fN, fO, fP, fQ, fR, fS, fT, fU, fV, fW, fX, fY, fZ, ga, gb, x255, x256, x257, x258, x259, gh, gi, gj, gk, gl, gm, gn, gp, gr, gt, gu, gv, gw, gx, gy, gz, gA], []⟩ wc) :
    Code.wp Tryz.prog (Code.region 71 #[⟨some 255, .build 28 #[], 28, "ref.go:131", #[], none⟩, ⟨some 256, .move (.tmp 6), 53, "ref.go:131", #[⟨5, .gcOnly .lateStores⟩], none⟩, ⟨some 257, .nilCheck (.tmp 256), 0, "ref.go:131", #[⟨1, .data⟩, ⟨5, .gcOnly .lateStores⟩], none⟩, ⟨some 258, .fieldAddr 55 (.tmp 257) 1, 0, "ref.go:131", #[⟨2, .data⟩, ⟨5, .gcOnly .lateStores⟩], none⟩, ⟨some 259, .load 29 (.tmp 258), 29, "ref.go:131", #[⟨3, .data⟩, ⟨5, .gcOnly .lateStores⟩], none⟩, ⟨none, .store 28 (.tmp 2) (.tmp 255), 0, "ref.go:131", #[⟨0, .data⟩, ⟨0, .phase⟩, ⟨1, .textOnly .lateStores⟩, ⟨2, .textOnly .lateStores⟩, ⟨3, .textOnly .lateStores⟩, ⟨4, .textOnly .lateStores⟩], none⟩, ⟨some 3, .assign (.tmp 259), 29, "ref.go:131", #[⟨4, .data⟩, ⟨5, .chain⟩, ⟨0, .phase⟩, ⟨1, .phase⟩, ⟨2, .phase⟩, ⟨3, .phase⟩, ⟨4, .phase⟩, ⟨5, .phase⟩], none⟩] true) Q ⟨#[u0, u1, (.pointer (some ⟨resb, 0, none⟩)), u3, u4, u5, (.pointer (some ⟨rb, 0, none⟩)), u7, u8, u9, aa, ac, ae, af, ag, ah, ai, aj, ak, am, ao, ap, aq, ar, au, av, aw, ax, ay, aA, aB, aC, aD, aE, aF, aG, aH, aI, aJ, aK, aL, aM, aN, aO, aP, aQ, aR, aS, aT, aU, aV, aW, aX, aY, aZ, ba, bb, bc, bd, bf, bg, bi, bj, bm, bo, br, bs, bt, bu, bw, bz, bA, bB, bC, bD, bE, bF, bG, bH, bI, bJ, bK, bL, bM, bN, bO, bP, bQ, bR, bS, bT, bU, bV, bW, bX, bY, bZ, cg, ci, cj, ck, cq, cr, ct, cu, cv, cw, cy, cz, cE, cF, cG, cH, cI, cJ, cK, cM, cN, cO, cP, cQ, cR, cS, cT, cU, cV, cW, cX, cY, cZ, da, dg, di, dj, dk, dq, dt, du, dv, dw, dy, dz, dE, dF, dG, dH, dI, dJ, dK, dM, dN, dO, dP, dQ, dR, dS, dT, dU, dV, dW, dX, dY, dZ, ed, ee, ef, eg, eh, ei, ej, ek, el, em, eo, ep, eq, et, eu, ey, ez, eA, eB, eC, eD, eE, eF, eG, eH, eI, eJ, eK, eL, eM, eN, eO, eP, eQ, eR, eS, eT, eU, eV, eW, eX, eY, eZ, fa, fb, fc, fd, fe, fg, fh, fi, fj, fk, fm, fn, fo, fp, fq, fs, fu, fv, fw, fx, fy, fz, fA, fB, fC, fD, fF, fG, fH, fI, fJ, fK, fL, fM, fN, fO, fP, fQ, fR, fS, fT, fU, fV, fW, fX, fY, fZ, ga, gb, gc, gd, ge, gf, gg, gh, gi, gj, gk, gl, gm, gn, gp, gr, gt, gu, gv, gw, gx, gy, gz, gA], []⟩ W := by
  have hbz := build_cf
  refine wp_region_held_drew (S := fun w' => w'.heap[rb]? = W.heap[rb]?) (by kernel_rfl) ?_ (fun hHeld => ?_)
  · exact rfl
  refine tN 0 ?_
  refine tN 1 ?_
  refine tN 2 ?_
  refine tN 3 ?_
  refine tN 4 ?_ (hy:=by intro w hSw;(try dsimp only at hSw);have c1 := (RS.keep HR.out hSw).er; have c1 : _ = some (Value.int .i64 10) := c1; clear hSw;go_simp;with_reducible rfl)
  refine rY [5] ?_
  refine rC (fun K hK => ?_) AllReadyH.nil
  have f0 := lies_frozen HZ.out 0
  have f1 := lies_frozen HZ.out 1
  have f2 := lies_frozen HZ.out 2
  have f3 := lies_frozen HZ.out 3
  have f4 := lies_frozen HZ.out 4
  have f5 := lies_frozen HZ.out 5
  obtain ⟨r0, r1, r2, r3, r4, r5⟩ := cells_6 HZ.out
  go_simp
  clear f0 f1 f2 f3 f4 f5 r0 r1 r2 r3 r4 r5
  refine hK.out _ _ ?_ (fun hHeld => ?_)
  · exact keep6 HNE.out
  clear hK K
  try simp only [Act.put, yA, yB, yC]
  refine tN 6 ?_
  refine wpAnyH_done (by kernel_rfl) ?_ _
  clear hHeld
  exact hQ _ (zset HZ.out) (fun B hB => below_6 (Below.refl B W) hB _ _ _ _ _ _ |>.drew) _ _ _ _ _
set_option maxHeartbeats 4000000 in
theorem r68 {W : World} {resb : Nat} (HZ : Hid (W.heap[resb]? = some (.cells #[.int .i64 0, .slice none 0 0, .int .i64 0, .slice none 0 0, .slice none 0 0, .slice none 0 0] 28))) {u0 u1 u3 u4 u5 u6 u7 u8 u9 aa ac ae af ag ah ai aj ak am ao ap aq ar au av aw ax ay aA aB aC aD aE aF aG aH aI aJ aK aL aM aN aO aP aQ aR aS aT aU aV aW aX aY aZ ba bb bc bd bf bg bi bj bm bo br bs bt bu bw bz bA bB bC bD bE bF bG bH bI bJ bK bL bM bN bO bP bQ bR bS bT bU bV bW bX bY bZ cg ci cj ck cq cr ct cu cv cw cy cz cE cF cG cH cI cJ cK cM cN cO cP cQ cR cS cT cU cV cW cX cY cZ da dg di dj dk dq dt du dv dw dy dz dE dF dG dH dI dJ dK dM dN dO dP dQ dR dS dT dU dV dW dX dY dZ ed ee ef eg eh ei ej ek el em eo ep eq et eu ey ez eA eB eC eD eE eF eG eH eI eJ eK eL eM eN eO eP eQ eR eS eT eU eV eW eX eY eZ fa fb fc fd fe fg fh fi fj fk fm fn fo fp fq fs fu fv fw fx fy fz fA fB fC fD fF fG fH fI fJ fK fL fM fN fO fP fQ fR fS fT fU fV fW fX fY fZ ga gb gc gd ge gf gg gh gi gj gk gl gm gn gp gr gt gu gv gw gx gy gz gA : Value} {Q : Exit → Act → World → Prop} (HPN : ∀ (p : List PanicEntry) (a : Act) (dd : Nat) (vv : Value) (w : World), Q (.panic p) (a.put (some dd) vv) w → Q (.panic p) a w) (hQ : ∀ (wc : World), wc.heap[resb]? = some (.cells #[.int .i64 0, .slice none 0 0, .int .i64 0, .slice none 0 0, .slice none 0 0, .slice none 0 0] 28) → (∀ B, B ≤ resb → Below B W wc) → ∀ x243 : Value, Q .normal ⟨#[u0, u1, (.pointer (some ⟨resb, 0, none⟩)), (.int .i64 1), u4, u5, u6, u7, u8, u9, aa, ac, ae, af, ag, ah, ai, aj, ak, am, ao, ap, aq, ar, au, av, aw, ax, ay, aA, aB, aC, aD, aE, aF, aG, aH, aI, aJ, aK, aL, aM, aN, aO, aP, aQ, aR, aS, aT, aU, aV, aW, aX, aY, aZ, ba, bb, bc, bd, bf, bg, bi, bj, bm, bo, br, bs, bt, bu, bw, bz, bA, bB, bC, bD, bE, bF, bG, bH, bI, bJ, bK, bL, bM, bN, bO, bP, bQ, bR, bS, bT, bU, bV, bW, bX, bY, bZ, cg, ci, cj, ck, cq, cr, ct, cu, cv, cw, cy, cz, cE, cF, cG, cH, cI, cJ, cK, cM, cN, cO, cP, cQ, cR, cS, cT, cU, cV, cW, cX, cY, cZ, da, dg, di, dj, dk, dq, dt, du, dv, dw, dy, dz, dE, dF, dG, dH, dI, dJ, dK, dM, dN, dO, dP, dQ, dR, dS, dT, dU, dV, dW, dX, dY, dZ, ed, ee, ef, eg, eh, ei, ej, ek, el, em, eo, ep, eq, et, eu, ey, ez, eA, eB, eC, eD, eE, eF, eG, eH, eI, eJ, eK, eL, eM, eN, eO, eP, eQ, eR, eS, eT, eU, eV, eW, eX, eY, eZ, fa, fb, fc, fd, fe, fg, fh, fi, fj, fk, fm, fn, fo, fp, fq, fs, fu, fv, fw, fx, fy, fz, fA, fB, fC, fD, fF, fG, fH, fI, fJ, fK, fL, fM, fN, fO, fP, x243, fR, fS, fT, fU, fV, fW, fX, fY, fZ, ga, gb, gc, gd, ge, gf, gg, gh, gi, gj, gk, gl, gm, gn, gp, gr, gt, gu, gv, gw, gx, gy, gz, gA], []⟩ wc) :
    Code.wp Tryz.prog (Code.region 68 #[⟨some 243, .build 28 #[], 28, "ref.go:126", #[], none⟩, ⟨none, .store 28 (.tmp 2) (.tmp 243), 0, "ref.go:126", #[⟨0, .data⟩, ⟨0, .phase⟩], none⟩, ⟨some 3, .assign (.const (.int .i64 1)), 29, "ref.go:126", #[⟨1, .chain⟩, ⟨0, .phase⟩, ⟨1, .phase⟩], none⟩] false) Q ⟨#[u0, u1, (.pointer (some ⟨resb, 0, none⟩)), u3, u4, u5, u6, u7, u8, u9, aa, ac, ae, af, ag, ah, ai, aj, ak, am, ao, ap, aq, ar, au, av, aw, ax, ay, aA, aB, aC, aD, aE, aF, aG, aH, aI, aJ, aK, aL, aM, aN, aO, aP, aQ, aR, aS, aT, aU, aV, aW, aX, aY, aZ, ba, bb, bc, bd, bf, bg, bi, bj, bm, bo, br, bs, bt, bu, bw, bz, bA, bB, bC, bD, bE, bF, bG, bH, bI, bJ, bK, bL, bM, bN, bO, bP, bQ, bR, bS, bT, bU, bV, bW, bX, bY, bZ, cg, ci, cj, ck, cq, cr, ct, cu, cv, cw, cy, cz, cE, cF, cG, cH, cI, cJ, cK, cM, cN, cO, cP, cQ, cR, cS, cT, cU, cV, cW, cX, cY, cZ, da, dg, di, dj, dk, dq, dt, du, dv, dw, dy, dz, dE, dF, dG, dH, dI, dJ, dK, dM, dN, dO, dP, dQ, dR, dS, dT, dU, dV, dW, dX, dY, dZ, ed, ee, ef, eg, eh, ei, ej, ek, el, em, eo, ep, eq, et, eu, ey, ez, eA, eB, eC, eD, eE, eF, eG, eH, eI, eJ, eK, eL, eM, eN, eO, eP, eQ, eR, eS, eT, eU, eV, eW, eX, eY, eZ, fa, fb, fc, fd, fe, fg, fh, fi, fj, fk, fm, fn, fo, fp, fq, fs, fu, fv, fw, fx, fy, fz, fA, fB, fC, fD, fF, fG, fH, fI, fJ, fK, fL, fM, fN, fO, fP, fQ, fR, fS, fT, fU, fV, fW, fX, fY, fZ, ga, gb, gc, gd, ge, gf, gg, gh, gi, gj, gk, gl, gm, gn, gp, gr, gt, gu, gv, gw, gx, gy, gz, gA], []⟩ W := by
  have f0 := lies_frozen HZ.out 0
  have f1 := lies_frozen HZ.out 1
  have f2 := lies_frozen HZ.out 2
  have f3 := lies_frozen HZ.out 3
  have f4 := lies_frozen HZ.out 4
  have f5 := lies_frozen HZ.out 5
  obtain ⟨r0, r1, r2, r3, r4, r5⟩ := cells_6 HZ.out
  have hbz := build_cf
  have hz := Lib.hid (zset0 HZ.out (y0 := .int .i64 0) (y1 := .slice none 0 0) (y2 := .int .i64 0) (y3 := .slice none 0 0) (y4 := .slice none 0 0) (y5 := .slice none 0 0))
  have hbl := Lib.hid (fun B (hB : B ≤ resb) => below_6 (Below.refl B W) hB (.int .i64 0) (.slice none 0 0) (.int .i64 0) (.slice none 0 0) (.slice none 0 0) (.slice none 0 0))
  have HQ := Lib.hid hQ
  clear hQ
  go_wp2
  all_goals exact HQ.out _ hz.out hbl.out _
end Go.Proofs.YtdgkanamceeheaaGreat.Im
