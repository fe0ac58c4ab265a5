/- Contract of begin. -/
import Derived.Test.YtgdjcoodjdckkaaM4
import Derived.Deep.RegionHeld3
set_option linter.unusedVariables false
set_option maxRecDepth 100000
namespace Go.Proofs.Ytgdjcoodjdckkaa
open Go.RowKit Go.Proofs.PitotIp Go.Maps
open Go.Proofs.PitotReasm (Bg Tb Fine bad first)
open Go.Proofs.Ytgdjcoodjdckkaa.Bi (lies_lt lies_cell lies_frozen lies_alloc lies_set)

theorem jr_zero (p : Pk) (ho : p.off = 0) : jr p 0 = if bad p.m p.d = true then 15 else if 8200 < p.s.size then 11 else 0 := by
  unfold jr
  rw [if_neg (by simp [ho]), Nat.zero_add]
/-- What a table is when its own Key has been given up. -/
def given (t : Tb K UInt8) (k : K) : Tb K UInt8 := ⟨drop t.l k, t.now, t.dr + (t.l.length - (drop t.l k).length)⟩
theorem first_bad {most : Nat} {t : Tb K UInt8} {k : K} {p : Pk} (ho : p.off = 0) (h : jr p 0 ≠ 0) : first most t k p.m p.d = (given t k, jr p 0) := by
  rw [jr_zero p ho] at h ⊢
  unfold first
  rw [Pk.d_length]
  by_cases h1 : bad p.m p.d = true
  · rw [if_pos h1, if_pos h1]; rfl
  · rw [if_neg h1] at h ⊢
    rw [if_neg h1]
    by_cases h2 : 8200 < p.s.size
    · rw [if_pos h2, if_pos h2]; rfl
    · rw [if_neg h2] at h; exact absurd rfl h
theorem first_full {most : Nat} {t : Tb K UInt8} {k : K} {p : Pk} (ho : p.off = 0) (h : jr p 0 = 0) (hm : most ≤ (given t k).l.length) : first most t k p.m p.d = (given t k, 22) := by
  rw [jr_zero p ho] at h
  unfold first
  rw [Pk.d_length]
  have h1 : ¬ bad p.m p.d = true := fun e => by rw [if_pos e] at h; omega
  rw [if_neg h1] at h
  have h2 : ¬ 8200 < p.s.size := fun e => by rw [if_pos e] at h; omega
  rw [if_neg h1, if_neg h2]
  exact if_pos hm
theorem first_put {most : Nat} {t : Tb K UInt8} {k : K} {p : Pk} (ho : p.off = 0) (h : jr p 0 = 0) (hm : ¬ most ≤ (given t k).l.length) : first most t k p.m p.d = (⟨(given t k).l ++ [⟨k, t.now, p.d⟩], t.now, (given t k).dr⟩, 0) := by
  rw [jr_zero p ho] at h
  unfold first
  rw [Pk.d_length]
  have h1 : ¬ bad p.m p.d = true := fun e => by rw [if_pos e] at h; omega
  rw [if_neg h1] at h
  have h2 : ¬ 8200 < p.s.size := fun e => by rw [if_pos e] at h; omega
  rw [if_neg h1, if_neg h2]
  exact if_neg hm
theorem given_none {t : Tb K UInt8} {k : K} (h : find t.l k = none) : given t k = t := by
  have : drop t.l k = t.l := PitotReasm.drop_none h
  unfold given
  rw [this]
  simp
theorem given_some {t : Tb K UInt8} {k : K} {b : Bg K UInt8} (hf : Fine t.l) (h : find t.l k = some b) : given t k = ⟨drop t.l k, t.now, t.dr + 1⟩ := by
  have : (drop t.l k).length + 1 = t.l.length := PitotReasm.drop_one hf.once h
  unfold given
  rw [show t.l.length - (drop t.l k).length = 1 by omega]
theorem info52 : (Try.prog.info? 52).map (fun i => (i.zero, i.size, i.bytes)) = some (some (.agg #[.int .u8 0, .int .u8 0, .int .u8 0, .int .u8 0, .int .u8 0, .int .u8 0, .int .u8 0, .int .u8 0, .int .i64 0, .int .i64 0]), 10, 24) := by kernel_rfl
theorem row_kept {base : Nat} {X w3 w4 wa : World} {mb n : Nat} {ov : Value} {xs : List Value} (h : X.ownsRow base 52 10 ov n xs) (hb3 : Below X.heap.size X w3) (hT : w3.mapTurned w4 mb) (hga : w4.grownBy wa none) : wa.ownsRow base 52 10 ov n xs := by
  refine ⟨h.1, ?_⟩
  rcases h.2 with hn | ⟨g, cap, cur, e, hg, hcur, r⟩
  · exact .inl hn
  · have e3 : w3.heap[g]? = some (.cells cur 52) := (hb3.block g (Array.getElem?_eq_some_iff.1 hcur).1).trans hcur
    have e4 := map_other hT e3 (by intro _ _ e; cases e)
    exact .inr ⟨g, cap, cur, e, hg, (hga.block g (Array.getElem?_eq_some_iff.1 e4).1 (by simp)).trans e4, r⟩
theorem Tab.tp_ne {base : Nat} {w : World} {p : Nat} {most wait : Int} {t : Tb K UInt8} {mb n : Nat} {D : DataW Value} {ov : Value} {dv : K → Value} (h : Tab base w p most wait t mb n D ov dv) : some p ≠ ov.ownBlock := by
  rcases h.row.2 with ⟨e, _⟩ | ⟨g, cap, cur, e, _, hcur, _⟩
  · rw [e]; simp [Value.ownBlock]
  · rw [e]
    intro e2
    simp [Value.ownBlock] at e2
    subst e2
    have := h.tab
    rw [hcur] at this; injection this with this; injection this with _ e3; exact absurd e3 (by decide)

theorem begin_end {base : Nat} {w V w3 w4 w5 : World} {tp : Nat} {most : Nat} {wait : Int} {t : Tb K UInt8} {mb L g cap : Nat} {D : DataW Value} {ov v : Value} {dv : K → Value} {k : K} {p : Pk} {R : Tb K UInt8 × Int} {nw dr : Int}
    (hR : R = (⟨(given t k).l ++ [⟨k, t.now, p.d⟩], t.now, (given t k).dr⟩, 0)) (h : Tab base V tp most wait (given t k) mb (Maps.size D) D ov dv) (hk : find (given t k).l k = none) (hL : (given t k).l.length = L) (_hn : (given t k).now = nw) (_hd : ((given t k).dr : Int) = dr)
    (hBy : BytesAt base w3 v p.d ∧ v.ownBlock = some V.heap.size) (hb3 : Below V.heap.size V w3) (hM : w4.ownsMap Try.prog 52 HE mb (Maps.size D + 1) (D.put (kl k) (.held (.agg #[.int .i64 nw, v]))) ∧ w3.mapTurned w4 mb) (hg : (w4.alloc k.obj).drew.grownBy w5 ov.ownBlock)
    (hrow : w5.ownsRow base 52 10 (.slice (some ⟨g, 0, none⟩) (L + 1) cap) (L + 1) (flatK ((given t k).l.map (·.k)) ++ k.enc)) (hF : Fr base w V) :
    Ending.returned (.int .i64 0) = Ending.returned (.int .i64 R.2) ∧ TabAt base (w5.setCell ⟨tp, 4, none⟩ (.slice (some ⟨g, 0, none⟩) (L + 1) cap)) tp most wait R.1 ∧ Fr base w (w5.setCell ⟨tp, 4, none⟩ (.slice (some ⟨g, 0, none⟩) (L + 1) cap)) := by
  subst hR
  have hnw : nw = (given t k).now := _hn.symm
  rw [hnw] at hM
  rw [← hL] at hrow ⊢
  obtain ⟨a, b⟩ := h.more hk hb3 hBy.1 hBy.2 hM.2 hM.1 (grown_below ((Below.refl _ w4).alloc (Nat.le_refl _) k.obj).drew none) hg hrow
  exact ⟨rfl, ⟨_, _, _, _, _, a⟩, hF.trans b⟩

set_option maxHeartbeats 4000000 in
theorem begin_any {base : Nat} {w : World} {tp : Nat} {most : Nat} {wait : Int} {t : Tb K UInt8} (h : TabAt base w tp most wait t) (hG : Good most t) (hmost : most ≤ 64) (hdr : t.dr ≤ 100000000000) (p : Pk) (hw : p.Wf) (ho : p.off = 0) (hs : p.s.size ≤ 1000000000) :
    Calls Try.prog 25 #[.pointer (some ⟨tp, 0, none⟩), p.val] w fun e w' => e = .returned (.int .i64 (first most t (p.key hw) p.m p.d).2) ∧ TabAt base w' tp most wait (first most t (p.key hw) p.m p.d).1 ∧ Fr base w w' := by
  obtain ⟨mb, n, D, ov, dv, h⟩ := h
  have hbase := h.lt.2.2
  have HK := fun w => keyOf_any p hw w
  obtain ⟨k, Hk⟩ : ∃ k, Hid (k = p.key hw) := ⟨_, rfl⟩
  simp only [← Hk.out] at HK ⊢
  obtain ⟨J, HJ⟩ : ∃ J, Hid (jr p 0 = J) := ⟨_, rfl⟩
  have HJD := fun w => judge_part p 0 hs (by omega) w
  rw [HJ.out] at HJD
  have HJD : Hid (∀ w, Calls Try.prog 39 #[p.val, .int .i64 0] w fun e w' => e = .returned (.int .i64 J) ∧ Below w.heap.size w w') := HJD
  obtain ⟨R, HR⟩ : ∃ R, Hid (R = first most t k p.m p.d) := ⟨_, rfl⟩
  rw [← HR.out]
  have HK := Lib.hid HK
  have HT := Lib.hid h; clear h
  have HG := Lib.hid hG; clear hG
  have Ho := Lib.hid ho; clear ho
  simp only [K.val] at HK
  go_enter Try.func25, Try.ntmps25
  go_upto_region 2 with (first
    | (go_at_call 38; (with_reducible refine (HK.out _).mono ?_); rintro e w2 ⟨rfl, hb2⟩))
  have hb3 : Below w.heap.size w (w2.alloc k.obj) := by
    have k1 := (Below.refl w.heap.size w).alloc (Nat.le_refl _) p.obj
    have k2 := k1.trans (hb2.mono k1.size)
    exact k2.alloc k2.size _
  have H1 : Hid (Tab base (w2.alloc k.obj) tp most wait t mb n D ov dv) := HT.out.below hb3
  have P1 : Hid ((w2.alloc k.obj).heap[w.heap.size]? = some p.obj) := lies_alloc (lies_below (heap_alloc_new w _) hb2 (by simp)) _
  have C1 : Hid ((w2.alloc k.obj).heap[w2.heap.size]? = some k.obj) := heap_alloc_new w2 _
  have F1 : Hid (Fr base w (w2.alloc k.obj)) := Fr.of hb3 hbase
  obtain ⟨pb, Hpb⟩ : ∃ pb, Hid (pb = w.heap.size) := ⟨_, rfl⟩
  obtain ⟨kb, Hkb⟩ : ∃ kb, Hid (kb = w2.heap.size) := ⟨_, rfl⟩
  rw [← Hpb.out] at P1 ⊢
  rw [← Hkb.out] at C1 ⊢
  generalize w2.alloc k.obj = X at H1 P1 C1 F1 ⊢
  have hpb : base ≤ pb := by rw [Hpb.out]; exact hbase
  have hkb : base ≤ kb := by
    have := hb2.size
    rw [World.size_alloc] at this
    rw [Hkb.out]; omega
  have hkf : Hid (some kb ≠ ov.ownBlock) := by
    show _ ≠ _
    intro e
    rcases HT.out.row.2 with ⟨e1, _⟩ | ⟨g, cap, cur, e1, _, hcur, _⟩
    · rw [e1] at e; cases e
    · rw [e1] at e
      simp only [Value.ownBlock, Option.some.injEq] at e
      have := (Array.getElem?_eq_some_iff.1 hcur).1
      have h2 := hb2.size
      rw [World.size_alloc] at h2
      rw [Hkb.out] at e; omega
  clear HT hb2 hb3 Hpb Hkb hbase
  obtain ⟨bo, Hbo⟩ : ∃ bo, Hid (bo = (find t.l k).isSome) := ⟨_, rfl⟩
  obtain ⟨b0, b1, b2, b3, Hbw⟩ : ∃ b0 b1 b2 b3, Hid (bval (find t.l k) (dv k) = .agg #[.int .i64 b0, .slice b1 b2 b3]) := by
    cases hf : find t.l k with
    | none => exact ⟨0, none, 0, 0, rfl⟩
    | some b =>
      obtain ⟨g, cap, e, _⟩ := (H1.out.bytes b (find_mem hf).1).form
      rw [(find_mem hf).2] at e
      exact ⟨b.t0, some ⟨g, 0, none⟩, b.d.length, cap, by show _ = _; rw [bval, e]⟩
  go_upto_region 2 with (fail)
  refine wp_region_held_drew (S := fun w' => Tab base w' tp most wait t mb n D ov dv ∧ w'.heap[pb]? = some p.obj ∧ w'.heap[kb]? = some k.obj ∧ Fr base w w') (by kernel_rfl) ?_ (fun hHeld => ?_)
  · exact ⟨H1.out.drewN 1, P1.out, C1.out, F1.out.drew⟩
  refine wpAnyH_take (i := 0) (oi := { dst := some 12, op := Go.Op.move (Go.Operand.tmp 0), type := 23, pos := "reasm.go:75", after := #[], guard := none }) (v := ?_) rfl (by kernel_rfl) (by kernel_rfl) (by kernel_rfl) (fun _ _ _ h => h) (Or.inl ⟨by rfl, ?_⟩) (by assumption) ?_
  rotate_left
  focus ((intro w hSw; (try dsimp only at hSw); clear hSw; go_simp) <;> (with_reducible rfl))
  try simp only [Act.put, List.setIfInBounds_toArray, List.set_cons_zero, List.set_cons_succ]
  refine wpAnyH_take (i := 1) (oi := { dst := some 13, op := Go.Op.nilCheck (Go.Operand.tmp 12), type := 0, pos := "reasm.go:75", after := #[{ on := 0, ground := Go.Ground.data }], guard := none }) (v := ?_) rfl (by kernel_rfl) (by kernel_rfl) (by kernel_rfl) (fun _ _ _ h => h) (Or.inl ⟨by rfl, ?_⟩) (by assumption) ?_
  rotate_left
  focus ((intro w hSw; (try dsimp only at hSw); clear hSw; go_simp) <;> (with_reducible rfl))
  try simp only [Act.put, List.setIfInBounds_toArray, List.set_cons_zero, List.set_cons_succ]
  refine wpAnyH_take (i := 2) (oi := { dst := some 14, op := Go.Op.fieldAddr 70 (Go.Operand.tmp 13) 3, type := 0, pos := "reasm.go:75", after := #[{ on := 1, ground := Go.Ground.data }], guard := none }) (v := ?_) rfl (by kernel_rfl) (by kernel_rfl) (by kernel_rfl) (fun _ _ _ h => h) (Or.inl ⟨by rfl, ?_⟩) (by assumption) ?_
  rotate_left
  focus ((intro w hSw; (try dsimp only at hSw); clear hSw; go_simp) <;> (with_reducible rfl))
  try simp only [Act.put, List.setIfInBounds_toArray, List.set_cons_zero, List.set_cons_succ]
  refine wpAnyH_take (i := 3) (oi := { dst := some 15, op := Go.Op.load 68 (Go.Operand.tmp 14), type := 68, pos := "reasm.go:75", after := #[{ on := 2, ground := Go.Ground.data }], guard := none }) (v := ?_) rfl (by kernel_rfl) (by kernel_rfl) (by kernel_rfl) (fun _ _ _ h => h) (Or.inl ⟨by rfl, ?_⟩) (by assumption) ?_
  rotate_left
  focus ((intro w hSw; (try dsimp only at hSw); have hc : w.cell? ⟨tp, 3, none⟩ = some (.map (some mb)) := lies_cell hSw.1.tab 3; clear hSw; go_simp) <;> (with_reducible rfl))
  try simp only [Act.put, List.setIfInBounds_toArray, List.set_cons_zero, List.set_cons_succ]
  refine wpAnyH_take (i := 4) (oi := { dst := some 16, op := Go.Op.load 52 (Go.Operand.tmp 5), type := 52, pos := "reasm.go:75", after := #[], guard := none }) (v := ?_) rfl (by kernel_rfl) (by kernel_rfl) (by kernel_rfl) (fun _ _ _ h => h) (Or.inl ⟨by rfl, ?_⟩) (by assumption) ?_
  rotate_left
  focus ((intro w hSw; (try dsimp only at hSw); obtain ⟨c0, c1, c2, c3, c4, c5, c6, c7, c8, c9⟩ := cells10 hSw.2.2.1; simp only [Nat.zero_add] at c1 c2 c3 c4 c5 c6 c7 c8 c9; clear hSw; go_simp) <;> (with_reducible rfl))
  try simp only [Act.put, List.setIfInBounds_toArray, List.set_cons_zero, List.set_cons_succ]
  refine wpAnyH_take (i := 5) (oi := { dst := some 17, op := Go.Op.lookup 68 (Go.Operand.tmp 15) (Go.Operand.tmp 16) true, type := 90, pos := "reasm.go:75", after := #[{ on := 3, ground := Go.Ground.data }, { on := 4, ground := Go.Ground.data }], guard := none }) (v := ?_) rfl (by kernel_rfl) (by kernel_rfl) (by kernel_rfl) (fun _ _ _ h => h) (Or.inl ⟨by rfl, ?_⟩) (by assumption) ?_
  rotate_left
  focus ((intro w hSw; (try dsimp only at hSw); have hl := look_two hSw.1.map hSw.1.rep k; rw [← Hbo.out, Hbw.out] at hl; simp only [K.val] at hl; clear hSw; go_simp) <;> (with_reducible rfl))
  try simp only [Act.put, List.setIfInBounds_toArray, List.set_cons_zero, List.set_cons_succ]
  refine wpAnyH_take (i := 6) (oi := { dst := some 11, op := Go.Op.move (Go.Operand.tmp 17), type := 90, pos := "reasm.go:75", after := #[{ on := 5, ground := Go.Ground.data }], guard := none }) (v := ?_) rfl (by kernel_rfl) (by kernel_rfl) (by kernel_rfl) (fun _ _ _ h => h) (Or.inl ⟨by rfl, ?_⟩) (by assumption) ?_
  rotate_left
  focus ((intro w hSw; (try dsimp only at hSw); clear hSw; go_simp) <;> (with_reducible rfl))
  try simp only [Act.put, List.setIfInBounds_toArray, List.set_cons_zero, List.set_cons_succ]
  refine wpAnyH_take (i := 7) (oi := { dst := some 18, op := Go.Op.extract (Go.Operand.tmp 11) 0, type := 73, pos := "reasm.go:75", after := #[{ on := 6, ground := Go.Ground.data }], guard := none }) (v := ?_) rfl (by kernel_rfl) (by kernel_rfl) (by kernel_rfl) (fun _ _ _ h => h) (Or.inl ⟨by rfl, ?_⟩) (by assumption) ?_
  rotate_left
  focus ((intro w hSw; (try dsimp only at hSw); clear hSw; go_simp) <;> (with_reducible rfl))
  try simp only [Act.put, List.setIfInBounds_toArray, List.set_cons_zero, List.set_cons_succ]
  refine wpAnyH_take (i := 8) (oi := { dst := some 19, op := Go.Op.extract (Go.Operand.tmp 11) 1, type := 4, pos := "reasm.go:75", after := #[{ on := 6, ground := Go.Ground.data }, { on := 10, ground := Go.Ground.gcOnly Go.Departure.lateStores }], guard := none }) (v := ?_) rfl (by kernel_rfl) (by kernel_rfl) (by kernel_rfl) (fun _ _ _ h => h) (Or.inl ⟨by rfl, ?_⟩) (by assumption) ?_
  rotate_left
  focus ((intro w hSw; (try dsimp only at hSw); clear hSw; go_simp) <;> (with_reducible rfl))
  try simp only [Act.put, List.setIfInBounds_toArray, List.set_cons_zero, List.set_cons_succ]
  refine wpAnyH_ready (rs := [9]) (by kernel_rfl) (by simp) ?_
  refine AllReadyH.cons (o := { dst := some 6, op := Go.Op.alloc 73, type := 0, pos := "reasm.go:75", after := #[], guard := none }) rfl (fun K hK => ?_) AllReadyH.nil
  go_simp
  refine hK.out _ _ ?_ (fun hHeld => ?_)
  · exact ⟨hHeld.1.below ((Below.refl _ _).alloc (Nat.le_refl _) _), lies_alloc hHeld.2.1 _, lies_alloc hHeld.2.2.1 _, hHeld.2.2.2.trans (Fr.of ((Below.refl _ _).alloc (Nat.le_refl _) _) hHeld.1.lt.2.2)⟩
  clear hK K
  try simp only [Act.put, List.setIfInBounds_toArray, List.set_cons_zero, List.set_cons_succ]
  refine wpAnyH_ready (rs := [10]) (by kernel_rfl) (by simp) ?_
  refine AllReadyH.cons (o := { dst := none, op := Go.Op.store 73 (Go.Operand.tmp 6) (Go.Operand.tmp 18), type := 0, pos := "reasm.go:75", after := #[{ on := 9, ground := Go.Ground.data }, { on := 7, ground := Go.Ground.data }, { on := 0, ground := Go.Ground.phase }, { on := 1, ground := Go.Ground.phase }, { on := 2, ground := Go.Ground.phase }, { on := 3, ground := Go.Ground.phase }, { on := 4, ground := Go.Ground.phase }, { on := 5, ground := Go.Ground.phase }, { on := 6, ground := Go.Ground.phase }, { on := 7, ground := Go.Ground.phase }, { on := 8, ground := Go.Ground.textOnly Go.Departure.lateStores }, { on := 9, ground := Go.Ground.phase }], guard := none }) rfl (fun K hK => ?_) AllReadyH.nil
  go_simp
  refine hK.out _ _ ?_ (fun hHeld => ?_)
  · exact ⟨(H1.out.below ((Below.refl _ X).alloc (Nat.le_refl _) _)).drewN 1, lies_alloc P1.out _, lies_alloc C1.out _, (F1.out.trans (Fr.of ((Below.refl _ X).alloc (Nat.le_refl _) _) H1.out.lt.2.2)).drew⟩
  clear hK K
  try simp only [Act.put, List.setIfInBounds_toArray, List.set_cons_zero, List.set_cons_succ]
  refine wpAnyH_take (i := 11) (oi := { dst := some 7, op := Go.Op.assign (Go.Operand.tmp 19), type := 4, pos := "reasm.go:75", after := #[{ on := 8, ground := Go.Ground.data }, { on := 10, ground := Go.Ground.chain }, { on := 0, ground := Go.Ground.phase }, { on := 1, ground := Go.Ground.phase }, { on := 2, ground := Go.Ground.phase }, { on := 3, ground := Go.Ground.phase }, { on := 4, ground := Go.Ground.phase }, { on := 5, ground := Go.Ground.phase }, { on := 6, ground := Go.Ground.phase }, { on := 7, ground := Go.Ground.phase }, { on := 8, ground := Go.Ground.phase }, { on := 9, ground := Go.Ground.phase }, { on := 10, ground := Go.Ground.phase }], guard := none }) (v := ?_) rfl (by kernel_rfl) (by kernel_rfl) (by kernel_rfl) (fun _ _ _ h => h) (Or.inl ⟨by rfl, ?_⟩) (by assumption) ?_
  rotate_left
  focus ((intro w hSw; (try dsimp only at hSw); clear hSw; go_simp) <;> (with_reducible rfl))
  try simp only [Act.put, List.setIfInBounds_toArray, List.set_cons_zero, List.set_cons_succ]
  refine wpAnyH_done (by kernel_rfl) ?_ _
  clear H1 P1 C1 F1
  generalize (X.alloc (.cells #[.int .i64 b0, .slice b1 b2 b3] 73)).drew = V5 at hHeld ⊢
  have H5 := Lib.hid hHeld.1
  have P5 := Lib.hid hHeld.2.1
  have C5 := Lib.hid hHeld.2.2.1
  have F5 := Lib.hid hHeld.2.2.2
  clear hHeld Hbw
  cases hf : find t.l k
  case none =>
    have HG1 := Lib.hid (given_none hf)
    obtain rfl : bo = false := by rw [Hbo.out, hf]; rfl
    have HH : Hid (TabAt base V5 tp most wait (given t k)) := by show TabAt _ _ _ _ _ _; rw [HG1.out]; exact ⟨_, _, _, _, _, H5.out⟩
    clear HG1 H5 Hbo hf
    go_upto_region 5 with (fail)
    clear Hk
    obtain ⟨mb, n, D, ov, dv, HH⟩ := HH.out
    obtain ⟨L, HL⟩ : ∃ L, Hid (Maps.size D = L) := ⟨_, rfl⟩
    have HLL : Hid ((given t k).l.length = L) := HH.size.symm.trans HL.out
    have HH : Hid (Tab base V5 tp most wait (given t k) mb (Maps.size D) D ov dv) := { HH with map := map_tight HH.map }
    obtain ⟨nw, Hnw⟩ : ∃ x, Hid ((given t k).now = x) := ⟨_, rfl⟩
    obtain ⟨dr, Hdr⟩ : ∃ x : Int, Hid (((given t k).dr : Int) = x) := ⟨_, rfl⟩
    have hL64 : L ≤ 64 := by
      have h1 : (drop t.l k).length ≤ t.l.length := PitotReasm.drop_length_le _ _
      have h2 := HG.out.room
      have h3 : (drop t.l k).length = L := HLL.out
      omega
    obtain ⟨d0, d1, d2, d3, d4, d5, d6, d7, d8, d9, d10, d11, d12, d13⟩ := cells14 P5.out
    by_cases hJ : J = 0
    · subst hJ
      go_upto_region 8 with (first
        | (go_at_call 39; (with_reducible refine (HJD.out _).mono ?_); rintro e V7 ⟨rfl, hb7⟩
           (clear d0 d1 d2 d3 d4 d5 d6 d7 d8 d9 d10 d11 d12 d13)))
      have H7 : Hid (Tab base V7.drew tp most wait (given t k) mb (Maps.size D) D ov dv) := (HH.out.below hb7).drewN 1
      have P7 : Hid (V7.drew.heap[pb]? = some p.obj) := lies_below P5.out hb7.drew (lies_lt P5.out)
      have C7 : Hid (V7.drew.heap[kb]? = some k.obj) := lies_below C5.out hb7.drew (lies_lt C5.out)
      have F7 : Hid (Fr base w V7.drew) := (F5.out.trans (Fr.of hb7 HH.out.lt.2.2)).drew
      have L7 : Hid (V7.drew.heap[tp]? = some (tabC most wait nw mb ov dr)) := by
        have := H7.out.tab
        rw [Hnw.out, Hdr.out] at this
        exact this
      clear hb7 HH P5 C5 F5 HJD
      go_upto_region 8 with (fail)
      refine wp_region_held_drew (S := fun w' => w'.heap[tp]? = some (tabC most wait nw mb ov dr) ∧ w'.ownsMap Try.prog 52 HE mb (Maps.size D) D) (by kernel_rfl) ?_ (fun hHeld => ?_)
      · exact ⟨L7.out, H7.out.map⟩
      refine wpAnyH_take (i := 0) (oi := { dst := some 29, op := Go.Op.move (Go.Operand.tmp 0), type := 23, pos := "reasm.go:81", after := #[], guard := none }) (v := ?_) rfl (by kernel_rfl) (by kernel_rfl) (by kernel_rfl) (fun _ _ _ h => h) (Or.inl ⟨by rfl, ?_⟩) (by assumption) ?_
      rotate_left
      focus ((intro w hSw; (try dsimp only at hSw); clear hSw; go_simp) <;> (with_reducible rfl))
      try simp only [Act.put, List.setIfInBounds_toArray, List.set_cons_zero, List.set_cons_succ]
      refine wpAnyH_take (i := 1) (oi := { dst := some 30, op := Go.Op.nilCheck (Go.Operand.tmp 29), type := 0, pos := "reasm.go:81", after := #[{ on := 0, ground := Go.Ground.data }], guard := none }) (v := ?_) rfl (by kernel_rfl) (by kernel_rfl) (by kernel_rfl) (fun _ _ _ h => h) (Or.inl ⟨by rfl, ?_⟩) (by assumption) ?_
      rotate_left
      focus ((intro w hSw; (try dsimp only at hSw); clear hSw; go_simp) <;> (with_reducible rfl))
      try simp only [Act.put, List.setIfInBounds_toArray, List.set_cons_zero, List.set_cons_succ]
      refine wpAnyH_take (i := 2) (oi := { dst := some 31, op := Go.Op.fieldAddr 70 (Go.Operand.tmp 30) 3, type := 0, pos := "reasm.go:81", after := #[{ on := 1, ground := Go.Ground.data }], guard := none }) (v := ?_) rfl (by kernel_rfl) (by kernel_rfl) (by kernel_rfl) (fun _ _ _ h => h) (Or.inl ⟨by rfl, ?_⟩) (by assumption) ?_
      rotate_left
      focus ((intro w hSw; (try dsimp only at hSw); clear hSw; go_simp) <;> (with_reducible rfl))
      try simp only [Act.put, List.setIfInBounds_toArray, List.set_cons_zero, List.set_cons_succ]
      refine wpAnyH_take (i := 3) (oi := { dst := some 32, op := Go.Op.load 68 (Go.Operand.tmp 31), type := 68, pos := "reasm.go:81", after := #[{ on := 2, ground := Go.Ground.data }], guard := none }) (v := ?_) rfl (by kernel_rfl) (by kernel_rfl) (by kernel_rfl) (fun _ _ _ h => h) (Or.inl ⟨by rfl, ?_⟩) (by assumption) ?_
      rotate_left
      focus ((intro w hSw; (try dsimp only at hSw); have hc : w.cell? ⟨tp, 3, none⟩ = some (.map (some mb)) := lies_cell hSw.1 3; clear hSw; go_simp) <;> (with_reducible rfl))
      try simp only [Act.put, List.setIfInBounds_toArray, List.set_cons_zero, List.set_cons_succ]
      refine wpAnyH_take (i := 4) (oi := { dst := some 33, op := Go.Op.call { callee := Go.Callee.builtin Go.Builtin.len, args := #[Go.Operand.tmp 32], argTypes := #[68] }, type := 3, pos := "reasm.go:81", after := #[{ on := 3, ground := Go.Ground.data }], guard := none }) (v := ?_) rfl (by kernel_rfl) (by kernel_rfl) (by kernel_rfl) (fun _ _ _ h => h) (Or.inl ⟨by rfl, ?_⟩) (by assumption) ?_
      rotate_left
      focus ((intro w hSw; (try dsimp only at hSw); have hl := hSw.2.len Try.underlying68 3; rw [HL.out] at hl; clear hSw; go_simp) <;> (with_reducible rfl))
      try simp only [Act.put, List.setIfInBounds_toArray, List.set_cons_zero, List.set_cons_succ]
      refine wpAnyH_take (i := 5) (oi := { dst := some 34, op := Go.Op.move (Go.Operand.tmp 0), type := 23, pos := "reasm.go:81", after := #[], guard := none }) (v := ?_) rfl (by kernel_rfl) (by kernel_rfl) (by kernel_rfl) (fun _ _ _ h => h) (Or.inl ⟨by rfl, ?_⟩) (by assumption) ?_
      rotate_left
      focus ((intro w hSw; (try dsimp only at hSw); clear hSw; go_simp) <;> (with_reducible rfl))
      try simp only [Act.put, List.setIfInBounds_toArray, List.set_cons_zero, List.set_cons_succ]
      refine wpAnyH_take (i := 6) (oi := { dst := some 35, op := Go.Op.nilCheck (Go.Operand.tmp 34), type := 0, pos := "reasm.go:81", after := #[{ on := 5, ground := Go.Ground.data }], guard := none }) (v := ?_) rfl (by kernel_rfl) (by kernel_rfl) (by kernel_rfl) (fun _ _ _ h => h) (Or.inl ⟨by rfl, ?_⟩) (by assumption) ?_
      rotate_left
      focus ((intro w hSw; (try dsimp only at hSw); clear hSw; go_simp) <;> (with_reducible rfl))
      try simp only [Act.put, List.setIfInBounds_toArray, List.set_cons_zero, List.set_cons_succ]
      refine wpAnyH_take (i := 7) (oi := { dst := some 36, op := Go.Op.fieldAddr 70 (Go.Operand.tmp 35) 0, type := 0, pos := "reasm.go:81", after := #[{ on := 6, ground := Go.Ground.data }], guard := none }) (v := ?_) rfl (by kernel_rfl) (by kernel_rfl) (by kernel_rfl) (fun _ _ _ h => h) (Or.inl ⟨by rfl, ?_⟩) (by assumption) ?_
      rotate_left
      focus ((intro w hSw; (try dsimp only at hSw); clear hSw; go_simp) <;> (with_reducible rfl))
      try simp only [Act.put, List.setIfInBounds_toArray, List.set_cons_zero, List.set_cons_succ]
      refine wpAnyH_take (i := 8) (oi := { dst := some 37, op := Go.Op.load 3 (Go.Operand.tmp 36), type := 3, pos := "reasm.go:81", after := #[{ on := 7, ground := Go.Ground.data }], guard := none }) (v := ?_) rfl (by kernel_rfl) (by kernel_rfl) (by kernel_rfl) (fun _ _ _ h => h) (Or.inl ⟨by rfl, ?_⟩) (by assumption) ?_
      rotate_left
      focus ((intro w hSw; (try dsimp only at hSw); have hc : w.cell? ⟨tp, 0, none⟩ = some (.int .i64 most) := lies_cell hSw.1 0; clear hSw; go_simp) <;> (with_reducible rfl))
      try simp only [Act.put, List.setIfInBounds_toArray, List.set_cons_zero, List.set_cons_succ]
      refine wpAnyH_take (i := 9) (oi := { dst := some 38, op := Go.Op.binOp Go.BinOp.geq 3 (Go.Operand.tmp 33) (Go.Operand.tmp 37) 3, type := 4, pos := "reasm.go:81", after := #[{ on := 4, ground := Go.Ground.data }, { on := 8, ground := Go.Ground.data }], guard := none }) (v := ?_) rfl (by kernel_rfl) (by kernel_rfl) (by kernel_rfl) (fun _ _ _ h => h) (Or.inl ⟨by rfl, ?_⟩) (by assumption) ?_
      rotate_left
      focus ((intro w hSw; (try dsimp only at hSw); clear hSw; go_simp) <;> (with_reducible rfl))
      try simp only [Act.put, List.setIfInBounds_toArray, List.set_cons_zero, List.set_cons_succ]
      refine wpAnyH_done (by kernel_rfl) ?_ _
      clear hHeld
      generalize V7.drew = V8 at H7 P7 C7 F7 L7 ⊢
      have HJ0 := HJ.out
      by_cases hr : most ≤ L
      · have hd : decide ((most : Int) ≤ (L : Int)) = true := decide_eq_true (by omega)
        have HRR := HR.out
        rw [first_full Ho.out HJ0 (by rw [HLL.out]; exact hr)] at HRR
        subst HRR
        clear HJ0
        go_wp2
        go_returns
        exact ⟨rfl, ⟨_, _, _, _, _, H7.out⟩, F7.out⟩
      · have hd : decide ((most : Int) ≤ (L : Int)) = false := decide_eq_false (by omega)
        have HRR := Lib.hid (HR.out.trans (first_put Ho.out HJ0 (by rw [HLL.out]; exact hr)))
        have hnf := Lib.hid (PitotReasm.find_drop_self t.l k)
        clear HJ0
        go_upto_region 10 with (fail)
        refine wp_region_held_drew (S := fun w' => w'.heap[tp]? = some (tabC most wait nw mb ov dr) ∧ w'.heap[pb]? = some p.obj ∧ w'.heap[kb]? = some k.obj) (by kernel_rfl) ?_ (fun hHeld => ?_)
        · exact ⟨L7.out, P7.out, C7.out⟩
        refine wpAnyH_take (i := 0) (oi := { dst := some 39, op := Go.Op.move (Go.Operand.tmp 0), type := 23, pos := "reasm.go:84", after := #[], guard := none }) (v := ?_) rfl (by kernel_rfl) (by kernel_rfl) (by kernel_rfl) (fun _ _ _ h => h) (Or.inl ⟨by rfl, ?_⟩) (by assumption) ?_
        rotate_left
        focus ((intro w hSw; (try dsimp only at hSw); clear hSw; go_simp) <;> (with_reducible rfl))
        try simp only [Act.put, List.setIfInBounds_toArray, List.set_cons_zero, List.set_cons_succ]
        refine wpAnyH_take (i := 1) (oi := { dst := some 40, op := Go.Op.nilCheck (Go.Operand.tmp 39), type := 0, pos := "reasm.go:84", after := #[{ on := 0, ground := Go.Ground.data }], guard := none }) (v := ?_) rfl (by kernel_rfl) (by kernel_rfl) (by kernel_rfl) (fun _ _ _ h => h) (Or.inl ⟨by rfl, ?_⟩) (by assumption) ?_
        rotate_left
        focus ((intro w hSw; (try dsimp only at hSw); clear hSw; go_simp) <;> (with_reducible rfl))
        try simp only [Act.put, List.setIfInBounds_toArray, List.set_cons_zero, List.set_cons_succ]
        refine wpAnyH_take (i := 2) (oi := { dst := some 41, op := Go.Op.fieldAddr 70 (Go.Operand.tmp 40) 3, type := 0, pos := "reasm.go:84", after := #[{ on := 1, ground := Go.Ground.data }], guard := none }) (v := ?_) rfl (by kernel_rfl) (by kernel_rfl) (by kernel_rfl) (fun _ _ _ h => h) (Or.inl ⟨by rfl, ?_⟩) (by assumption) ?_
        rotate_left
        focus ((intro w hSw; (try dsimp only at hSw); clear hSw; go_simp) <;> (with_reducible rfl))
        try simp only [Act.put, List.setIfInBounds_toArray, List.set_cons_zero, List.set_cons_succ]
        refine wpAnyH_take (i := 3) (oi := { dst := some 42, op := Go.Op.load 68 (Go.Operand.tmp 41), type := 68, pos := "reasm.go:84", after := #[{ on := 2, ground := Go.Ground.data }], guard := none }) (v := ?_) rfl (by kernel_rfl) (by kernel_rfl) (by kernel_rfl) (fun _ _ _ h => h) (Or.inl ⟨by rfl, ?_⟩) (by assumption) ?_
        rotate_left
        focus ((intro w hSw; (try dsimp only at hSw); have hc : w.cell? ⟨tp, 3, none⟩ = some (.map (some mb)) := lies_cell hSw.1 3; clear hSw; go_simp) <;> (with_reducible rfl))
        try simp only [Act.put, List.setIfInBounds_toArray, List.set_cons_zero, List.set_cons_succ]
        refine wpAnyH_take (i := 4) (oi := { dst := some 43, op := Go.Op.load 52 (Go.Operand.tmp 5), type := 52, pos := "reasm.go:84", after := #[], guard := none }) (v := ?_) rfl (by kernel_rfl) (by kernel_rfl) (by kernel_rfl) (fun _ _ _ h => h) (Or.inl ⟨by rfl, ?_⟩) (by assumption) ?_
        rotate_left
        focus ((intro w hSw; (try dsimp only at hSw); obtain ⟨c0, c1, c2, c3, c4, c5, c6, c7, c8, c9⟩ := cells10 hSw.2.2; simp only [Nat.zero_add] at c1 c2 c3 c4 c5 c6 c7 c8 c9; clear hSw; go_simp) <;> (with_reducible rfl))
        try simp only [Act.put, List.setIfInBounds_toArray, List.set_cons_zero, List.set_cons_succ]
        refine wpAnyH_take (i := 5) (oi := { dst := some 44, op := Go.Op.move (Go.Operand.tmp 0), type := 23, pos := "reasm.go:84", after := #[], guard := none }) (v := ?_) rfl (by kernel_rfl) (by kernel_rfl) (by kernel_rfl) (fun _ _ _ h => h) (Or.inl ⟨by rfl, ?_⟩) (by assumption) ?_
        rotate_left
        focus ((intro w hSw; (try dsimp only at hSw); clear hSw; go_simp) <;> (with_reducible rfl))
        try simp only [Act.put, List.setIfInBounds_toArray, List.set_cons_zero, List.set_cons_succ]
        refine wpAnyH_take (i := 6) (oi := { dst := some 45, op := Go.Op.nilCheck (Go.Operand.tmp 44), type := 0, pos := "reasm.go:84", after := #[{ on := 5, ground := Go.Ground.data }], guard := none }) (v := ?_) rfl (by kernel_rfl) (by kernel_rfl) (by kernel_rfl) (fun _ _ _ h => h) (Or.inl ⟨by rfl, ?_⟩) (by assumption) ?_
        rotate_left
        focus ((intro w hSw; (try dsimp only at hSw); clear hSw; go_simp) <;> (with_reducible rfl))
        try simp only [Act.put, List.setIfInBounds_toArray, List.set_cons_zero, List.set_cons_succ]
        refine wpAnyH_take (i := 7) (oi := { dst := some 46, op := Go.Op.fieldAddr 70 (Go.Operand.tmp 45) 2, type := 0, pos := "reasm.go:84", after := #[{ on := 6, ground := Go.Ground.data }], guard := none }) (v := ?_) rfl (by kernel_rfl) (by kernel_rfl) (by kernel_rfl) (fun _ _ _ h => h) (Or.inl ⟨by rfl, ?_⟩) (by assumption) ?_
        rotate_left
        focus ((intro w hSw; (try dsimp only at hSw); clear hSw; go_simp) <;> (with_reducible rfl))
        try simp only [Act.put, List.setIfInBounds_toArray, List.set_cons_zero, List.set_cons_succ]
        refine wpAnyH_take (i := 8) (oi := { dst := some 47, op := Go.Op.load 3 (Go.Operand.tmp 46), type := 3, pos := "reasm.go:84", after := #[{ on := 7, ground := Go.Ground.data }], guard := none }) (v := ?_) rfl (by kernel_rfl) (by kernel_rfl) (by kernel_rfl) (fun _ _ _ h => h) (Or.inl ⟨by rfl, ?_⟩) (by assumption) ?_
        rotate_left
        focus ((intro w hSw; (try dsimp only at hSw); have hc : w.cell? ⟨tp, 2, none⟩ = some (.int .i64 nw) := lies_cell hSw.1 2; clear hSw; go_simp) <;> (with_reducible rfl))
        try simp only [Act.put, List.setIfInBounds_toArray, List.set_cons_zero, List.set_cons_succ]
        refine wpAnyH_take (i := 9) (oi := { dst := some 48, op := Go.Op.fieldAddr 34 (Go.Operand.tmp 3) 7, type := 0, pos := "reasm.go:84", after := #[], guard := none }) (v := ?_) rfl (by kernel_rfl) (by kernel_rfl) (by kernel_rfl) (fun _ _ _ h => h) (Or.inl ⟨by rfl, ?_⟩) (by assumption) ?_
        rotate_left
        focus ((intro w hSw; (try dsimp only at hSw); clear hSw; go_simp) <;> (with_reducible rfl))
        try simp only [Act.put, List.setIfInBounds_toArray, List.set_cons_zero, List.set_cons_succ]
        refine wpAnyH_take (i := 10) (oi := { dst := some 49, op := Go.Op.load 9 (Go.Operand.tmp 48), type := 9, pos := "reasm.go:84", after := #[{ on := 9, ground := Go.Ground.data }], guard := none }) (v := ?_) rfl (by kernel_rfl) (by kernel_rfl) (by kernel_rfl) (fun _ _ _ h => h) (Or.inl ⟨by rfl, ?_⟩) (by assumption) ?_
        rotate_left
        focus ((intro w hSw; (try dsimp only at hSw); have hc : w.cell? ⟨pb, 13, none⟩ = some (.string p.s) := lies_cell hSw.2.1 13; clear hSw; go_simp) <;> (with_reducible rfl))
        try simp only [Act.put, List.setIfInBounds_toArray, List.set_cons_zero, List.set_cons_succ]
        refine wpAnyH_ready (rs := [11]) (by kernel_rfl) (by simp) ?_
        refine AllReadyH.cons (o := { dst := some 50, op := Go.Op.convert 9 71 (Go.Operand.tmp 49), type := 71, pos := "reasm.go:84", after := #[{ on := 10, ground := Go.Ground.data }], guard := none }) rfl (fun K hK => ?_) AllReadyH.nil
        obtain ⟨v, w3, hrun, hBy, hvb, hb3⟩ := bytes_made base V8.drew p.s H7.out.lt.2.2 (by unfold maxLen; omega)
        obtain ⟨gv, lv, cv, rfl⟩ : ∃ gv lv cv, v = .slice (some ⟨gv, 0, none⟩) lv cv := by obtain ⟨gv, cv, hv, _⟩ := hBy.form; exact ⟨gv, _, cv, hv⟩
        have HBy := Lib.hid (And.intro hBy hvb); clear hBy hvb
        have Hb3 := Lib.hid hb3
        go_simp
        clear hrun
        refine hK.out _ _ ?_ (fun hHeld => ?_)
        · exact ⟨lies_below hHeld.1 hb3 (lies_lt hHeld.1), lies_below hHeld.2.1 hb3 (lies_lt hHeld.2.1), lies_below hHeld.2.2 hb3 (lies_lt hHeld.2.2)⟩
        clear hK K
        try simp only [Act.put, List.setIfInBounds_toArray, List.set_cons_zero, List.set_cons_succ]
        refine wpAnyH_take (i := 12) (oi := { dst := some 51, op := Go.Op.build 73 #[(0, Go.Operand.tmp 47), (1, Go.Operand.tmp 50)], type := 73, pos := "reasm.go:84", after := #[{ on := 8, ground := Go.Ground.data }, { on := 11, ground := Go.Ground.data }], guard := none }) (v := ?_) rfl (by kernel_rfl) (by kernel_rfl) (by kernel_rfl) (fun _ _ _ h => h) (Or.inl ⟨by rfl, ?_⟩) (by assumption) ?_
        rotate_left
        focus ((intro w hSw; (try dsimp only at hSw); clear hSw; go_simp) <;> (with_reducible rfl))
        try simp only [Act.put, List.setIfInBounds_toArray, List.set_cons_zero, List.set_cons_succ]
        refine wpAnyH_ready (rs := [13]) (by kernel_rfl) (by simp) ?_
        refine AllReadyH.cons (o := { dst := none, op := Go.Op.mapUpdate 68 (Go.Operand.tmp 42) (Go.Operand.tmp 43) (Go.Operand.tmp 51), type := 0, pos := "reasm.go:84", after := #[{ on := 3, ground := Go.Ground.data }, { on := 4, ground := Go.Ground.data }, { on := 12, ground := Go.Ground.data }, { on := 0, ground := Go.Ground.phase }, { on := 1, ground := Go.Ground.phase }, { on := 2, ground := Go.Ground.phase }, { on := 3, ground := Go.Ground.phase }, { on := 4, ground := Go.Ground.phase }, { on := 5, ground := Go.Ground.phase }, { on := 6, ground := Go.Ground.phase }, { on := 7, ground := Go.Ground.phase }, { on := 8, ground := Go.Ground.phase }, { on := 9, ground := Go.Ground.phase }, { on := 10, ground := Go.Ground.phase }, { on := 11, ground := Go.Ground.phase }, { on := 12, ground := Go.Ground.phase }], guard := none }) rfl (fun K hK => ?_) AllReadyH.nil
        obtain ⟨w4, hrun4, hown4, hturn4⟩ := (Tab.below (H7.out.drewN 1) hb3).map.store law52 Try.underlying68 (by rw [HL.out]; unfold maxLen; omega) (key_kl k) (show HE (.agg #[.int .i64 nw, .slice (some ⟨gv, 0, none⟩) lv cv]) = some (.held _, []) from rfl)
        simp only [Go.Proofs.Ytgdjcoodjdckkaa.K.val] at hrun4
        have HM4 := Lib.hid (And.intro hown4 hturn4); clear hown4
        go_simp
        clear hrun4 hb3
        refine hK.out _ _ ?_ (fun hHeld => ?_)
        · exact ⟨map_other hturn4 hHeld.1 (by intro _ _ e; cases e), map_other hturn4 hHeld.2.1 (by intro _ _ e; cases e), map_other hturn4 hHeld.2.2 (by intro _ _ e; cases e)⟩
        clear hK K
        try simp only [Act.put, List.setIfInBounds_toArray, List.set_cons_zero, List.set_cons_succ]
        refine wpAnyH_done (by kernel_rfl) ?_ _
        clear hHeld
        have L4 : Hid (w4.drew.heap[tp]? = some (tabC most wait nw mb ov dr)) := map_other (w' := w4) HM4.out.2 (lies_below (w := V8.drew) L7.out Hb3.out (lies_lt L7.out)) (by intro _ _ e; cases e)
        have C4 : Hid (w4.drew.heap[kb]? = some k.obj) := map_other (w' := w4) HM4.out.2 (lies_below (w := V8.drew) C7.out Hb3.out (lies_lt C7.out)) (by intro _ _ e; cases e)
        have Hrow : Hid ((w4.alloc k.obj).drew.ownsRow base 52 10 ov L (flatK ((given t k).l.map (·.k)))) := by
          have := row_kept (X := V8.drew) (H7.out.drewN 1).row Hb3.out HM4.out.2 (grown_below ((Below.refl _ w4).alloc (Nat.le_refl _) k.obj).drew none)
          rw [HLL.out] at this
          exact this
        have CA : Hid ((w4.alloc k.obj).drew.heap[w4.heap.size]? = some k.obj) := heap_alloc_new w4 _
        have HbA : Hid (base ≤ (w4.alloc k.obj).drew.heap.size) := by
          show base ≤ (w4.alloc k.obj).heap.size
          rw [World.size_alloc]
          have h1 : tp < w4.heap.size := lies_lt L4.out
          have h2 := H7.out.hp
          omega
        have Htp := Lib.hid H7.out.tp_ne
        go_upto_region 11 with (fail)
        refine wp_region_held_drew (S := fun _ => True) (by kernel_rfl) ?_ (fun hHeld => ?_)
        · exact trivial
        refine wpAnyH_take (i := 0) (oi := { dst := some 52, op := Go.Op.move (Go.Operand.tmp 0), type := 23, pos := "reasm.go:85", after := #[], guard := none }) (v := ?_) rfl (by kernel_rfl) (by kernel_rfl) (by kernel_rfl) (fun _ _ _ h => h) (Or.inl ⟨by rfl, ?_⟩) (by assumption) ?_
        rotate_left
        focus ((intro w hSw; (try dsimp only at hSw); clear hSw; go_simp) <;> (with_reducible rfl))
        try simp only [Act.put, List.setIfInBounds_toArray, List.set_cons_zero, List.set_cons_succ]
        refine wpAnyH_take (i := 1) (oi := { dst := some 53, op := Go.Op.move (Go.Operand.tmp 0), type := 23, pos := "reasm.go:85", after := #[], guard := none }) (v := ?_) rfl (by kernel_rfl) (by kernel_rfl) (by kernel_rfl) (fun _ _ _ h => h) (Or.inl ⟨by rfl, ?_⟩) (by assumption) ?_
        rotate_left
        focus ((intro w hSw; (try dsimp only at hSw); clear hSw; go_simp) <;> (with_reducible rfl))
        try simp only [Act.put, List.setIfInBounds_toArray, List.set_cons_zero, List.set_cons_succ]
        refine wpAnyH_take (i := 2) (oi := { dst := some 54, op := Go.Op.nilCheck (Go.Operand.tmp 53), type := 0, pos := "reasm.go:85", after := #[{ on := 1, ground := Go.Ground.data }], guard := none }) (v := ?_) rfl (by kernel_rfl) (by kernel_rfl) (by kernel_rfl) (fun _ _ _ h => h) (Or.inl ⟨by rfl, ?_⟩) (by assumption) ?_
        rotate_left
        focus ((intro w hSw; (try dsimp only at hSw); clear hSw; go_simp) <;> (with_reducible rfl))
        try simp only [Act.put, List.setIfInBounds_toArray, List.set_cons_zero, List.set_cons_succ]
        refine wpAnyH_take (i := 3) (oi := { dst := some 55, op := Go.Op.fieldAddr 70 (Go.Operand.tmp 54) 4, type := 0, pos := "reasm.go:85", after := #[{ on := 2, ground := Go.Ground.data }], guard := none }) (v := ?_) rfl (by kernel_rfl) (by kernel_rfl) (by kernel_rfl) (fun _ _ _ h => h) (Or.inl ⟨by rfl, ?_⟩) (by assumption) ?_
        rotate_left
        focus ((intro w hSw; (try dsimp only at hSw); clear hSw; go_simp) <;> (with_reducible rfl))
        try simp only [Act.put, List.setIfInBounds_toArray, List.set_cons_zero, List.set_cons_succ]
        refine wpAnyH_ready (rs := [4, 5]) (by kernel_rfl) (by simp) ?_
        refine AllReadyH.cons (o := { dst := some 56, op := Go.Op.load 45 (Go.Operand.tmp 55), type := 45, pos := "reasm.go:85", after := #[{ on := 3, ground := Go.Ground.data }], guard := none }) rfl (fun K hK => ?_) (AllReadyH.cons (o := { dst := some 57, op := Go.Op.load 52 (Go.Operand.tmp 5), type := 52, pos := "reasm.go:85", after := #[], guard := none }) rfl (fun K hK => ?_) AllReadyH.nil)
        · have hcl : w4.drew.cell? ⟨tp, 4, none⟩ = some ov := lies_cell L4.out 4
          have hcl2 : ∀ o, (w4.alloc o).drew.cell? ⟨tp, 4, none⟩ = some ov := fun o => lies_cell (lies_alloc L4.out o) 4
          go_simp
          clear hcl hcl2
          refine hK.out _ _ ?_ (fun hHeld => ?_)
          · exact trivial
          clear hK K
          try simp only [Act.put, List.setIfInBounds_toArray, List.set_cons_zero, List.set_cons_succ]
          refine wpAnyH_ready (rs := [5]) (by kernel_rfl) (by simp) ?_
          refine AllReadyH.cons (o := { dst := some 57, op := Go.Op.load 52 (Go.Operand.tmp 5), type := 52, pos := "reasm.go:85", after := #[], guard := none }) rfl (fun K hK => ?_) AllReadyH.nil
          obtain ⟨c0, c1, c2, c3, c4, c5, c6, c7, c8, c9⟩ := cells10 C4.out; simp only [Nat.zero_add] at c1 c2 c3 c4 c5 c6 c7 c8 c9
          go_simp
          clear c0 c1 c2 c3 c4 c5 c6 c7 c8 c9
          refine hK.out _ _ ?_ (fun hHeld => ?_)
          · exact trivial
          clear hK K
          try simp only [Act.put, List.setIfInBounds_toArray, List.set_cons_zero, List.set_cons_succ]
          refine wpAnyH_ready (rs := [6]) (by kernel_rfl) (by simp) ?_
          refine AllReadyH.cons (o := { dst := some 58, op := Go.Op.buildSlice 45 1 #[(0, Go.Operand.tmp 57)], type := 45, pos := "reasm.go:85", after := #[{ on := 5, ground := Go.Ground.data }], guard := none }) rfl (fun K hK => ?_) AllReadyH.nil
          go_simp
          refine hK.out _ _ ?_ (fun hHeld => ?_)
          · exact trivial
          clear hK K
          try simp only [Act.put, List.setIfInBounds_toArray, List.set_cons_zero, List.set_cons_succ]
          refine wpAnyH_ready (rs := [7]) (by kernel_rfl) (by simp) ?_
          refine AllReadyH.cons (o := { dst := some 59, op := Go.Op.call { callee := Go.Callee.builtin Go.Builtin.append, args := #[Go.Operand.tmp 56, Go.Operand.tmp 58], argTypes := #[45, 45] }, type := 45, pos := "reasm.go:85", after := #[{ on := 4, ground := Go.Ground.data }, { on := 6, ground := Go.Ground.data }], guard := none }) rfl (fun K hK => ?_) AllReadyH.nil
          obtain ⟨i, hi, hz, hs52, hb52⟩ := info_parts info52
          refine step_append_lies _ (by rfl) _ _ 45 (by rfl) base 52 i _ 10 24 Try.underlying45 hi hz hs52 hb52 rfl (by omega) ov L _ (by rfl) Hrow.out ⟨w4.heap.size, 0, none⟩ 1 1 k.enc (by rfl) (by rfl) (World.news_of_block CA.out) k.enc_one (by omega) (by unfold maxLen; omega) (by omega) HbA.out _ rfl ?_
          intro g cap w5 hrow5 hg5 hgb hgl
          have HR5 := Lib.hid hrow5; have HG5 := Lib.hid hg5; clear hrow5 hg5 hgb hgl hi hz hs52 hb52 i
          refine hK.out _ _ ?_ (fun hHeld => ?_)
          · exact trivial
          clear hK K
          try simp only [Act.put, List.setIfInBounds_toArray, List.set_cons_zero, List.set_cons_succ]
          refine wpAnyH_take (i := 8) (oi := { dst := some 60, op := Go.Op.nilCheck (Go.Operand.tmp 52), type := 0, pos := "reasm.go:85", after := #[{ on := 0, ground := Go.Ground.data }, { on := 0, ground := Go.Ground.phase }, { on := 1, ground := Go.Ground.phase }, { on := 2, ground := Go.Ground.phase }, { on := 3, ground := Go.Ground.phase }, { on := 4, ground := Go.Ground.phase }, { on := 5, ground := Go.Ground.phase }, { on := 6, ground := Go.Ground.phase }, { on := 7, ground := Go.Ground.phase }], guard := none }) (v := ?_) rfl (by kernel_rfl) (by kernel_rfl) (by kernel_rfl) (fun _ _ _ h => h) (Or.inl ⟨by rfl, ?_⟩) (by assumption) ?_
          rotate_left
          focus ((intro w hSw; (try dsimp only at hSw); clear hSw; go_simp) <;> (with_reducible rfl))
          try simp only [Act.put, List.setIfInBounds_toArray, List.set_cons_zero, List.set_cons_succ]
          refine wpAnyH_take (i := 9) (oi := { dst := some 61, op := Go.Op.fieldAddr 70 (Go.Operand.tmp 60) 4, type := 0, pos := "reasm.go:85", after := #[{ on := 8, ground := Go.Ground.data }, { on := 0, ground := Go.Ground.phase }, { on := 1, ground := Go.Ground.phase }, { on := 2, ground := Go.Ground.phase }, { on := 3, ground := Go.Ground.phase }, { on := 4, ground := Go.Ground.phase }, { on := 5, ground := Go.Ground.phase }, { on := 6, ground := Go.Ground.phase }, { on := 7, ground := Go.Ground.phase }], guard := none }) (v := ?_) rfl (by kernel_rfl) (by kernel_rfl) (by kernel_rfl) (fun _ _ _ h => h) (Or.inl ⟨by rfl, ?_⟩) (by assumption) ?_
          rotate_left
          focus ((intro w hSw; (try dsimp only at hSw); clear hSw; go_simp) <;> (with_reducible rfl))
          try simp only [Act.put, List.setIfInBounds_toArray, List.set_cons_zero, List.set_cons_succ]
          refine wpAnyH_ready (rs := [10]) (by kernel_rfl) (by simp) ?_
          refine AllReadyH.cons (o := { dst := none, op := Go.Op.store 45 (Go.Operand.tmp 61) (Go.Operand.tmp 59), type := 0, pos := "reasm.go:85", after := #[{ on := 9, ground := Go.Ground.data }, { on := 7, ground := Go.Ground.data }, { on := 7, ground := Go.Ground.chain }, { on := 0, ground := Go.Ground.phase }, { on := 1, ground := Go.Ground.phase }, { on := 2, ground := Go.Ground.phase }, { on := 3, ground := Go.Ground.phase }, { on := 4, ground := Go.Ground.phase }, { on := 5, ground := Go.Ground.phase }, { on := 6, ground := Go.Ground.phase }, { on := 7, ground := Go.Ground.phase }], guard := none }) rfl (fun K hK => ?_) AllReadyH.nil
          have L5 : Hid (w5.heap[tp]? = some (tabC most wait nw mb ov dr)) := (HG5.out.block tp (lies_lt (lies_alloc L4.out k.obj)) Htp.out).trans (lies_alloc L4.out k.obj)
          have hc5 : w5.cell? ⟨tp, 4, none⟩ = some ov := lies_cell L5.out 4
          have hf5 := lies_frozen L5.out 4
          go_simp
          clear hc5 hf5
          refine hK.out _ _ ?_ (fun hHeld => ?_)
          · exact trivial
          clear hK K
          try simp only [Act.put, List.setIfInBounds_toArray, List.set_cons_zero, List.set_cons_succ]
          refine wpAnyH_done (by kernel_rfl) ?_ _
          clear hHeld
          go_wp2
          go_returns
          exact begin_end (V := V8.drew) HRR.out (H7.out.drewN 1) hnf.out HLL.out Hnw.out Hdr.out HBy.out Hb3.out HM4.out HG5.out HR5.out F7.out.drew
        · obtain ⟨c0, c1, c2, c3, c4, c5, c6, c7, c8, c9⟩ := cells10 C4.out; simp only [Nat.zero_add] at c1 c2 c3 c4 c5 c6 c7 c8 c9
          go_simp
          clear c0 c1 c2 c3 c4 c5 c6 c7 c8 c9
          refine hK.out _ _ ?_ (fun hHeld => ?_)
          · exact trivial
          clear hK K
          try simp only [Act.put, List.setIfInBounds_toArray, List.set_cons_zero, List.set_cons_succ]
          refine wpAnyH_ready (rs := [4, 6]) (by kernel_rfl) (by simp) ?_
          refine AllReadyH.cons (o := { dst := some 56, op := Go.Op.load 45 (Go.Operand.tmp 55), type := 45, pos := "reasm.go:85", after := #[{ on := 3, ground := Go.Ground.data }], guard := none }) rfl (fun K hK => ?_) (AllReadyH.cons (o := { dst := some 58, op := Go.Op.buildSlice 45 1 #[(0, Go.Operand.tmp 57)], type := 45, pos := "reasm.go:85", after := #[{ on := 5, ground := Go.Ground.data }], guard := none }) rfl (fun K hK => ?_) AllReadyH.nil)
          · have hcl : w4.drew.cell? ⟨tp, 4, none⟩ = some ov := lies_cell L4.out 4
            have hcl2 : ∀ o, (w4.alloc o).drew.cell? ⟨tp, 4, none⟩ = some ov := fun o => lies_cell (lies_alloc L4.out o) 4
            go_simp
            clear hcl hcl2
            refine hK.out _ _ ?_ (fun hHeld => ?_)
            · exact trivial
            clear hK K
            try simp only [Act.put, List.setIfInBounds_toArray, List.set_cons_zero, List.set_cons_succ]
            refine wpAnyH_ready (rs := [6]) (by kernel_rfl) (by simp) ?_
            refine AllReadyH.cons (o := { dst := some 58, op := Go.Op.buildSlice 45 1 #[(0, Go.Operand.tmp 57)], type := 45, pos := "reasm.go:85", after := #[{ on := 5, ground := Go.Ground.data }], guard := none }) rfl (fun K hK => ?_) AllReadyH.nil
            go_simp
            refine hK.out _ _ ?_ (fun hHeld => ?_)
            · exact trivial
            clear hK K
            try simp only [Act.put, List.setIfInBounds_toArray, List.set_cons_zero, List.set_cons_succ]
            refine wpAnyH_ready (rs := [7]) (by kernel_rfl) (by simp) ?_
            refine AllReadyH.cons (o := { dst := some 59, op := Go.Op.call { callee := Go.Callee.builtin Go.Builtin.append, args := #[Go.Operand.tmp 56, Go.Operand.tmp 58], argTypes := #[45, 45] }, type := 45, pos := "reasm.go:85", after := #[{ on := 4, ground := Go.Ground.data }, { on := 6, ground := Go.Ground.data }], guard := none }) rfl (fun K hK => ?_) AllReadyH.nil
            obtain ⟨i, hi, hz, hs52, hb52⟩ := info_parts info52
            refine step_append_lies _ (by rfl) _ _ 45 (by rfl) base 52 i _ 10 24 Try.underlying45 hi hz hs52 hb52 rfl (by omega) ov L _ (by rfl) Hrow.out ⟨w4.heap.size, 0, none⟩ 1 1 k.enc (by rfl) (by rfl) (World.news_of_block CA.out) k.enc_one (by omega) (by unfold maxLen; omega) (by omega) HbA.out _ rfl ?_
            intro g cap w5 hrow5 hg5 hgb hgl
            have HR5 := Lib.hid hrow5; have HG5 := Lib.hid hg5; clear hrow5 hg5 hgb hgl hi hz hs52 hb52 i
            refine hK.out _ _ ?_ (fun hHeld => ?_)
            · exact trivial
            clear hK K
            try simp only [Act.put, List.setIfInBounds_toArray, List.set_cons_zero, List.set_cons_succ]
            refine wpAnyH_take (i := 8) (oi := { dst := some 60, op := Go.Op.nilCheck (Go.Operand.tmp 52), type := 0, pos := "reasm.go:85", after := #[{ on := 0, ground := Go.Ground.data }, { on := 0, ground := Go.Ground.phase }, { on := 1, ground := Go.Ground.phase }, { on := 2, ground := Go.Ground.phase }, { on := 3, ground := Go.Ground.phase }, { on := 4, ground := Go.Ground.phase }, { on := 5, ground := Go.Ground.phase }, { on := 6, ground := Go.Ground.phase }, { on := 7, ground := Go.Ground.phase }], guard := none }) (v := ?_) rfl (by kernel_rfl) (by kernel_rfl) (by kernel_rfl) (fun _ _ _ h => h) (Or.inl ⟨by rfl, ?_⟩) (by assumption) ?_
            rotate_left
            focus ((intro w hSw; (try dsimp only at hSw); clear hSw; go_simp) <;> (with_reducible rfl))
            try simp only [Act.put, List.setIfInBounds_toArray, List.set_cons_zero, List.set_cons_succ]
            refine wpAnyH_take (i := 9) (oi := { dst := some 61, op := Go.Op.fieldAddr 70 (Go.Operand.tmp 60) 4, type := 0, pos := "reasm.go:85", after := #[{ on := 8, ground := Go.Ground.data }, { on := 0, ground := Go.Ground.phase }, { on := 1, ground := Go.Ground.phase }, { on := 2, ground := Go.Ground.phase }, { on := 3, ground := Go.Ground.phase }, { on := 4, ground := Go.Ground.phase }, { on := 5, ground := Go.Ground.phase }, { on := 6, ground := Go.Ground.phase }, { on := 7, ground := Go.Ground.phase }], guard := none }) (v := ?_) rfl (by kernel_rfl) (by kernel_rfl) (by kernel_rfl) (fun _ _ _ h => h) (Or.inl ⟨by rfl, ?_⟩) (by assumption) ?_
            rotate_left
            focus ((intro w hSw; (try dsimp only at hSw); clear hSw; go_simp) <;> (with_reducible rfl))
            try simp only [Act.put, List.setIfInBounds_toArray, List.set_cons_zero, List.set_cons_succ]
            refine wpAnyH_ready (rs := [10]) (by kernel_rfl) (by simp) ?_
            refine AllReadyH.cons (o := { dst := none, op := Go.Op.store 45 (Go.Operand.tmp 61) (Go.Operand.tmp 59), type := 0, pos := "reasm.go:85", after := #[{ on := 9, ground := Go.Ground.data }, { on := 7, ground := Go.Ground.data }, { on := 7, ground := Go.Ground.chain }, { on := 0, ground := Go.Ground.phase }, { on := 1, ground := Go.Ground.phase }, { on := 2, ground := Go.Ground.phase }, { on := 3, ground := Go.Ground.phase }, { on := 4, ground := Go.Ground.phase }, { on := 5, ground := Go.Ground.phase }, { on := 6, ground := Go.Ground.phase }, { on := 7, ground := Go.Ground.phase }], guard := none }) rfl (fun K hK => ?_) AllReadyH.nil
            have L5 : Hid (w5.heap[tp]? = some (tabC most wait nw mb ov dr)) := (HG5.out.block tp (lies_lt (lies_alloc L4.out k.obj)) Htp.out).trans (lies_alloc L4.out k.obj)
            have hc5 : w5.cell? ⟨tp, 4, none⟩ = some ov := lies_cell L5.out 4
            have hf5 := lies_frozen L5.out 4
            go_simp
            clear hc5 hf5
            refine hK.out _ _ ?_ (fun hHeld => ?_)
            · exact trivial
            clear hK K
            try simp only [Act.put, List.setIfInBounds_toArray, List.set_cons_zero, List.set_cons_succ]
            refine wpAnyH_done (by kernel_rfl) ?_ _
            clear hHeld
            go_wp2
            go_returns
            exact begin_end (V := V8.drew) HRR.out (H7.out.drewN 1) hnf.out HLL.out Hnw.out Hdr.out HBy.out Hb3.out HM4.out HG5.out HR5.out F7.out.drew
          · go_simp
            refine hK.out _ _ ?_ (fun hHeld => ?_)
            · exact trivial
            clear hK K
            try simp only [Act.put, List.setIfInBounds_toArray, List.set_cons_zero, List.set_cons_succ]
            refine wpAnyH_ready (rs := [4]) (by kernel_rfl) (by simp) ?_
            refine AllReadyH.cons (o := { dst := some 56, op := Go.Op.load 45 (Go.Operand.tmp 55), type := 45, pos := "reasm.go:85", after := #[{ on := 3, ground := Go.Ground.data }], guard := none }) rfl (fun K hK => ?_) AllReadyH.nil
            have hcl : w4.drew.cell? ⟨tp, 4, none⟩ = some ov := lies_cell L4.out 4
            have hcl2 : ∀ o, (w4.alloc o).drew.cell? ⟨tp, 4, none⟩ = some ov := fun o => lies_cell (lies_alloc L4.out o) 4
            go_simp
            clear hcl hcl2
            refine hK.out _ _ ?_ (fun hHeld => ?_)
            · exact trivial
            clear hK K
            try simp only [Act.put, List.setIfInBounds_toArray, List.set_cons_zero, List.set_cons_succ]
            refine wpAnyH_ready (rs := [7]) (by kernel_rfl) (by simp) ?_
            refine AllReadyH.cons (o := { dst := some 59, op := Go.Op.call { callee := Go.Callee.builtin Go.Builtin.append, args := #[Go.Operand.tmp 56, Go.Operand.tmp 58], argTypes := #[45, 45] }, type := 45, pos := "reasm.go:85", after := #[{ on := 4, ground := Go.Ground.data }, { on := 6, ground := Go.Ground.data }], guard := none }) rfl (fun K hK => ?_) AllReadyH.nil
            obtain ⟨i, hi, hz, hs52, hb52⟩ := info_parts info52
            refine step_append_lies _ (by rfl) _ _ 45 (by rfl) base 52 i _ 10 24 Try.underlying45 hi hz hs52 hb52 rfl (by omega) ov L _ (by rfl) Hrow.out ⟨w4.heap.size, 0, none⟩ 1 1 k.enc (by rfl) (by rfl) (World.news_of_block CA.out) k.enc_one (by omega) (by unfold maxLen; omega) (by omega) HbA.out _ rfl ?_
            intro g cap w5 hrow5 hg5 hgb hgl
            have HR5 := Lib.hid hrow5; have HG5 := Lib.hid hg5; clear hrow5 hg5 hgb hgl hi hz hs52 hb52 i
            refine hK.out _ _ ?_ (fun hHeld => ?_)
            · exact trivial
            clear hK K
            try simp only [Act.put, List.setIfInBounds_toArray, List.set_cons_zero, List.set_cons_succ]
            refine wpAnyH_take (i := 8) (oi := { dst := some 60, op := Go.Op.nilCheck (Go.Operand.tmp 52), type := 0, pos := "reasm.go:85", after := #[{ on := 0, ground := Go.Ground.data }, { on := 0, ground := Go.Ground.phase }, { on := 1, ground := Go.Ground.phase }, { on := 2, ground := Go.Ground.phase }, { on := 3, ground := Go.Ground.phase }, { on := 4, ground := Go.Ground.phase }, { on := 5, ground := Go.Ground.phase }, { on := 6, ground := Go.Ground.phase }, { on := 7, ground := Go.Ground.phase }], guard := none }) (v := ?_) rfl (by kernel_rfl) (by kernel_rfl) (by kernel_rfl) (fun _ _ _ h => h) (Or.inl ⟨by rfl, ?_⟩) (by assumption) ?_
            rotate_left
            focus ((intro w hSw; (try dsimp only at hSw); clear hSw; go_simp) <;> (with_reducible rfl))
            try simp only [Act.put, List.setIfInBounds_toArray, List.set_cons_zero, List.set_cons_succ]
            refine wpAnyH_take (i := 9) (oi := { dst := some 61, op := Go.Op.fieldAddr 70 (Go.Operand.tmp 60) 4, type := 0, pos := "reasm.go:85", after := #[{ on := 8, ground := Go.Ground.data }, { on := 0, ground := Go.Ground.phase }, { on := 1, ground := Go.Ground.phase }, { on := 2, ground := Go.Ground.phase }, { on := 3, ground := Go.Ground.phase }, { on := 4, ground := Go.Ground.phase }, { on := 5, ground := Go.Ground.phase }, { on := 6, ground := Go.Ground.phase }, { on := 7, ground := Go.Ground.phase }], guard := none }) (v := ?_) rfl (by kernel_rfl) (by kernel_rfl) (by kernel_rfl) (fun _ _ _ h => h) (Or.inl ⟨by rfl, ?_⟩) (by assumption) ?_
            rotate_left
            focus ((intro w hSw; (try dsimp only at hSw); clear hSw; go_simp) <;> (with_reducible rfl))
            try simp only [Act.put, List.setIfInBounds_toArray, List.set_cons_zero, List.set_cons_succ]
            refine wpAnyH_ready (rs := [10]) (by kernel_rfl) (by simp) ?_
            refine AllReadyH.cons (o := { dst := none, op := Go.Op.store 45 (Go.Operand.tmp 61) (Go.Operand.tmp 59), type := 0, pos := "reasm.go:85", after := #[{ on := 9, ground := Go.Ground.data }, { on := 7, ground := Go.Ground.data }, { on := 7, ground := Go.Ground.chain }, { on := 0, ground := Go.Ground.phase }, { on := 1, ground := Go.Ground.phase }, { on := 2, ground := Go.Ground.phase }, { on := 3, ground := Go.Ground.phase }, { on := 4, ground := Go.Ground.phase }, { on := 5, ground := Go.Ground.phase }, { on := 6, ground := Go.Ground.phase }, { on := 7, ground := Go.Ground.phase }], guard := none }) rfl (fun K hK => ?_) AllReadyH.nil
            have L5 : Hid (w5.heap[tp]? = some (tabC most wait nw mb ov dr)) := (HG5.out.block tp (lies_lt (lies_alloc L4.out k.obj)) Htp.out).trans (lies_alloc L4.out k.obj)
            have hc5 : w5.cell? ⟨tp, 4, none⟩ = some ov := lies_cell L5.out 4
            have hf5 := lies_frozen L5.out 4
            go_simp
            clear hc5 hf5
            refine hK.out _ _ ?_ (fun hHeld => ?_)
            · exact trivial
            clear hK K
            try simp only [Act.put, List.setIfInBounds_toArray, List.set_cons_zero, List.set_cons_succ]
            refine wpAnyH_done (by kernel_rfl) ?_ _
            clear hHeld
            go_wp2
            go_returns
            exact begin_end (V := V8.drew) HRR.out (H7.out.drewN 1) hnf.out HLL.out Hnw.out Hdr.out HBy.out Hb3.out HM4.out HG5.out HR5.out F7.out.drew
    · have hJ0 : (J != 0) = true := by simpa using hJ
      have HRR := HR.out
      rw [first_bad Ho.out (by rw [HJ.out]; exact hJ)] at HRR
      subst HRR
      have HJ2 := Lib.hid hJ; clear hJ
      go_wp2_with (first
        | (go_at_call 39; (with_reducible refine (HJD.out _).mono ?_); rintro e V7 ⟨rfl, hb7⟩))
      go_returns
      exact ⟨by show Ending.returned (Value.int .i64 J) = Ending.returned (Value.int .i64 (jr p 0)); rw [HJ.out], ⟨_, _, _, _, _, HH.out.below hb7⟩, F5.out.trans (Fr.of hb7 HH.out.lt.2.2)⟩
  case some b =>
    have HG1 := Lib.hid (given_some HG.out.fine hf)
    obtain rfl : bo = true := by rw [Hbo.out, hf]; rfl
    obtain ⟨c0, c1, c2, c3, c4, c5, c6, c7, c8, c9⟩ := cells10 C5.out
    simp only [Nat.zero_add] at c1 c2 c3 c4 c5 c6 c7 c8 c9
    have HGU := giveUp_tab H5.out HG.out.fine (by omega) k b hf
    rw [← HG1.out] at HGU
    simp only [K.val] at HGU
    have HGU := Lib.hid HGU
    clear HG1 Hbo hf
    go_upto_region 5 with (first
      | (go_at_call 23; (with_reducible refine (HGU.out).mono ?_); rintro e V6 ⟨rfl, hH, hF, hKk⟩
         (have P5 : Hid (V6.heap[pb]? = some p.obj) := hF.kind _ _ _ _ (by decide) (by decide) (by decide) P5.out)
         (have C5 : Hid (V6.heap[kb]? = some k.obj) := hKk _ _ _ _ (by decide) hkf.out C5.out)
         (have F5 : Hid (Fr base w V6) := F5.out.trans hF)
         (have HH := Lib.hid hH; clear hH hF hKk c0 c1 c2 c3 c4 c5 c6 c7 c8 c9)))
    clear H5 HGU
    clear Hk
    obtain ⟨mb, n, D, ov, dv, HH⟩ := HH.out
    obtain ⟨L, HL⟩ : ∃ L, Hid (Maps.size D = L) := ⟨_, rfl⟩
    have HLL : Hid ((given t k).l.length = L) := HH.size.symm.trans HL.out
    have HH : Hid (Tab base V6 tp most wait (given t k) mb (Maps.size D) D ov dv) := { HH with map := map_tight HH.map }
    obtain ⟨nw, Hnw⟩ : ∃ x, Hid ((given t k).now = x) := ⟨_, rfl⟩
    obtain ⟨dr, Hdr⟩ : ∃ x : Int, Hid (((given t k).dr : Int) = x) := ⟨_, rfl⟩
    have hL64 : L ≤ 64 := by
      have h1 : (drop t.l k).length ≤ t.l.length := PitotReasm.drop_length_le _ _
      have h2 := HG.out.room
      have h3 : (drop t.l k).length = L := HLL.out
      omega
    obtain ⟨d0, d1, d2, d3, d4, d5, d6, d7, d8, d9, d10, d11, d12, d13⟩ := cells14 P5.out
    by_cases hJ : J = 0
    · subst hJ
      go_upto_region 8 with (first
        | (go_at_call 39; (with_reducible refine (HJD.out _).mono ?_); rintro e V7 ⟨rfl, hb7⟩
           (clear d0 d1 d2 d3 d4 d5 d6 d7 d8 d9 d10 d11 d12 d13)))
      have H7 : Hid (Tab base V7.drew tp most wait (given t k) mb (Maps.size D) D ov dv) := (HH.out.below hb7).drewN 1
      have P7 : Hid (V7.drew.heap[pb]? = some p.obj) := lies_below P5.out hb7.drew (lies_lt P5.out)
      have C7 : Hid (V7.drew.heap[kb]? = some k.obj) := lies_below C5.out hb7.drew (lies_lt C5.out)
      have F7 : Hid (Fr base w V7.drew) := (F5.out.trans (Fr.of hb7 HH.out.lt.2.2)).drew
      have L7 : Hid (V7.drew.heap[tp]? = some (tabC most wait nw mb ov dr)) := by
        have := H7.out.tab
        rw [Hnw.out, Hdr.out] at this
        exact this
      clear hb7 HH P5 C5 F5 HJD
      go_upto_region 8 with (fail)
      refine wp_region_held_drew (S := fun w' => w'.heap[tp]? = some (tabC most wait nw mb ov dr) ∧ w'.ownsMap Try.prog 52 HE mb (Maps.size D) D) (by kernel_rfl) ?_ (fun hHeld => ?_)
      · exact ⟨L7.out, H7.out.map⟩
      refine wpAnyH_take (i := 0) (oi := { dst := some 29, op := Go.Op.move (Go.Operand.tmp 0), type := 23, pos := "reasm.go:81", after := #[], guard := none }) (v := ?_) rfl (by kernel_rfl) (by kernel_rfl) (by kernel_rfl) (fun _ _ _ h => h) (Or.inl ⟨by rfl, ?_⟩) (by assumption) ?_
      rotate_left
      focus ((intro w hSw; (try dsimp only at hSw); clear hSw; go_simp) <;> (with_reducible rfl))
      try simp only [Act.put, List.setIfInBounds_toArray, List.set_cons_zero, List.set_cons_succ]
      refine wpAnyH_take (i := 1) (oi := { dst := some 30, op := Go.Op.nilCheck (Go.Operand.tmp 29), type := 0, pos := "reasm.go:81", after := #[{ on := 0, ground := Go.Ground.data }], guard := none }) (v := ?_) rfl (by kernel_rfl) (by kernel_rfl) (by kernel_rfl) (fun _ _ _ h => h) (Or.inl ⟨by rfl, ?_⟩) (by assumption) ?_
      rotate_left
      focus ((intro w hSw; (try dsimp only at hSw); clear hSw; go_simp) <;> (with_reducible rfl))
      try simp only [Act.put, List.setIfInBounds_toArray, List.set_cons_zero, List.set_cons_succ]
      refine wpAnyH_take (i := 2) (oi := { dst := some 31, op := Go.Op.fieldAddr 70 (Go.Operand.tmp 30) 3, type := 0, pos := "reasm.go:81", after := #[{ on := 1, ground := Go.Ground.data }], guard := none }) (v := ?_) rfl (by kernel_rfl) (by kernel_rfl) (by kernel_rfl) (fun _ _ _ h => h) (Or.inl ⟨by rfl, ?_⟩) (by assumption) ?_
      rotate_left
      focus ((intro w hSw; (try dsimp only at hSw); clear hSw; go_simp) <;> (with_reducible rfl))
      try simp only [Act.put, List.setIfInBounds_toArray, List.set_cons_zero, List.set_cons_succ]
      refine wpAnyH_take (i := 3) (oi := { dst := some 32, op := Go.Op.load 68 (Go.Operand.tmp 31), type := 68, pos := "reasm.go:81", after := #[{ on := 2, ground := Go.Ground.data }], guard := none }) (v := ?_) rfl (by kernel_rfl) (by kernel_rfl) (by kernel_rfl) (fun _ _ _ h => h) (Or.inl ⟨by rfl, ?_⟩) (by assumption) ?_
      rotate_left
      focus ((intro w hSw; (try dsimp only at hSw); have hc : w.cell? ⟨tp, 3, none⟩ = some (.map (some mb)) := lies_cell hSw.1 3; clear hSw; go_simp) <;> (with_reducible rfl))
      try simp only [Act.put, List.setIfInBounds_toArray, List.set_cons_zero, List.set_cons_succ]
      refine wpAnyH_take (i := 4) (oi := { dst := some 33, op := Go.Op.call { callee := Go.Callee.builtin Go.Builtin.len, args := #[Go.Operand.tmp 32], argTypes := #[68] }, type := 3, pos := "reasm.go:81", after := #[{ on := 3, ground := Go.Ground.data }], guard := none }) (v := ?_) rfl (by kernel_rfl) (by kernel_rfl) (by kernel_rfl) (fun _ _ _ h => h) (Or.inl ⟨by rfl, ?_⟩) (by assumption) ?_
      rotate_left
      focus ((intro w hSw; (try dsimp only at hSw); have hl := hSw.2.len Try.underlying68 3; rw [HL.out] at hl; clear hSw; go_simp) <;> (with_reducible rfl))
      try simp only [Act.put, List.setIfInBounds_toArray, List.set_cons_zero, List.set_cons_succ]
      refine wpAnyH_take (i := 5) (oi := { dst := some 34, op := Go.Op.move (Go.Operand.tmp 0), type := 23, pos := "reasm.go:81", after := #[], guard := none }) (v := ?_) rfl (by kernel_rfl) (by kernel_rfl) (by kernel_rfl) (fun _ _ _ h => h) (Or.inl ⟨by rfl, ?_⟩) (by assumption) ?_
      rotate_left
      focus ((intro w hSw; (try dsimp only at hSw); clear hSw; go_simp) <;> (with_reducible rfl))
      try simp only [Act.put, List.setIfInBounds_toArray, List.set_cons_zero, List.set_cons_succ]
      refine wpAnyH_take (i := 6) (oi := { dst := some 35, op := Go.Op.nilCheck (Go.Operand.tmp 34), type := 0, pos := "reasm.go:81", after := #[{ on := 5, ground := Go.Ground.data }], guard := none }) (v := ?_) rfl (by kernel_rfl) (by kernel_rfl) (by kernel_rfl) (fun _ _ _ h => h) (Or.inl ⟨by rfl, ?_⟩) (by assumption) ?_
      rotate_left
      focus ((intro w hSw; (try dsimp only at hSw); clear hSw; go_simp) <;> (with_reducible rfl))
      try simp only [Act.put, List.setIfInBounds_toArray, List.set_cons_zero, List.set_cons_succ]
      refine wpAnyH_take (i := 7) (oi := { dst := some 36, op := Go.Op.fieldAddr 70 (Go.Operand.tmp 35) 0, type := 0, pos := "reasm.go:81", after := #[{ on := 6, ground := Go.Ground.data }], guard := none }) (v := ?_) rfl (by kernel_rfl) (by kernel_rfl) (by kernel_rfl) (fun _ _ _ h => h) (Or.inl ⟨by rfl, ?_⟩) (by assumption) ?_
      rotate_left
      focus ((intro w hSw; (try dsimp only at hSw); clear hSw; go_simp) <;> (with_reducible rfl))
      try simp only [Act.put, List.setIfInBounds_toArray, List.set_cons_zero, List.set_cons_succ]
      refine wpAnyH_take (i := 8) (oi := { dst := some 37, op := Go.Op.load 3 (Go.Operand.tmp 36), type := 3, pos := "reasm.go:81", after := #[{ on := 7, ground := Go.Ground.data }], guard := none }) (v := ?_) rfl (by kernel_rfl) (by kernel_rfl) (by kernel_rfl) (fun _ _ _ h => h) (Or.inl ⟨by rfl, ?_⟩) (by assumption) ?_
      rotate_left
      focus ((intro w hSw; (try dsimp only at hSw); have hc : w.cell? ⟨tp, 0, none⟩ = some (.int .i64 most) := lies_cell hSw.1 0; clear hSw; go_simp) <;> (with_reducible rfl))
      try simp only [Act.put, List.setIfInBounds_toArray, List.set_cons_zero, List.set_cons_succ]
      refine wpAnyH_take (i := 9) (oi := { dst := some 38, op := Go.Op.binOp Go.BinOp.geq 3 (Go.Operand.tmp 33) (Go.Operand.tmp 37) 3, type := 4, pos := "reasm.go:81", after := #[{ on := 4, ground := Go.Ground.data }, { on := 8, ground := Go.Ground.data }], guard := none }) (v := ?_) rfl (by kernel_rfl) (by kernel_rfl) (by kernel_rfl) (fun _ _ _ h => h) (Or.inl ⟨by rfl, ?_⟩) (by assumption) ?_
      rotate_left
      focus ((intro w hSw; (try dsimp only at hSw); clear hSw; go_simp) <;> (with_reducible rfl))
      try simp only [Act.put, List.setIfInBounds_toArray, List.set_cons_zero, List.set_cons_succ]
      refine wpAnyH_done (by kernel_rfl) ?_ _
      clear hHeld
      generalize V7.drew = V8 at H7 P7 C7 F7 L7 ⊢
      have HJ0 := HJ.out
      by_cases hr : most ≤ L
      · have hd : decide ((most : Int) ≤ (L : Int)) = true := decide_eq_true (by omega)
        have HRR := HR.out
        rw [first_full Ho.out HJ0 (by rw [HLL.out]; exact hr)] at HRR
        subst HRR
        clear HJ0
        go_wp2
        go_returns
        exact ⟨rfl, ⟨_, _, _, _, _, H7.out⟩, F7.out⟩
      · have hd : decide ((most : Int) ≤ (L : Int)) = false := decide_eq_false (by omega)
        have HRR := Lib.hid (HR.out.trans (first_put Ho.out HJ0 (by rw [HLL.out]; exact hr)))
        have hnf := Lib.hid (PitotReasm.find_drop_self t.l k)
        clear HJ0
        go_upto_region 10 with (fail)
        refine wp_region_held_drew (S := fun w' => w'.heap[tp]? = some (tabC most wait nw mb ov dr) ∧ w'.heap[pb]? = some p.obj ∧ w'.heap[kb]? = some k.obj) (by kernel_rfl) ?_ (fun hHeld => ?_)
        · exact ⟨L7.out, P7.out, C7.out⟩
        refine wpAnyH_take (i := 0) (oi := { dst := some 39, op := Go.Op.move (Go.Operand.tmp 0), type := 23, pos := "reasm.go:84", after := #[], guard := none }) (v := ?_) rfl (by kernel_rfl) (by kernel_rfl) (by kernel_rfl) (fun _ _ _ h => h) (Or.inl ⟨by rfl, ?_⟩) (by assumption) ?_
        rotate_left
        focus ((intro w hSw; (try dsimp only at hSw); clear hSw; go_simp) <;> (with_reducible rfl))
        try simp only [Act.put, List.setIfInBounds_toArray, List.set_cons_zero, List.set_cons_succ]
        refine wpAnyH_take (i := 1) (oi := { dst := some 40, op := Go.Op.nilCheck (Go.Operand.tmp 39), type := 0, pos := "reasm.go:84", after := #[{ on := 0, ground := Go.Ground.data }], guard := none }) (v := ?_) rfl (by kernel_rfl) (by kernel_rfl) (by kernel_rfl) (fun _ _ _ h => h) (Or.inl ⟨by rfl, ?_⟩) (by assumption) ?_
        rotate_left
        focus ((intro w hSw; (try dsimp only at hSw); clear hSw; go_simp) <;> (with_reducible rfl))
        try simp only [Act.put, List.setIfInBounds_toArray, List.set_cons_zero, List.set_cons_succ]
        refine wpAnyH_take (i := 2) (oi := { dst := some 41, op := Go.Op.fieldAddr 70 (Go.Operand.tmp 40) 3, type := 0, pos := "reasm.go:84", after := #[{ on := 1, ground := Go.Ground.data }], guard := none }) (v := ?_) rfl (by kernel_rfl) (by kernel_rfl) (by kernel_rfl) (fun _ _ _ h => h) (Or.inl ⟨by rfl, ?_⟩) (by assumption) ?_
        rotate_left
        focus ((intro w hSw; (try dsimp only at hSw); clear hSw; go_simp) <;> (with_reducible rfl))
        try simp only [Act.put, List.setIfInBounds_toArray, List.set_cons_zero, List.set_cons_succ]
        refine wpAnyH_take (i := 3) (oi := { dst := some 42, op := Go.Op.load 68 (Go.Operand.tmp 41), type := 68, pos := "reasm.go:84", after := #[{ on := 2, ground := Go.Ground.data }], guard := none }) (v := ?_) rfl (by kernel_rfl) (by kernel_rfl) (by kernel_rfl) (fun _ _ _ h => h) (Or.inl ⟨by rfl, ?_⟩) (by assumption) ?_
        rotate_left
        focus ((intro w hSw; (try dsimp only at hSw); have hc : w.cell? ⟨tp, 3, none⟩ = some (.map (some mb)) := lies_cell hSw.1 3; clear hSw; go_simp) <;> (with_reducible rfl))
        try simp only [Act.put, List.setIfInBounds_toArray, List.set_cons_zero, List.set_cons_succ]
        refine wpAnyH_take (i := 4) (oi := { dst := some 43, op := Go.Op.load 52 (Go.Operand.tmp 5), type := 52, pos := "reasm.go:84", after := #[], guard := none }) (v := ?_) rfl (by kernel_rfl) (by kernel_rfl) (by kernel_rfl) (fun _ _ _ h => h) (Or.inl ⟨by rfl, ?_⟩) (by assumption) ?_
        rotate_left
        focus ((intro w hSw; (try dsimp only at hSw); obtain ⟨c0, c1, c2, c3, c4, c5, c6, c7, c8, c9⟩ := cells10 hSw.2.2; simp only [Nat.zero_add] at c1 c2 c3 c4 c5 c6 c7 c8 c9; clear hSw; go_simp) <;> (with_reducible rfl))
        try simp only [Act.put, List.setIfInBounds_toArray, List.set_cons_zero, List.set_cons_succ]
        refine wpAnyH_take (i := 5) (oi := { dst := some 44, op := Go.Op.move (Go.Operand.tmp 0), type := 23, pos := "reasm.go:84", after := #[], guard := none }) (v := ?_) rfl (by kernel_rfl) (by kernel_rfl) (by kernel_rfl) (fun _ _ _ h => h) (Or.inl ⟨by rfl, ?_⟩) (by assumption) ?_
        rotate_left
        focus ((intro w hSw; (try dsimp only at hSw); clear hSw; go_simp) <;> (with_reducible rfl))
        try simp only [Act.put, List.setIfInBounds_toArray, List.set_cons_zero, List.set_cons_succ]
        refine wpAnyH_take (i := 6) (oi := { dst := some 45, op := Go.Op.nilCheck (Go.Operand.tmp 44), type := 0, pos := "reasm.go:84", after := #[{ on := 5, ground := Go.Ground.data }], guard := none }) (v := ?_) rfl (by kernel_rfl) (by kernel_rfl) (by kernel_rfl) (fun _ _ _ h => h) (Or.inl ⟨by rfl, ?_⟩) (by assumption) ?_
        rotate_left
        focus ((intro w hSw; (try dsimp only at hSw); clear hSw; go_simp) <;> (with_reducible rfl))
        try simp only [Act.put, List.setIfInBounds_toArray, List.set_cons_zero, List.set_cons_succ]
        refine wpAnyH_take (i := 7) (oi := { dst := some 46, op := Go.Op.fieldAddr 70 (Go.Operand.tmp 45) 2, type := 0, pos := "reasm.go:84", after := #[{ on := 6, ground := Go.Ground.data }], guard := none }) (v := ?_) rfl (by kernel_rfl) (by kernel_rfl) (by kernel_rfl) (fun _ _ _ h => h) (Or.inl ⟨by rfl, ?_⟩) (by assumption) ?_
        rotate_left
        focus ((intro w hSw; (try dsimp only at hSw); clear hSw; go_simp) <;> (with_reducible rfl))
        try simp only [Act.put, List.setIfInBounds_toArray, List.set_cons_zero, List.set_cons_succ]
        refine wpAnyH_take (i := 8) (oi := { dst := some 47, op := Go.Op.load 3 (Go.Operand.tmp 46), type := 3, pos := "reasm.go:84", after := #[{ on := 7, ground := Go.Ground.data }], guard := none }) (v := ?_) rfl (by kernel_rfl) (by kernel_rfl) (by kernel_rfl) (fun _ _ _ h => h) (Or.inl ⟨by rfl, ?_⟩) (by assumption) ?_
        rotate_left
        focus ((intro w hSw; (try dsimp only at hSw); have hc : w.cell? ⟨tp, 2, none⟩ = some (.int .i64 nw) := lies_cell hSw.1 2; clear hSw; go_simp) <;> (with_reducible rfl))
        try simp only [Act.put, List.setIfInBounds_toArray, List.set_cons_zero, List.set_cons_succ]
        refine wpAnyH_take (i := 9) (oi := { dst := some 48, op := Go.Op.fieldAddr 34 (Go.Operand.tmp 3) 7, type := 0, pos := "reasm.go:84", after := #[], guard := none }) (v := ?_) rfl (by kernel_rfl) (by kernel_rfl) (by kernel_rfl) (fun _ _ _ h => h) (Or.inl ⟨by rfl, ?_⟩) (by assumption) ?_
        rotate_left
        focus ((intro w hSw; (try dsimp only at hSw); clear hSw; go_simp) <;> (with_reducible rfl))
        try simp only [Act.put, List.setIfInBounds_toArray, List.set_cons_zero, List.set_cons_succ]
        refine wpAnyH_take (i := 10) (oi := { dst := some 49, op := Go.Op.load 9 (Go.Operand.tmp 48), type := 9, pos := "reasm.go:84", after := #[{ on := 9, ground := Go.Ground.data }], guard := none }) (v := ?_) rfl (by kernel_rfl) (by kernel_rfl) (by kernel_rfl) (fun _ _ _ h => h) (Or.inl ⟨by rfl, ?_⟩) (by assumption) ?_
        rotate_left
        focus ((intro w hSw; (try dsimp only at hSw); have hc : w.cell? ⟨pb, 13, none⟩ = some (.string p.s) := lies_cell hSw.2.1 13; clear hSw; go_simp) <;> (with_reducible rfl))
        try simp only [Act.put, List.setIfInBounds_toArray, List.set_cons_zero, List.set_cons_succ]
        refine wpAnyH_ready (rs := [11]) (by kernel_rfl) (by simp) ?_
        refine AllReadyH.cons (o := { dst := some 50, op := Go.Op.convert 9 71 (Go.Operand.tmp 49), type := 71, pos := "reasm.go:84", after := #[{ on := 10, ground := Go.Ground.data }], guard := none }) rfl (fun K hK => ?_) AllReadyH.nil
        obtain ⟨v, w3, hrun, hBy, hvb, hb3⟩ := bytes_made base V8.drew p.s H7.out.lt.2.2 (by unfold maxLen; omega)
        obtain ⟨gv, lv, cv, rfl⟩ : ∃ gv lv cv, v = .slice (some ⟨gv, 0, none⟩) lv cv := by obtain ⟨gv, cv, hv, _⟩ := hBy.form; exact ⟨gv, _, cv, hv⟩
        have HBy := Lib.hid (And.intro hBy hvb); clear hBy hvb
        have Hb3 := Lib.hid hb3
        go_simp
        clear hrun
        refine hK.out _ _ ?_ (fun hHeld => ?_)
        · exact ⟨lies_below hHeld.1 hb3 (lies_lt hHeld.1), lies_below hHeld.2.1 hb3 (lies_lt hHeld.2.1), lies_below hHeld.2.2 hb3 (lies_lt hHeld.2.2)⟩
        clear hK K
        try simp only [Act.put, List.setIfInBounds_toArray, List.set_cons_zero, List.set_cons_succ]
        refine wpAnyH_take (i := 12) (oi := { dst := some 51, op := Go.Op.build 73 #[(0, Go.Operand.tmp 47), (1, Go.Operand.tmp 50)], type := 73, pos := "reasm.go:84", after := #[{ on := 8, ground := Go.Ground.data }, { on := 11, ground := Go.Ground.data }], guard := none }) (v := ?_) rfl (by kernel_rfl) (by kernel_rfl) (by kernel_rfl) (fun _ _ _ h => h) (Or.inl ⟨by rfl, ?_⟩) (by assumption) ?_
        rotate_left
        focus ((intro w hSw; (try dsimp only at hSw); clear hSw; go_simp) <;> (with_reducible rfl))
        try simp only [Act.put, List.setIfInBounds_toArray, List.set_cons_zero, List.set_cons_succ]
        refine wpAnyH_ready (rs := [13]) (by kernel_rfl) (by simp) ?_
        refine AllReadyH.cons (o := { dst := none, op := Go.Op.mapUpdate 68 (Go.Operand.tmp 42) (Go.Operand.tmp 43) (Go.Operand.tmp 51), type := 0, pos := "reasm.go:84", after := #[{ on := 3, ground := Go.Ground.data }, { on := 4, ground := Go.Ground.data }, { on := 12, ground := Go.Ground.data }, { on := 0, ground := Go.Ground.phase }, { on := 1, ground := Go.Ground.phase }, { on := 2, ground := Go.Ground.phase }, { on := 3, ground := Go.Ground.phase }, { on := 4, ground := Go.Ground.phase }, { on := 5, ground := Go.Ground.phase }, { on := 6, ground := Go.Ground.phase }, { on := 7, ground := Go.Ground.phase }, { on := 8, ground := Go.Ground.phase }, { on := 9, ground := Go.Ground.phase }, { on := 10, ground := Go.Ground.phase }, { on := 11, ground := Go.Ground.phase }, { on := 12, ground := Go.Ground.phase }], guard := none }) rfl (fun K hK => ?_) AllReadyH.nil
        obtain ⟨w4, hrun4, hown4, hturn4⟩ := (Tab.below (H7.out.drewN 1) hb3).map.store law52 Try.underlying68 (by rw [HL.out]; unfold maxLen; omega) (key_kl k) (show HE (.agg #[.int .i64 nw, .slice (some ⟨gv, 0, none⟩) lv cv]) = some (.held _, []) from rfl)
        simp only [Go.Proofs.Ytgdjcoodjdckkaa.K.val] at hrun4
        have HM4 := Lib.hid (And.intro hown4 hturn4); clear hown4
        go_simp
        clear hrun4 hb3
        refine hK.out _ _ ?_ (fun hHeld => ?_)
        · exact ⟨map_other hturn4 hHeld.1 (by intro _ _ e; cases e), map_other hturn4 hHeld.2.1 (by intro _ _ e; cases e), map_other hturn4 hHeld.2.2 (by intro _ _ e; cases e)⟩
        clear hK K
        try simp only [Act.put, List.setIfInBounds_toArray, List.set_cons_zero, List.set_cons_succ]
        refine wpAnyH_done (by kernel_rfl) ?_ _
        clear hHeld
        have L4 : Hid (w4.drew.heap[tp]? = some (tabC most wait nw mb ov dr)) := map_other (w' := w4) HM4.out.2 (lies_below (w := V8.drew) L7.out Hb3.out (lies_lt L7.out)) (by intro _ _ e; cases e)
        have C4 : Hid (w4.drew.heap[kb]? = some k.obj) := map_other (w' := w4) HM4.out.2 (lies_below (w := V8.drew) C7.out Hb3.out (lies_lt C7.out)) (by intro _ _ e; cases e)
        have Hrow : Hid ((w4.alloc k.obj).drew.ownsRow base 52 10 ov L (flatK ((given t k).l.map (·.k)))) := by
          have := row_kept (X := V8.drew) (H7.out.drewN 1).row Hb3.out HM4.out.2 (grown_below ((Below.refl _ w4).alloc (Nat.le_refl _) k.obj).drew none)
          rw [HLL.out] at this
          exact this
        have CA : Hid ((w4.alloc k.obj).drew.heap[w4.heap.size]? = some k.obj) := heap_alloc_new w4 _
        have HbA : Hid (base ≤ (w4.alloc k.obj).drew.heap.size) := by
          show base ≤ (w4.alloc k.obj).heap.size
          rw [World.size_alloc]
          have h1 : tp < w4.heap.size := lies_lt L4.out
          have h2 := H7.out.hp
          omega
        have Htp := Lib.hid H7.out.tp_ne
        go_upto_region 11 with (fail)
        refine wp_region_held_drew (S := fun _ => True) (by kernel_rfl) ?_ (fun hHeld => ?_)
        · exact trivial
        refine wpAnyH_take (i := 0) (oi := { dst := some 52, op := Go.Op.move (Go.Operand.tmp 0), type := 23, pos := "reasm.go:85", after := #[], guard := none }) (v := ?_) rfl (by kernel_rfl) (by kernel_rfl) (by kernel_rfl) (fun _ _ _ h => h) (Or.inl ⟨by rfl, ?_⟩) (by assumption) ?_
        rotate_left
        focus ((intro w hSw; (try dsimp only at hSw); clear hSw; go_simp) <;> (with_reducible rfl))
        try simp only [Act.put, List.setIfInBounds_toArray, List.set_cons_zero, List.set_cons_succ]
        refine wpAnyH_take (i := 1) (oi := { dst := some 53, op := Go.Op.move (Go.Operand.tmp 0), type := 23, pos := "reasm.go:85", after := #[], guard := none }) (v := ?_) rfl (by kernel_rfl) (by kernel_rfl) (by kernel_rfl) (fun _ _ _ h => h) (Or.inl ⟨by rfl, ?_⟩) (by assumption) ?_
        rotate_left
        focus ((intro w hSw; (try dsimp only at hSw); clear hSw; go_simp) <;> (with_reducible rfl))
        try simp only [Act.put, List.setIfInBounds_toArray, List.set_cons_zero, List.set_cons_succ]
        refine wpAnyH_take (i := 2) (oi := { dst := some 54, op := Go.Op.nilCheck (Go.Operand.tmp 53), type := 0, pos := "reasm.go:85", after := #[{ on := 1, ground := Go.Ground.data }], guard := none }) (v := ?_) rfl (by kernel_rfl) (by kernel_rfl) (by kernel_rfl) (fun _ _ _ h => h) (Or.inl ⟨by rfl, ?_⟩) (by assumption) ?_
        rotate_left
        focus ((intro w hSw; (try dsimp only at hSw); clear hSw; go_simp) <;> (with_reducible rfl))
        try simp only [Act.put, List.setIfInBounds_toArray, List.set_cons_zero, List.set_cons_succ]
        refine wpAnyH_take (i := 3) (oi := { dst := some 55, op := Go.Op.fieldAddr 70 (Go.Operand.tmp 54) 4, type := 0, pos := "reasm.go:85", after := #[{ on := 2, ground := Go.Ground.data }], guard := none }) (v := ?_) rfl (by kernel_rfl) (by kernel_rfl) (by kernel_rfl) (fun _ _ _ h => h) (Or.inl ⟨by rfl, ?_⟩) (by assumption) ?_
        rotate_left
        focus ((intro w hSw; (try dsimp only at hSw); clear hSw; go_simp) <;> (with_reducible rfl))
        try simp only [Act.put, List.setIfInBounds_toArray, List.set_cons_zero, List.set_cons_succ]
        refine wpAnyH_ready (rs := [4, 5]) (by kernel_rfl) (by simp) ?_
        refine AllReadyH.cons (o := { dst := some 56, op := Go.Op.load 45 (Go.Operand.tmp 55), type := 45, pos := "reasm.go:85", after := #[{ on := 3, ground := Go.Ground.data }], guard := none }) rfl (fun K hK => ?_) (AllReadyH.cons (o := { dst := some 57, op := Go.Op.load 52 (Go.Operand.tmp 5), type := 52, pos := "reasm.go:85", after := #[], guard := none }) rfl (fun K hK => ?_) AllReadyH.nil)
        · have hcl : w4.drew.cell? ⟨tp, 4, none⟩ = some ov := lies_cell L4.out 4
          have hcl2 : ∀ o, (w4.alloc o).drew.cell? ⟨tp, 4, none⟩ = some ov := fun o => lies_cell (lies_alloc L4.out o) 4
          go_simp
          clear hcl hcl2
          refine hK.out _ _ ?_ (fun hHeld => ?_)
          · exact trivial
          clear hK K
          try simp only [Act.put, List.setIfInBounds_toArray, List.set_cons_zero, List.set_cons_succ]
          refine wpAnyH_ready (rs := [5]) (by kernel_rfl) (by simp) ?_
          refine AllReadyH.cons (o := { dst := some 57, op := Go.Op.load 52 (Go.Operand.tmp 5), type := 52, pos := "reasm.go:85", after := #[], guard := none }) rfl (fun K hK => ?_) AllReadyH.nil
          obtain ⟨c0, c1, c2, c3, c4, c5, c6, c7, c8, c9⟩ := cells10 C4.out; simp only [Nat.zero_add] at c1 c2 c3 c4 c5 c6 c7 c8 c9
          go_simp
          clear c0 c1 c2 c3 c4 c5 c6 c7 c8 c9
          refine hK.out _ _ ?_ (fun hHeld => ?_)
          · exact trivial
          clear hK K
          try simp only [Act.put, List.setIfInBounds_toArray, List.set_cons_zero, List.set_cons_succ]
          refine wpAnyH_ready (rs := [6]) (by kernel_rfl) (by simp) ?_
          refine AllReadyH.cons (o := { dst := some 58, op := Go.Op.buildSlice 45 1 #[(0, Go.Operand.tmp 57)], type := 45, pos := "reasm.go:85", after := #[{ on := 5, ground := Go.Ground.data }], guard := none }) rfl (fun K hK => ?_) AllReadyH.nil
          go_simp
          refine hK.out _ _ ?_ (fun hHeld => ?_)
          · exact trivial
          clear hK K
          try simp only [Act.put, List.setIfInBounds_toArray, List.set_cons_zero, List.set_cons_succ]
          refine wpAnyH_ready (rs := [7]) (by kernel_rfl) (by simp) ?_
          refine AllReadyH.cons (o := { dst := some 59, op := Go.Op.call { callee := Go.Callee.builtin Go.Builtin.append, args := #[Go.Operand.tmp 56, Go.Operand.tmp 58], argTypes := #[45, 45] }, type := 45, pos := "reasm.go:85", after := #[{ on := 4, ground := Go.Ground.data }, { on := 6, ground := Go.Ground.data }], guard := none }) rfl (fun K hK => ?_) AllReadyH.nil
          obtain ⟨i, hi, hz, hs52, hb52⟩ := info_parts info52
          refine step_append_lies _ (by rfl) _ _ 45 (by rfl) base 52 i _ 10 24 Try.underlying45 hi hz hs52 hb52 rfl (by omega) ov L _ (by rfl) Hrow.out ⟨w4.heap.size, 0, none⟩ 1 1 k.enc (by rfl) (by rfl) (World.news_of_block CA.out) k.enc_one (by omega) (by unfold maxLen; omega) (by omega) HbA.out _ rfl ?_
          intro g cap w5 hrow5 hg5 hgb hgl
          have HR5 := Lib.hid hrow5; have HG5 := Lib.hid hg5; clear hrow5 hg5 hgb hgl hi hz hs52 hb52 i
          refine hK.out _ _ ?_ (fun hHeld => ?_)
          · exact trivial
          clear hK K
          try simp only [Act.put, List.setIfInBounds_toArray, List.set_cons_zero, List.set_cons_succ]
          refine wpAnyH_take (i := 8) (oi := { dst := some 60, op := Go.Op.nilCheck (Go.Operand.tmp 52), type := 0, pos := "reasm.go:85", after := #[{ on := 0, ground := Go.Ground.data }, { on := 0, ground := Go.Ground.phase }, { on := 1, ground := Go.Ground.phase }, { on := 2, ground := Go.Ground.phase }, { on := 3, ground := Go.Ground.phase }, { on := 4, ground := Go.Ground.phase }, { on := 5, ground := Go.Ground.phase }, { on := 6, ground := Go.Ground.phase }, { on := 7, ground := Go.Ground.phase }], guard := none }) (v := ?_) rfl (by kernel_rfl) (by kernel_rfl) (by kernel_rfl) (fun _ _ _ h => h) (Or.inl ⟨by rfl, ?_⟩) (by assumption) ?_
          rotate_left
          focus ((intro w hSw; (try dsimp only at hSw); clear hSw; go_simp) <;> (with_reducible rfl))
          try simp only [Act.put, List.setIfInBounds_toArray, List.set_cons_zero, List.set_cons_succ]
          refine wpAnyH_take (i := 9) (oi := { dst := some 61, op := Go.Op.fieldAddr 70 (Go.Operand.tmp 60) 4, type := 0, pos := "reasm.go:85", after := #[{ on := 8, ground := Go.Ground.data }, { on := 0, ground := Go.Ground.phase }, { on := 1, ground := Go.Ground.phase }, { on := 2, ground := Go.Ground.phase }, { on := 3, ground := Go.Ground.phase }, { on := 4, ground := Go.Ground.phase }, { on := 5, ground := Go.Ground.phase }, { on := 6, ground := Go.Ground.phase }, { on := 7, ground := Go.Ground.phase }], guard := none }) (v := ?_) rfl (by kernel_rfl) (by kernel_rfl) (by kernel_rfl) (fun _ _ _ h => h) (Or.inl ⟨by rfl, ?_⟩) (by assumption) ?_
          rotate_left
          focus ((intro w hSw; (try dsimp only at hSw); clear hSw; go_simp) <;> (with_reducible rfl))
          try simp only [Act.put, List.setIfInBounds_toArray, List.set_cons_zero, List.set_cons_succ]
          refine wpAnyH_ready (rs := [10]) (by kernel_rfl) (by simp) ?_
          refine AllReadyH.cons (o := { dst := none, op := Go.Op.store 45 (Go.Operand.tmp 61) (Go.Operand.tmp 59), type := 0, pos := "reasm.go:85", after := #[{ on := 9, ground := Go.Ground.data }, { on := 7, ground := Go.Ground.data }, { on := 7, ground := Go.Ground.chain }, { on := 0, ground := Go.Ground.phase }, { on := 1, ground := Go.Ground.phase }, { on := 2, ground := Go.Ground.phase }, { on := 3, ground := Go.Ground.phase }, { on := 4, ground := Go.Ground.phase }, { on := 5, ground := Go.Ground.phase }, { on := 6, ground := Go.Ground.phase }, { on := 7, ground := Go.Ground.phase }], guard := none }) rfl (fun K hK => ?_) AllReadyH.nil
          have L5 : Hid (w5.heap[tp]? = some (tabC most wait nw mb ov dr)) := (HG5.out.block tp (lies_lt (lies_alloc L4.out k.obj)) Htp.out).trans (lies_alloc L4.out k.obj)
          have hc5 : w5.cell? ⟨tp, 4, none⟩ = some ov := lies_cell L5.out 4
          have hf5 := lies_frozen L5.out 4
          go_simp
          clear hc5 hf5
          refine hK.out _ _ ?_ (fun hHeld => ?_)
          · exact trivial
          clear hK K
          try simp only [Act.put, List.setIfInBounds_toArray, List.set_cons_zero, List.set_cons_succ]
          refine wpAnyH_done (by kernel_rfl) ?_ _
          clear hHeld
          go_wp2
          go_returns
          exact begin_end (V := V8.drew) HRR.out (H7.out.drewN 1) hnf.out HLL.out Hnw.out Hdr.out HBy.out Hb3.out HM4.out HG5.out HR5.out F7.out.drew
        · obtain ⟨c0, c1, c2, c3, c4, c5, c6, c7, c8, c9⟩ := cells10 C4.out; simp only [Nat.zero_add] at c1 c2 c3 c4 c5 c6 c7 c8 c9
          go_simp
          clear c0 c1 c2 c3 c4 c5 c6 c7 c8 c9
          refine hK.out _ _ ?_ (fun hHeld => ?_)
          · exact trivial
          clear hK K
          try simp only [Act.put, List.setIfInBounds_toArray, List.set_cons_zero, List.set_cons_succ]
          refine wpAnyH_ready (rs := [4, 6]) (by kernel_rfl) (by simp) ?_
          refine AllReadyH.cons (o := { dst := some 56, op := Go.Op.load 45 (Go.Operand.tmp 55), type := 45, pos := "reasm.go:85", after := #[{ on := 3, ground := Go.Ground.data }], guard := none }) rfl (fun K hK => ?_) (AllReadyH.cons (o := { dst := some 58, op := Go.Op.buildSlice 45 1 #[(0, Go.Operand.tmp 57)], type := 45, pos := "reasm.go:85", after := #[{ on := 5, ground := Go.Ground.data }], guard := none }) rfl (fun K hK => ?_) AllReadyH.nil)
          · have hcl : w4.drew.cell? ⟨tp, 4, none⟩ = some ov := lies_cell L4.out 4
            have hcl2 : ∀ o, (w4.alloc o).drew.cell? ⟨tp, 4, none⟩ = some ov := fun o => lies_cell (lies_alloc L4.out o) 4
            go_simp
            clear hcl hcl2
            refine hK.out _ _ ?_ (fun hHeld => ?_)
            · exact trivial
            clear hK K
            try simp only [Act.put, List.setIfInBounds_toArray, List.set_cons_zero, List.set_cons_succ]
            refine wpAnyH_ready (rs := [6]) (by kernel_rfl) (by simp) ?_
            refine AllReadyH.cons (o := { dst := some 58, op := Go.Op.buildSlice 45 1 #[(0, Go.Operand.tmp 57)], type := 45, pos := "reasm.go:85", after := #[{ on := 5, ground := Go.Ground.data }], guard := none }) rfl (fun K hK => ?_) AllReadyH.nil
            go_simp
            refine hK.out _ _ ?_ (fun hHeld => ?_)
            · exact trivial
            clear hK K
            try simp only [Act.put, List.setIfInBounds_toArray, List.set_cons_zero, List.set_cons_succ]
            refine wpAnyH_ready (rs := [7]) (by kernel_rfl) (by simp) ?_
            refine AllReadyH.cons (o := { dst := some 59, op := Go.Op.call { callee := Go.Callee.builtin Go.Builtin.append, args := #[Go.Operand.tmp 56, Go.Operand.tmp 58], argTypes := #[45, 45] }, type := 45, pos := "reasm.go:85", after := #[{ on := 4, ground := Go.Ground.data }, { on := 6, ground := Go.Ground.data }], guard := none }) rfl (fun K hK => ?_) AllReadyH.nil
            obtain ⟨i, hi, hz, hs52, hb52⟩ := info_parts info52
            refine step_append_lies _ (by rfl) _ _ 45 (by rfl) base 52 i _ 10 24 Try.underlying45 hi hz hs52 hb52 rfl (by omega) ov L _ (by rfl) Hrow.out ⟨w4.heap.size, 0, none⟩ 1 1 k.enc (by rfl) (by rfl) (World.news_of_block CA.out) k.enc_one (by omega) (by unfold maxLen; omega) (by omega) HbA.out _ rfl ?_
            intro g cap w5 hrow5 hg5 hgb hgl
            have HR5 := Lib.hid hrow5; have HG5 := Lib.hid hg5; clear hrow5 hg5 hgb hgl hi hz hs52 hb52 i
            refine hK.out _ _ ?_ (fun hHeld => ?_)
            · exact trivial
            clear hK K
            try simp only [Act.put, List.setIfInBounds_toArray, List.set_cons_zero, List.set_cons_succ]
            refine wpAnyH_take (i := 8) (oi := { dst := some 60, op := Go.Op.nilCheck (Go.Operand.tmp 52), type := 0, pos := "reasm.go:85", after := #[{ on := 0, ground := Go.Ground.data }, { on := 0, ground := Go.Ground.phase }, { on := 1, ground := Go.Ground.phase }, { on := 2, ground := Go.Ground.phase }, { on := 3, ground := Go.Ground.phase }, { on := 4, ground := Go.Ground.phase }, { on := 5, ground := Go.Ground.phase }, { on := 6, ground := Go.Ground.phase }, { on := 7, ground := Go.Ground.phase }], guard := none }) (v := ?_) rfl (by kernel_rfl) (by kernel_rfl) (by kernel_rfl) (fun _ _ _ h => h) (Or.inl ⟨by rfl, ?_⟩) (by assumption) ?_
            rotate_left
            focus ((intro w hSw; (try dsimp only at hSw); clear hSw; go_simp) <;> (with_reducible rfl))
            try simp only [Act.put, List.setIfInBounds_toArray, List.set_cons_zero, List.set_cons_succ]
            refine wpAnyH_take (i := 9) (oi := { dst := some 61, op := Go.Op.fieldAddr 70 (Go.Operand.tmp 60) 4, type := 0, pos := "reasm.go:85", after := #[{ on := 8, ground := Go.Ground.data }, { on := 0, ground := Go.Ground.phase }, { on := 1, ground := Go.Ground.phase }, { on := 2, ground := Go.Ground.phase }, { on := 3, ground := Go.Ground.phase }, { on := 4, ground := Go.Ground.phase }, { on := 5, ground := Go.Ground.phase }, { on := 6, ground := Go.Ground.phase }, { on := 7, ground := Go.Ground.phase }], guard := none }) (v := ?_) rfl (by kernel_rfl) (by kernel_rfl) (by kernel_rfl) (fun _ _ _ h => h) (Or.inl ⟨by rfl, ?_⟩) (by assumption) ?_
            rotate_left
            focus ((intro w hSw; (try dsimp only at hSw); clear hSw; go_simp) <;> (with_reducible rfl))
            try simp only [Act.put, List.setIfInBounds_toArray, List.set_cons_zero, List.set_cons_succ]
            refine wpAnyH_ready (rs := [10]) (by kernel_rfl) (by simp) ?_
            refine AllReadyH.cons (o := { dst := none, op := Go.Op.store 45 (Go.Operand.tmp 61) (Go.Operand.tmp 59), type := 0, pos := "reasm.go:85", after := #[{ on := 9, ground := Go.Ground.data }, { on := 7, ground := Go.Ground.data }, { on := 7, ground := Go.Ground.chain }, { on := 0, ground := Go.Ground.phase }, { on := 1, ground := Go.Ground.phase }, { on := 2, ground := Go.Ground.phase }, { on := 3, ground := Go.Ground.phase }, { on := 4, ground := Go.Ground.phase }, { on := 5, ground := Go.Ground.phase }, { on := 6, ground := Go.Ground.phase }, { on := 7, ground := Go.Ground.phase }], guard := none }) rfl (fun K hK => ?_) AllReadyH.nil
            have L5 : Hid (w5.heap[tp]? = some (tabC most wait nw mb ov dr)) := (HG5.out.block tp (lies_lt (lies_alloc L4.out k.obj)) Htp.out).trans (lies_alloc L4.out k.obj)
            have hc5 : w5.cell? ⟨tp, 4, none⟩ = some ov := lies_cell L5.out 4
            have hf5 := lies_frozen L5.out 4
            go_simp
            clear hc5 hf5
            refine hK.out _ _ ?_ (fun hHeld => ?_)
            · exact trivial
            clear hK K
            try simp only [Act.put, List.setIfInBounds_toArray, List.set_cons_zero, List.set_cons_succ]
            refine wpAnyH_done (by kernel_rfl) ?_ _
            clear hHeld
            go_wp2
            go_returns
            exact begin_end (V := V8.drew) HRR.out (H7.out.drewN 1) hnf.out HLL.out Hnw.out Hdr.out HBy.out Hb3.out HM4.out HG5.out HR5.out F7.out.drew
          · go_simp
            refine hK.out _ _ ?_ (fun hHeld => ?_)
            · exact trivial
            clear hK K
            try simp only [Act.put, List.setIfInBounds_toArray, List.set_cons_zero, List.set_cons_succ]
            refine wpAnyH_ready (rs := [4]) (by kernel_rfl) (by simp) ?_
            refine AllReadyH.cons (o := { dst := some 56, op := Go.Op.load 45 (Go.Operand.tmp 55), type := 45, pos := "reasm.go:85", after := #[{ on := 3, ground := Go.Ground.data }], guard := none }) rfl (fun K hK => ?_) AllReadyH.nil
            have hcl : w4.drew.cell? ⟨tp, 4, none⟩ = some ov := lies_cell L4.out 4
            have hcl2 : ∀ o, (w4.alloc o).drew.cell? ⟨tp, 4, none⟩ = some ov := fun o => lies_cell (lies_alloc L4.out o) 4
            go_simp
            clear hcl hcl2
            refine hK.out _ _ ?_ (fun hHeld => ?_)
            · exact trivial
            clear hK K
            try simp only [Act.put, List.setIfInBounds_toArray, List.set_cons_zero, List.set_cons_succ]
            refine wpAnyH_ready (rs := [7]) (by kernel_rfl) (by simp) ?_
            refine AllReadyH.cons (o := { dst := some 59, op := Go.Op.call { callee := Go.Callee.builtin Go.Builtin.append, args := #[Go.Operand.tmp 56, Go.Operand.tmp 58], argTypes := #[45, 45] }, type := 45, pos := "reasm.go:85", after := #[{ on := 4, ground := Go.Ground.data }, { on := 6, ground := Go.Ground.data }], guard := none }) rfl (fun K hK => ?_) AllReadyH.nil
            obtain ⟨i, hi, hz, hs52, hb52⟩ := info_parts info52
            refine step_append_lies _ (by rfl) _ _ 45 (by rfl) base 52 i _ 10 24 Try.underlying45 hi hz hs52 hb52 rfl (by omega) ov L _ (by rfl) Hrow.out ⟨w4.heap.size, 0, none⟩ 1 1 k.enc (by rfl) (by rfl) (World.news_of_block CA.out) k.enc_one (by omega) (by unfold maxLen; omega) (by omega) HbA.out _ rfl ?_
            intro g cap w5 hrow5 hg5 hgb hgl
            have HR5 := Lib.hid hrow5; have HG5 := Lib.hid hg5; clear hrow5 hg5 hgb hgl hi hz hs52 hb52 i
            refine hK.out _ _ ?_ (fun hHeld => ?_)
            · exact trivial
            clear hK K
            try simp only [Act.put, List.setIfInBounds_toArray, List.set_cons_zero, List.set_cons_succ]
            refine wpAnyH_take (i := 8) (oi := { dst := some 60, op := Go.Op.nilCheck (Go.Operand.tmp 52), type := 0, pos := "reasm.go:85", after := #[{ on := 0, ground := Go.Ground.data }, { on := 0, ground := Go.Ground.phase }, { on := 1, ground := Go.Ground.phase }, { on := 2, ground := Go.Ground.phase }, { on := 3, ground := Go.Ground.phase }, { on := 4, ground := Go.Ground.phase }, { on := 5, ground := Go.Ground.phase }, { on := 6, ground := Go.Ground.phase }, { on := 7, ground := Go.Ground.phase }], guard := none }) (v := ?_) rfl (by kernel_rfl) (by kernel_rfl) (by kernel_rfl) (fun _ _ _ h => h) (Or.inl ⟨by rfl, ?_⟩) (by assumption) ?_
            rotate_left
            focus ((intro w hSw; (try dsimp only at hSw); clear hSw; go_simp) <;> (with_reducible rfl))
            try simp only [Act.put, List.setIfInBounds_toArray, List.set_cons_zero, List.set_cons_succ]
            refine wpAnyH_take (i := 9) (oi := { dst := some 61, op := Go.Op.fieldAddr 70 (Go.Operand.tmp 60) 4, type := 0, pos := "reasm.go:85", after := #[{ on := 8, ground := Go.Ground.data }, { on := 0, ground := Go.Ground.phase }, { on := 1, ground := Go.Ground.phase }, { on := 2, ground := Go.Ground.phase }, { on := 3, ground := Go.Ground.phase }, { on := 4, ground := Go.Ground.phase }, { on := 5, ground := Go.Ground.phase }, { on := 6, ground := Go.Ground.phase }, { on := 7, ground := Go.Ground.phase }], guard := none }) (v := ?_) rfl (by kernel_rfl) (by kernel_rfl) (by kernel_rfl) (fun _ _ _ h => h) (Or.inl ⟨by rfl, ?_⟩) (by assumption) ?_
            rotate_left
            focus ((intro w hSw; (try dsimp only at hSw); clear hSw; go_simp) <;> (with_reducible rfl))
            try simp only [Act.put, List.setIfInBounds_toArray, List.set_cons_zero, List.set_cons_succ]
            refine wpAnyH_ready (rs := [10]) (by kernel_rfl) (by simp) ?_
            refine AllReadyH.cons (o := { dst := none, op := Go.Op.store 45 (Go.Operand.tmp 61) (Go.Operand.tmp 59), type := 0, pos := "reasm.go:85", after := #[{ on := 9, ground := Go.Ground.data }, { on := 7, ground := Go.Ground.data }, { on := 7, ground := Go.Ground.chain }, { on := 0, ground := Go.Ground.phase }, { on := 1, ground := Go.Ground.phase }, { on := 2, ground := Go.Ground.phase }, { on := 3, ground := Go.Ground.phase }, { on := 4, ground := Go.Ground.phase }, { on := 5, ground := Go.Ground.phase }, { on := 6, ground := Go.Ground.phase }, { on := 7, ground := Go.Ground.phase }], guard := none }) rfl (fun K hK => ?_) AllReadyH.nil
            have L5 : Hid (w5.heap[tp]? = some (tabC most wait nw mb ov dr)) := (HG5.out.block tp (lies_lt (lies_alloc L4.out k.obj)) Htp.out).trans (lies_alloc L4.out k.obj)
            have hc5 : w5.cell? ⟨tp, 4, none⟩ = some ov := lies_cell L5.out 4
            have hf5 := lies_frozen L5.out 4
            go_simp
            clear hc5 hf5
            refine hK.out _ _ ?_ (fun hHeld => ?_)
            · exact trivial
            clear hK K
            try simp only [Act.put, List.setIfInBounds_toArray, List.set_cons_zero, List.set_cons_succ]
            refine wpAnyH_done (by kernel_rfl) ?_ _
            clear hHeld
            go_wp2
            go_returns
            exact begin_end (V := V8.drew) HRR.out (H7.out.drewN 1) hnf.out HLL.out Hnw.out Hdr.out HBy.out Hb3.out HM4.out HG5.out HR5.out F7.out.drew
    · have hJ0 : (J != 0) = true := by simpa using hJ
      have HRR := HR.out
      rw [first_bad Ho.out (by rw [HJ.out]; exact hJ)] at HRR
      subst HRR
      have HJ2 := Lib.hid hJ; clear hJ
      go_wp2_with (first
        | (go_at_call 39; (with_reducible refine (HJD.out _).mono ?_); rintro e V7 ⟨rfl, hb7⟩))
      go_returns
      exact ⟨by show Ending.returned (Value.int .i64 J) = Ending.returned (Value.int .i64 (jr p 0)); rw [HJ.out], ⟨_, _, _, _, _, HH.out.below hb7⟩, F5.out.trans (Fr.of hb7 HH.out.lt.2.2)⟩
end Go.Proofs.Ytgdjcoodjdckkaa
