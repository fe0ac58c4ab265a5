/- Merged: Go, Gp, Gb, Gk. -/
import Derived.Test.YtgdjcoodjdckkaaM5
set_option linter.unusedVariables false
/- Contract of goOn. -/
set_option maxRecDepth 100000
namespace Go.Proofs.Ytgdjcoodjdckkaa
open Go.RowKit Go.Proofs.PitotIp Go.Maps
open Go.Proofs.PitotReasm (Bg Tb Fine bad first next more)
open Go.Proofs.Ytgdjcoodjdckkaa.Bi (lies_lt lies_cell lies_frozen lies_alloc lies_set)

/-- No packet. -/
def pkN : Pk := ⟨0, false, 0, 0, 0, q0, q0, ⟨#[]⟩⟩
/-- The packet that is whole. -/
def whole (p : Pk) (x : List UInt8) : Pk := ⟨p.id, p.m, 0, p.ttl, p.pr, p.a, p.b, ⟨x.toArray⟩⟩
/-- What goOn, and Put, answer. -/
def ans (p : Pk) (o : Option (List UInt8)) (e : Int) : Value := .tuple #[(match o with | none => pkN | some x => whole p x).val, .bool o.isSome, .int .i64 e]

theorem next_none {t : Tb K UInt8} {k : K} {p : Pk} (h : find t.l k = none) : next t k p.m p.off p.d = (t, none, 25) := by
  unfold next
  rw [show PitotReasm.find t.l k = none from h]
theorem next_bad {t : Tb K UInt8} {k : K} {p : Pk} {b : Bg K UInt8} (hf : Fine t.l) (h : find t.l k = some b) (hj : jr p b.d.length ≠ 0) : next t k p.m p.off p.d = (⟨drop t.l k, t.now, t.dr + 1⟩, none, jr p b.d.length) := by
  have h8 := hf.eight b (find_mem h).1
  unfold next
  rw [show PitotReasm.find t.l k = some b from h]
  simp only [Pk.d_length]
  unfold jr at hj ⊢
  by_cases h1 : p.off ≠ ((b.d.length / 8 : Nat) : Int)
  · rw [if_pos h1, if_pos (Or.inr h1), if_pos (by omega)]
  · rw [if_neg h1] at hj ⊢
    have h0 : ¬ (b.d.length % 8 ≠ 0 ∨ p.off ≠ ((b.d.length / 8 : Nat) : Int)) := by omega
    rw [if_neg h0]
    by_cases h2 : bad p.m p.d = true
    · rw [if_pos h2, if_pos (by omega)]
    · rw [if_neg h2] at hj ⊢
      by_cases h3 : 8200 < b.d.length + p.s.size
      · rw [if_pos h3, if_pos (by omega)]
      · rw [if_neg h3] at hj; exact absurd rfl hj
theorem jr_zero_of {p : Pk} {z : Nat} (hj : jr p z = 0) : p.off = ((z / 8 : Nat) : Int) ∧ bad p.m p.d = false ∧ z + p.s.size ≤ 8200 := by
  unfold jr at hj
  by_cases h1 : p.off ≠ ((z / 8 : Nat) : Int)
  · rw [if_pos h1] at hj; omega
  · rw [if_neg h1] at hj
    by_cases h2 : bad p.m p.d = true
    · rw [if_pos h2] at hj; omega
    · rw [if_neg h2] at hj
      by_cases h3 : 8200 < z + p.s.size
      · rw [if_pos h3] at hj; omega
      · exact ⟨by omega, by simpa using h2, by omega⟩
theorem next_on {t : Tb K UInt8} {k : K} {p : Pk} {b : Bg K UInt8} (hf : Fine t.l) (h : find t.l k = some b) (hj : jr p b.d.length = 0) (hm : p.m = true) : next t k p.m p.off p.d = (⟨more t.l k p.d, t.now, t.dr⟩, none, 0) := by
  obtain ⟨h1, h2, h3⟩ := jr_zero_of hj
  rw [hm] at h2 ⊢
  exact PitotReasm.next_more h (hf.eight b (find_mem h).1) h1 h2 (by rw [Pk.d_length]; omega)
theorem next_end {t : Tb K UInt8} {k : K} {p : Pk} {b : Bg K UInt8} (hf : Fine t.l) (h : find t.l k = some b) (hj : jr p b.d.length = 0) (hm : p.m = false) : next t k p.m p.off p.d = (⟨drop t.l k, t.now, t.dr⟩, some (b.d ++ p.d), 0) := by
  obtain ⟨h1, h2, h3⟩ := jr_zero_of hj
  rw [hm] at h2 ⊢
  exact PitotReasm.next_last h (hf.eight b (find_mem h).1) h1 (by rw [Pk.d_length]; omega)

theorem Tab.away {base : Nat} {W W' : World} {p : Nat} {most wait : Int} {t : Tb K UInt8} {mb n : Nat} {D : DataW Value} {ov : Value} {dv : K → Value} (h : Tab base W p most wait t mb n D ov dv) {g : Nat} (hg : W.grownBy W' (some g)) {cs : Array Value} {ty : TypeId} {fr : Nat × Nat} (hk : W.heap[g]? = some (Obj.cells cs ty fr)) (h1 : ty ≠ 70) (h2 : ty ≠ 52) (h3 : ty ≠ 5) : Tab base W' p most wait t mb n D ov dv where
  hp := h.hp
  hm := h.hm
  tab := (hg.block p h.lt.1 (by
    intro e; injection e with e; subst e
    have := h.tab; rw [hk] at this; injection this with this; injection this with _ e2; exact h1 e2)).trans h.tab
  map := h.map.kept hg (by
    intro e; injection e with e; subst e
    obtain ⟨es, cl, hm, _⟩ := h.map
    rw [hk] at hm; cases hm)
  rep := h.rep
  size := h.size
  row := h.row.kept hg (by
    rcases h.row.2 with ⟨e, _⟩ | ⟨g', cap, cur, e, _, hcur, _⟩
    · left; rw [e]; rfl
    · right
      rw [e]
      intro e2
      simp [Value.ownBlock] at e2
      subst e2
      rw [hk] at hcur; injection hcur with hcur; injection hcur with _ e2; exact h2 e2)
  bytes := fun b hb => (h.bytes b hb).kept hg (by
    obtain ⟨g', cur, fz, e, _, hcur⟩ := (h.bytes b hb).block
    rw [e]
    intro e2
    injection e2 with e2
    subst e2
    rw [hk] at hcur; injection hcur with hcur; injection hcur with _ e2; exact h3 e2)
  apart := h.apart
theorem Fr.fresh {base : Nat} {w W W' : World} (h : Fr base w W) {g : Nat} (hg : W.grownBy W' (some g)) (hb : base ≤ w.heap.size) (hgw : w.heap.size ≤ g) : Fr base w W' := by
  have hs := h.below.size
  refine ⟨h.below.trans ⟨hg.os, hg.tape, hg.output, hg.size, fun k hk => hg.block k (by omega) (by intro e; injection e with e; omega)⟩, fun k cs ty fr h1 h2 h3 e => ?_⟩
  have hk := (Array.getElem?_eq_some_iff.1 e).1
  have e1 := h.kind k cs ty fr h1 h2 h3 e
  exact (hg.block k (Array.getElem?_eq_some_iff.1 e1).1 (by intro e; injection e with e; omega)).trans e1
theorem grown_14 (g : Nat) (X : World) (y0 y1 y2 y3 y4 y5 y6 y7 y8 y9 y10 y11 y12 y13 : Value) : X.grownBy ((((((((((((((X.setCell ⟨g, 0, none⟩ y0).setCell ⟨g, 1, none⟩ y1).setCell ⟨g, 2, none⟩ y2).setCell ⟨g, 3, none⟩ y3).setCell ⟨g, 4, none⟩ y4).setCell ⟨g, 5, none⟩ y5).setCell ⟨g, 6, none⟩ y6).setCell ⟨g, 7, none⟩ y7).setCell ⟨g, 8, none⟩ y8).setCell ⟨g, 9, none⟩ y9).setCell ⟨g, 10, none⟩ y10).setCell ⟨g, 11, none⟩ y11).setCell ⟨g, 12, none⟩ y12).setCell ⟨g, 13, none⟩ y13) (some g) :=
  grown_cells g [y0, y1, y2, y3, y4, y5, y6, y7, y8, y9, y10, y11, y12, y13] 0 X
/-- The result has been stored. -/
theorem stored_14 {base : Nat} {w X : World} {tp g : Nat} {most wait : Int} {t : Tb K UInt8} (h : TabAt base X tp most wait t) (hF : Fr base w X) (hb : base ≤ w.heap.size) (hg : w.heap.size ≤ g) {cs : Array Value} {fr : Nat × Nat} (hk : X.heap[g]? = some (Obj.cells cs 34 fr)) (y0 y1 y2 y3 y4 y5 y6 y7 y8 y9 y10 y11 y12 y13 : Value) :
    TabAt base ((((((((((((((X.setCell ⟨g, 0, none⟩ y0).setCell ⟨g, 1, none⟩ y1).setCell ⟨g, 2, none⟩ y2).setCell ⟨g, 3, none⟩ y3).setCell ⟨g, 4, none⟩ y4).setCell ⟨g, 5, none⟩ y5).setCell ⟨g, 6, none⟩ y6).setCell ⟨g, 7, none⟩ y7).setCell ⟨g, 8, none⟩ y8).setCell ⟨g, 9, none⟩ y9).setCell ⟨g, 10, none⟩ y10).setCell ⟨g, 11, none⟩ y11).setCell ⟨g, 12, none⟩ y12).setCell ⟨g, 13, none⟩ y13) tp most wait t ∧
    Fr base w ((((((((((((((X.setCell ⟨g, 0, none⟩ y0).setCell ⟨g, 1, none⟩ y1).setCell ⟨g, 2, none⟩ y2).setCell ⟨g, 3, none⟩ y3).setCell ⟨g, 4, none⟩ y4).setCell ⟨g, 5, none⟩ y5).setCell ⟨g, 6, none⟩ y6).setCell ⟨g, 7, none⟩ y7).setCell ⟨g, 8, none⟩ y8).setCell ⟨g, 9, none⟩ y9).setCell ⟨g, 10, none⟩ y10).setCell ⟨g, 11, none⟩ y11).setCell ⟨g, 12, none⟩ y12).setCell ⟨g, 13, none⟩ y13) := by
  obtain ⟨mb, n, D, ov, dv, h⟩ := h
  have G := grown_14 g X y0 y1 y2 y3 y4 y5 y6 y7 y8 y9 y10 y11 y12 y13
  exact ⟨⟨mb, n, D, ov, dv, h.away G hk (by decide) (by decide) (by decide)⟩, hF.fresh G hb hg⟩

set_option maxHeartbeats 4000000 in
theorem goOn_none {base : Nat} {w : World} {tp : Nat} {most : Nat} {wait : Int} {t : Tb K UInt8} (h : TabAt base w tp most wait t) (hG : Good most t) (hmost : most ≤ 64) (hdr : t.dr ≤ 100000000000) (p : Pk) (hw : p.Wf) (hs : p.s.size ≤ 1000000000) (hn : find t.l (p.key hw) = none) :
    Calls Try.prog 24 #[.pointer (some ⟨tp, 0, none⟩), p.val] w fun e w' => e = .returned (ans p (next t (p.key hw) p.m p.off p.d).2.1 (next t (p.key hw) p.m p.off p.d).2.2) ∧ TabAt base w' tp most wait (next t (p.key hw) p.m p.off p.d).1 ∧ Fr base w w' := by
  rw [next_none hn]
  obtain ⟨mb, n, D, ov, dv, h⟩ := h
  have hbase := h.lt.2.2
  have HK := fun w => keyOf_any p hw w
  obtain ⟨k, Hk⟩ : ∃ k, Hid (k = p.key hw) := ⟨_, rfl⟩
  simp only [← Hk.out] at HK hn ⊢
  have HK := Lib.hid HK
  have HT := Lib.hid h; clear h
  have HG := Lib.hid hG; clear hG
  simp only [K.val] at HK
  go_enter Try.func24, Try.ntmps24
  go_upto_region 2 with (first
    | (go_at_call 38; (with_reducible refine (HK.out _).mono ?_); rintro e w2 ⟨rfl, hb2⟩))
  have k1 := ((Below.refl w.heap.size w).alloc (Nat.le_refl _) p.obj)
  have k1b := k1.alloc k1.size pkz
  have hb3 : Below w.heap.size w (w2.alloc k.obj) := by
    have k2 := k1b.trans (hb2.mono k1b.size)
    exact k2.alloc k2.size _
  have H1 : Hid (Tab base (w2.alloc k.obj) tp most wait t mb n D ov dv) := HT.out.below hb3
  have P1 : Hid ((w2.alloc k.obj).heap[w.heap.size]? = some p.obj) := lies_alloc (lies_below (lies_alloc (heap_alloc_new w _) _) hb2 (by simp; omega)) _
  have R1 : Hid ((w2.alloc k.obj).heap[w.heap.size + 1]? = some pkz) := by
    have e := heap_alloc_new (w.alloc p.obj) pkz
    rw [World.size_alloc] at e
    exact lies_alloc (lies_below e hb2 (by simp)) _
  have C1 : Hid ((w2.alloc k.obj).heap[w2.heap.size]? = some k.obj) := heap_alloc_new w2 _
  have F1 : Hid (Fr base w (w2.alloc k.obj)) := Fr.of hb3 hbase
  obtain ⟨pb, Hpb⟩ : ∃ pb, Hid (pb = w.heap.size) := ⟨_, rfl⟩
  obtain ⟨rb, Hrb⟩ : ∃ rb, Hid (rb = w.heap.size + 1) := ⟨_, rfl⟩
  obtain ⟨kb, Hkb⟩ : ∃ kb, Hid (kb = w2.heap.size) := ⟨_, rfl⟩
  rw [← Hrb.out] at R1
  (try rw [World.size_alloc])
  rw [← Hrb.out]
  rw [← Hpb.out] at P1 ⊢
  rw [← Hkb.out] at C1 ⊢
  generalize w2.alloc k.obj = X at H1 P1 R1 C1 F1 ⊢
  have Hpr : Hid (pb ≠ rb) := by show _ ≠ _; rw [Hpb.out, Hrb.out]; omega
  have Hrbb : Hid (base ≤ w.heap.size ∧ w.heap.size ≤ rb) := ⟨hbase, by rw [Hrb.out]; omega⟩
  have hkf : Hid (some kb ≠ ov.ownBlock) := by
    show _ ≠ _
    intro e
    rcases HT.out.row.2 with ⟨e1, _⟩ | ⟨g, cap, cur, e1, _, hcur, _⟩
    · rw [e1] at e; cases e
    · rw [e1] at e
      simp only [Value.ownBlock, Option.some.injEq] at e
      have := (Array.getElem?_eq_some_iff.1 hcur).1
      have h2 := hb2.size
      simp only [World.size_alloc] at h2
      rw [Hkb.out] at e; omega
  have Hpw : Hid (w.heap.size ≤ pb) := by show _ ≤ _; rw [Hpb.out]; omega
  have hXs : Hid (w.heap.size ≤ X.heap.size) := F1.out.below.size
  clear HT hb2 hb3 k1 k1b Hpb Hrb Hkb hbase
  obtain ⟨bo, Hbo⟩ : ∃ bo, Hid (bo = (find t.l k).isSome) := ⟨_, rfl⟩
  obtain ⟨b0, b1, b2, b3, Hbw⟩ : ∃ b0 b1 b2 b3, Hid (bval (find t.l k) (dv k) = .agg #[.int .i64 b0, .slice b1 b2 b3]) := by
    cases hf : find t.l k with
    | none => exact ⟨0, none, 0, 0, rfl⟩
    | some b =>
      obtain ⟨g, cap, e, _⟩ := (H1.out.bytes b (find_mem hf).1).form
      rw [(find_mem hf).2] at e
      exact ⟨b.t0, some ⟨g, 0, none⟩, b.d.length, cap, by show _ = _; rw [bval, e]⟩
  go_upto_region 2 with (fail)
  refine wp_region_held_drew (S := fun w' => Tab base w' tp most wait t mb n D ov dv ∧ w'.heap[pb]? = some p.obj ∧ w'.heap[kb]? = some k.obj ∧ w'.heap[rb]? = some pkz ∧ Fr base w w') (by kernel_rfl) ?_ (fun hHeld => ?_)
  · exact ⟨H1.out.drewN 1, P1.out, C1.out, R1.out, F1.out.drew⟩
  refine wpAnyH_take (i := 0) (oi := { dst := some 14, op := Go.Op.move (Go.Operand.tmp 0), type := 23, pos := "reasm.go:92", after := #[], guard := none }) (v := ?_) rfl (by kernel_rfl) (by kernel_rfl) (by kernel_rfl) (fun _ _ _ h => h) (Or.inl ⟨by rfl, ?_⟩) (by assumption) ?_
  rotate_left
  focus ((intro w hSw; (try dsimp only at hSw); clear hSw; go_simp) <;> (with_reducible rfl))
  try simp only [Act.put, List.setIfInBounds_toArray, List.set_cons_zero, List.set_cons_succ]
  refine wpAnyH_take (i := 1) (oi := { dst := some 15, op := Go.Op.nilCheck (Go.Operand.tmp 14), type := 0, pos := "reasm.go:92", after := #[{ on := 0, ground := Go.Ground.data }], guard := none }) (v := ?_) rfl (by kernel_rfl) (by kernel_rfl) (by kernel_rfl) (fun _ _ _ h => h) (Or.inl ⟨by rfl, ?_⟩) (by assumption) ?_
  rotate_left
  focus ((intro w hSw; (try dsimp only at hSw); clear hSw; go_simp) <;> (with_reducible rfl))
  try simp only [Act.put, List.setIfInBounds_toArray, List.set_cons_zero, List.set_cons_succ]
  refine wpAnyH_take (i := 2) (oi := { dst := some 16, op := Go.Op.fieldAddr 70 (Go.Operand.tmp 15) 3, type := 0, pos := "reasm.go:92", after := #[{ on := 1, ground := Go.Ground.data }], guard := none }) (v := ?_) rfl (by kernel_rfl) (by kernel_rfl) (by kernel_rfl) (fun _ _ _ h => h) (Or.inl ⟨by rfl, ?_⟩) (by assumption) ?_
  rotate_left
  focus ((intro w hSw; (try dsimp only at hSw); clear hSw; go_simp) <;> (with_reducible rfl))
  try simp only [Act.put, List.setIfInBounds_toArray, List.set_cons_zero, List.set_cons_succ]
  refine wpAnyH_take (i := 3) (oi := { dst := some 17, op := Go.Op.load 68 (Go.Operand.tmp 16), type := 68, pos := "reasm.go:92", after := #[{ on := 2, ground := Go.Ground.data }], guard := none }) (v := ?_) rfl (by kernel_rfl) (by kernel_rfl) (by kernel_rfl) (fun _ _ _ h => h) (Or.inl ⟨by rfl, ?_⟩) (by assumption) ?_
  rotate_left
  focus ((intro w hSw; (try dsimp only at hSw); have hc : w.cell? ⟨tp, 3, none⟩ = some (.map (some mb)) := lies_cell hSw.1.tab 3; clear hSw; go_simp) <;> (with_reducible rfl))
  try simp only [Act.put, List.setIfInBounds_toArray, List.set_cons_zero, List.set_cons_succ]
  refine wpAnyH_take (i := 4) (oi := { dst := some 18, op := Go.Op.load 52 (Go.Operand.tmp 7), type := 52, pos := "reasm.go:92", after := #[], guard := none }) (v := ?_) rfl (by kernel_rfl) (by kernel_rfl) (by kernel_rfl) (fun _ _ _ h => h) (Or.inl ⟨by rfl, ?_⟩) (by assumption) ?_
  rotate_left
  focus ((intro w hSw; (try dsimp only at hSw); obtain ⟨c0, c1, c2, c3, c4, c5, c6, c7, c8, c9⟩ := cells10 hSw.2.2.1; simp only [Nat.zero_add] at c1 c2 c3 c4 c5 c6 c7 c8 c9; clear hSw; go_simp) <;> (with_reducible rfl))
  try simp only [Act.put, List.setIfInBounds_toArray, List.set_cons_zero, List.set_cons_succ]
  refine wpAnyH_take (i := 5) (oi := { dst := some 19, op := Go.Op.lookup 68 (Go.Operand.tmp 17) (Go.Operand.tmp 18) true, type := 90, pos := "reasm.go:92", after := #[{ on := 3, ground := Go.Ground.data }, { on := 4, ground := Go.Ground.data }], guard := none }) (v := ?_) rfl (by kernel_rfl) (by kernel_rfl) (by kernel_rfl) (fun _ _ _ h => h) (Or.inl ⟨by rfl, ?_⟩) (by assumption) ?_
  rotate_left
  focus ((intro w hSw; (try dsimp only at hSw); have hl := look_two hSw.1.map hSw.1.rep k; rw [← Hbo.out, Hbw.out] at hl; simp only [K.val] at hl; clear hSw; go_simp) <;> (with_reducible rfl))
  try simp only [Act.put, List.setIfInBounds_toArray, List.set_cons_zero, List.set_cons_succ]
  refine wpAnyH_take (i := 6) (oi := { dst := some 13, op := Go.Op.move (Go.Operand.tmp 19), type := 90, pos := "reasm.go:92", after := #[{ on := 5, ground := Go.Ground.data }], guard := none }) (v := ?_) rfl (by kernel_rfl) (by kernel_rfl) (by kernel_rfl) (fun _ _ _ h => h) (Or.inl ⟨by rfl, ?_⟩) (by assumption) ?_
  rotate_left
  focus ((intro w hSw; (try dsimp only at hSw); clear hSw; go_simp) <;> (with_reducible rfl))
  try simp only [Act.put, List.setIfInBounds_toArray, List.set_cons_zero, List.set_cons_succ]
  refine wpAnyH_take (i := 7) (oi := { dst := some 20, op := Go.Op.extract (Go.Operand.tmp 13) 0, type := 73, pos := "reasm.go:92", after := #[{ on := 6, ground := Go.Ground.data }], guard := none }) (v := ?_) rfl (by kernel_rfl) (by kernel_rfl) (by kernel_rfl) (fun _ _ _ h => h) (Or.inl ⟨by rfl, ?_⟩) (by assumption) ?_
  rotate_left
  focus ((intro w hSw; (try dsimp only at hSw); clear hSw; go_simp) <;> (with_reducible rfl))
  try simp only [Act.put, List.setIfInBounds_toArray, List.set_cons_zero, List.set_cons_succ]
  refine wpAnyH_take (i := 8) (oi := { dst := some 21, op := Go.Op.extract (Go.Operand.tmp 13) 1, type := 4, pos := "reasm.go:92", after := #[{ on := 6, ground := Go.Ground.data }, { on := 10, ground := Go.Ground.gcOnly Go.Departure.lateStores }], guard := none }) (v := ?_) rfl (by kernel_rfl) (by kernel_rfl) (by kernel_rfl) (fun _ _ _ h => h) (Or.inl ⟨by rfl, ?_⟩) (by assumption) ?_
  rotate_left
  focus ((intro w hSw; (try dsimp only at hSw); clear hSw; go_simp) <;> (with_reducible rfl))
  try simp only [Act.put, List.setIfInBounds_toArray, List.set_cons_zero, List.set_cons_succ]
  refine wpAnyH_ready (rs := [9]) (by kernel_rfl) (by simp) ?_
  refine AllReadyH.cons (o := { dst := some 8, op := Go.Op.alloc 73, type := 0, pos := "reasm.go:92", after := #[], guard := none }) rfl (fun K hK => ?_) AllReadyH.nil
  go_simp
  refine hK.out _ _ ?_ (fun hHeld => ?_)
  · exact ⟨hHeld.1.below ((Below.refl _ _).alloc (Nat.le_refl _) _), lies_alloc hHeld.2.1 _, lies_alloc hHeld.2.2.1 _, lies_alloc hHeld.2.2.2.1 _, hHeld.2.2.2.2.trans (Fr.of ((Below.refl _ _).alloc (Nat.le_refl _) _) hHeld.1.lt.2.2)⟩
  clear hK K
  try simp only [Act.put, List.setIfInBounds_toArray, List.set_cons_zero, List.set_cons_succ]
  refine wpAnyH_ready (rs := [10]) (by kernel_rfl) (by simp) ?_
  refine AllReadyH.cons (o := { dst := none, op := Go.Op.store 73 (Go.Operand.tmp 8) (Go.Operand.tmp 20), type := 0, pos := "reasm.go:92", after := #[{ on := 9, ground := Go.Ground.data }, { on := 7, ground := Go.Ground.data }, { on := 0, ground := Go.Ground.phase }, { on := 1, ground := Go.Ground.phase }, { on := 2, ground := Go.Ground.phase }, { on := 3, ground := Go.Ground.phase }, { on := 4, ground := Go.Ground.phase }, { on := 5, ground := Go.Ground.phase }, { on := 6, ground := Go.Ground.phase }, { on := 7, ground := Go.Ground.phase }, { on := 8, ground := Go.Ground.textOnly Go.Departure.lateStores }, { on := 9, ground := Go.Ground.phase }], guard := none }) rfl (fun K hK => ?_) AllReadyH.nil
  go_simp
  refine hK.out _ _ ?_ (fun hHeld => ?_)
  · exact ⟨(H1.out.below ((Below.refl _ X).alloc (Nat.le_refl _) _)).drewN 1, lies_alloc P1.out _, lies_alloc C1.out _, lies_alloc R1.out _, (F1.out.trans (Fr.of ((Below.refl _ X).alloc (Nat.le_refl _) _) H1.out.lt.2.2)).drew⟩
  clear hK K
  try simp only [Act.put, List.setIfInBounds_toArray, List.set_cons_zero, List.set_cons_succ]
  refine wpAnyH_take (i := 11) (oi := { dst := some 9, op := Go.Op.assign (Go.Operand.tmp 21), type := 4, pos := "reasm.go:92", after := #[{ on := 8, ground := Go.Ground.data }, { on := 10, ground := Go.Ground.chain }, { on := 0, ground := Go.Ground.phase }, { on := 1, ground := Go.Ground.phase }, { on := 2, ground := Go.Ground.phase }, { on := 3, ground := Go.Ground.phase }, { on := 4, ground := Go.Ground.phase }, { on := 5, ground := Go.Ground.phase }, { on := 6, ground := Go.Ground.phase }, { on := 7, ground := Go.Ground.phase }, { on := 8, ground := Go.Ground.phase }, { on := 9, ground := Go.Ground.phase }, { on := 10, ground := Go.Ground.phase }], guard := none }) (v := ?_) rfl (by kernel_rfl) (by kernel_rfl) (by kernel_rfl) (fun _ _ _ h => h) (Or.inl ⟨by rfl, ?_⟩) (by assumption) ?_
  rotate_left
  focus ((intro w hSw; (try dsimp only at hSw); clear hSw; go_simp) <;> (with_reducible rfl))
  try simp only [Act.put, List.setIfInBounds_toArray, List.set_cons_zero, List.set_cons_succ]
  refine wpAnyH_done (by kernel_rfl) ?_ _
  clear H1 P1 C1 F1 R1
  have HXB : Hid ((X.alloc (.cells #[.int .i64 b0, .slice b1 b2 b3] 73)).drew.heap[X.heap.size]? = some (.cells #[.int .i64 b0, .slice b1 b2 b3] 73)) := heap_alloc_new X _
  generalize (X.alloc (.cells #[.int .i64 b0, .slice b1 b2 b3] 73)).drew = V5 at hHeld HXB ⊢
  obtain ⟨xb, Hxb⟩ : ∃ xb, Hid (xb = X.heap.size) := ⟨_, rfl⟩
  rw [← Hxb.out] at HXB ⊢
  have H5 := Lib.hid hHeld.1
  have P5 := Lib.hid hHeld.2.1
  have C5 := Lib.hid hHeld.2.2.1
  have R5 := Lib.hid hHeld.2.2.2.1
  have F5 := Lib.hid hHeld.2.2.2.2
  have Hxw : Hid (w.heap.size ≤ xb) := by show _ ≤ _; rw [Hxb.out]; exact hXs.out
  clear hHeld Hxb
  obtain rfl : bo = false := by rw [Hbo.out, hn]; rfl
  clear Hbo Hbw hn
  have LX : Hid (_ = some pkz) := R5.out
  obtain ⟨r0, r1, r2, r3, r4, r5, r6, r7, r8, r9, r10, r11, r12, r13⟩ := cells14 LX.out
  have f0 := lies_frozen LX.out 0
  have f1 := lies_frozen LX.out 1
  have f2 := lies_frozen LX.out 2
  have f3 := lies_frozen LX.out 3
  have f4 := lies_frozen LX.out 4
  have f5 := lies_frozen LX.out 5
  have f6 := lies_frozen LX.out 6
  have f7 := lies_frozen LX.out 7
  have f8 := lies_frozen LX.out 8
  have f9 := lies_frozen LX.out 9
  have f10 := lies_frozen LX.out 10
  have f11 := lies_frozen LX.out 11
  have f12 := lies_frozen LX.out 12
  have f13 := lies_frozen LX.out 13
  go_wp2
  (try simp only [Exit.inBlock, Exit.then])
  obtain ⟨k0, k1, k2, k3, k4, k5, k6, k7, k8, k9, k10, k11, k12, k13, _⟩ := read_14 (y0 := .int .i64 0) (y1 := .bool false) (y2 := .int .i64 0) (y3 := .int .i64 0) (y4 := .int .i64 0) (y5 := .int .u8 0) (y6 := .int .u8 0) (y7 := .int .u8 0) (y8 := .int .u8 0) (y9 := .int .u8 0) (y10 := .int .u8 0) (y11 := .int .u8 0) (y12 := .int .u8 0) (y13 := .string ⟨#[]⟩) LX.out
  refine bodyPost_ret (by simp [results, Try.results24, go_sem, k0, k1, k2, k3, k4, k5, k6, k7, k8, k9, k10, k11, k12, k13]; try rfl) rfl ?_
  exact ⟨rfl, stored_14 ⟨_, _, _, _, _, H5.out⟩ F5.out Hrbb.out.1 Hrbb.out.2 LX.out _ _ _ _ _ _ _ _ _ _ _ _ _ _⟩
end Go.Proofs.Ytgdjcoodjdckkaa
/- What goOn does to a table: bytes are put behind those of a Key. -/
set_option maxRecDepth 100000
namespace Go.Proofs.Ytgdjcoodjdckkaa
open Go.RowKit Go.Proofs.PitotIp Go.Maps
open Go.Proofs.PitotReasm (Bg Tb Fine bad first next more)
open Go.Proofs.Ytgdjcoodjdckkaa.Bi (lies_lt lies_cell lies_frozen lies_alloc lies_set)

theorem wpList_bytes_more {base : Nat} {w : World} {ops : Array Oper} {rest : List Oper} {o : Oper} {a : Act} {Q : Exit → Act → World → Prop} (hgd : o.guard = none) (s x : Operand)
    (ho : o.op = .call { callee := .builtin .append, args := #[s, x], argTypes := #[71, 9] }) (v : Value) (l : List UInt8) (str : ByteArray) (hs : a.eval s = v) (hx : a.eval x = .string str)
    (hB : BytesAt base w v l) (hb : base ≤ w.heap.size) (hn : l.length + str.size ≤ 1000000)
    (h : ∀ v' w', BytesAt base w' v' (l ++ str.data.toList) → BytesAt base w' v l → w.grownBy w' v.ownBlock → (v'.ownBlock = v.ownBlock ∨ v'.ownBlock = some w.heap.size) → wpList Try.prog ops Q rest (a.put o.dst v') w') : wpList Try.prog ops Q (o :: rest) a w :=
  wpList_plain hgd fun _ hK => by
    obtain ⟨v', w', hr, h1, h2, h3, h4⟩ := bytes_more hB str o.type hb hn
    unfold Oper.wp execOp
    simp only [ho, resolve, invoke, builtin, Sem.run_bind, Sem.run_pure, Result.andThen_ok, List.map_toArray, List.map_cons, List.map_nil, hs, hx, hr]
    exact hK _ _ (h v' w' h1 h2 h3 h4)

theorem find_self {l : List (Bg K UInt8)} {c : Bg K UInt8} (hn : (l.map (·.k)).Nodup) (hc : c ∈ l) : find l c.k = some c := by
  induction l with
  | nil => cases hc
  | cons d r ih =>
    rw [List.map_cons, List.nodup_cons] at hn
    rw [find, PitotReasm.find_cons]
    rcases List.mem_cons.1 hc with h | h
    · subst h; rw [if_pos rfl]
    · rw [if_neg (fun e => hn.1 (List.mem_map.2 ⟨c, h, e.symm⟩))]
      exact ih hn.2 h

theorem Tab.grow {base : Nat} {w w' : World} {p : Nat} {most wait : Int} {t : Tb K UInt8} {mb n : Nat} {D : DataW Value} {ov : Value} {dv : K → Value} (h : Tab base w p most wait t mb n D ov dv) (hf : Fine t.l) {k : K} {b : Bg K UInt8} (hb : find t.l k = some b)
    (hB : BytesAt base w' (dv k) b.d) (hg : w.grownBy w' (dv k).ownBlock) : Tab base w' p most wait t mb n D ov dv ∧ Fr base w w' := by
  have hbb := h.bytes b (find_mem hb).1
  rw [(find_mem hb).2] at hbb
  obtain ⟨g, cs, fz, e, hbg, hk⟩ := hbb.block
  rw [e] at hg
  refine ⟨⟨h.hp, h.hm, (hg.block p h.lt.1 ?_).trans h.tab, h.map.kept hg ?_, h.rep, h.size, h.row.kept hg ?_, fun c hc => ?_, h.apart⟩, Fr.grown hg hbg h.lt.2.2 hk (.inr (.inr rfl))⟩
  · intro e; injection e with e; subst e
    have := h.tab; rw [hk] at this; injection this with this; injection this with _ e2; exact absurd e2 (by decide)
  · intro e; injection e with e; subst e
    obtain ⟨es, cl, hm, _⟩ := h.map
    rw [hk] at hm; cases hm
  · rcases h.row.2 with ⟨e, _⟩ | ⟨g', cap, cur, e, _, hcur, _⟩
    · left; rw [e]; rfl
    · right
      rw [e]
      intro e2
      simp [Value.ownBlock] at e2
      subst e2
      rw [hk] at hcur; injection hcur with hcur; injection hcur with _ e2; exact absurd e2 (by decide)
  · by_cases ek : c.k = k
    · have hc2 := find_self hf.once hc
      rw [ek, hb] at hc2
      injection hc2 with hc2
      subst hc2
      rw [ek]; exact hB
    · refine (h.bytes c hc).kept hg ?_
      have := h.apart c hc b (find_mem hb).1 (by rw [(find_mem hb).2]; exact ek)
      rw [(find_mem hb).2, e] at this
      exact this

theorem find_more (l : List (Bg K UInt8)) (k x : K) (d : List UInt8) (b : Bg K UInt8) (hb : find l k = some b) : find (more l k d) x = if x = k then some { b with d := b.d ++ d } else find l x := by
  by_cases e : x = k
  · subst e; rw [if_pos rfl]; exact PitotReasm.find_more_self hb d
  · rw [if_neg e]; exact PitotReasm.find_more_other l (fun h => e h.symm) d

theorem Tab.on {base : Nat} {V w4 : World} {p : Nat} {most wait : Int} {t : Tb K UInt8} {mb n : Nat} {D : DataW Value} {ov v' : Value} {dv : K → Value} {k : K} {b : Bg K UInt8} {d : List UInt8} (h : Tab base V p most wait t mb n D ov dv) (hf : Fine t.l) (hb : find t.l k = some b)
    (hB : BytesAt base V v' (b.d ++ d)) (hv : v'.ownBlock = (dv k).ownBlock ∨ ∀ c ∈ t.l, (dv c.k).ownBlock ≠ v'.ownBlock) (hT : V.mapTurned w4 mb) (hO : w4.ownsMap Try.prog 52 HE mb (n + 1) (D.put (kl k) (.held (.agg #[.int .i64 b.t0, v'])))) :
    Tab base w4 p most wait ⟨PitotReasm.more t.l k d, t.now, t.dr⟩ mb (n + 1) (D.put (kl k) (.held (.agg #[.int .i64 b.t0, v']))) ov (upd dv k v') ∧ Fr base V w4 := by
  have hlen : (PitotReasm.more t.l k d).length = t.l.length := by unfold PitotReasm.more; rw [List.length_map]
  have hsplit : ∀ c' ∈ PitotReasm.more t.l k d, (∃ c ∈ t.l, c.k = k ∧ c' = { c with d := c.d ++ d }) ∨ (c' ∈ t.l ∧ c'.k ≠ k) := fun c' hc' => by
    unfold PitotReasm.more at hc'
    obtain ⟨c, hc, rfl⟩ := List.mem_map.1 hc'
    by_cases e : c.k = k
    · left; exact ⟨c, hc, e, by rw [if_pos e]⟩
    · right; rw [if_neg e]; exact ⟨hc, e⟩
  refine ⟨⟨h.hp, h.hm, map_other hT h.tab (by intro _ _ e; cases e), hO, fun x => ?_, ?_, ?_, fun c' hc' => ?_, fun c1 h1 c2 h2 hne => ?_⟩, Fr.turned hT h.hm⟩
  · show Maps.has _ (kl x) = (find (PitotReasm.more t.l k d) x).isSome ∧ _ = DataW.held (bval (find (PitotReasm.more t.l k d) x) _)
    rw [find_more t.l k x d b hb]
    by_cases e : x = k
    · subst e
      rw [has_put_same h.map.isMap (kl_key x), atKey_put_same h.map.isMap (kl_key x), if_pos rfl, upd_same]
      exact ⟨rfl, rfl⟩
    · rw [has_put_other (fun h => e (kl_inj h)), atKey_put_other (fun h => e (kl_inj h)), if_neg e, upd_other dv v' e]
      exact h.rep x
  · show _ = (PitotReasm.more t.l k d).length
    rw [hlen, size_put (h.map.tidy law52), (h.rep k).1, hb]
    simp [h.size]
  · show World.ownsRow _ base 52 10 ov (PitotReasm.more t.l k d).length (flatK ((PitotReasm.more t.l k d).map (·.k)))
    rw [hlen, show (PitotReasm.more t.l k d).map (·.k) = t.l.map (·.k) from PitotReasm.more_keys t.l k d]
    exact row_kept h.row (Below.refl _ V) hT (grown_below (Below.refl _ w4) none)
  · rcases hsplit c' hc' with ⟨c, hc, ek, rfl⟩ | ⟨hc, ek⟩
    · simp only [ek, upd_same]
      have hc2 := find_self hf.once hc
      rw [ek, hb] at hc2
      injection hc2 with hc2
      subst hc2
      exact hB.of_block fun g cs fz _ e => map_other hT e (by intro _ _ e; cases e)
    · rw [upd_other dv v' ek]
      exact (h.bytes c' hc).of_block fun g cs fz _ e => map_other hT e (by intro _ _ e; cases e)
  · have key : ∀ c ∈ t.l, c.k ≠ k → (dv c.k).ownBlock ≠ v'.ownBlock := fun c hc ek => by
      rcases hv with hv | hv
      · rw [hv]
        have := h.apart c hc b (find_mem hb).1 (by rw [(find_mem hb).2]; exact ek)
        rwa [(find_mem hb).2] at this
      · exact hv c hc
    rcases hsplit c1 h1 with ⟨c, hc, ek, rfl⟩ | ⟨hc, ek⟩ <;> rcases hsplit c2 h2 with ⟨c', hc', ek', rfl⟩ | ⟨hc', ek'⟩
    · exact absurd (ek.trans ek'.symm) hne
    · simp only [ek, upd_same]
      rw [upd_other dv v' ek']
      exact fun e => key c2 hc' ek' e.symm
    · simp only [ek', upd_same]
      rw [upd_other dv v' ek]
      exact key c1 hc ek
    · rw [upd_other dv v' ek, upd_other dv v' ek']
      exact h.apart c1 hc c2 hc' hne
end Go.Proofs.Ytgdjcoodjdckkaa
/- Contract of goOn: a part that is wrong. -/
set_option maxRecDepth 100000
namespace Go.Proofs.Ytgdjcoodjdckkaa
open Go.RowKit Go.Proofs.PitotIp Go.Maps
open Go.Proofs.PitotReasm (Bg Tb Fine bad first next)
open Go.Proofs.Ytgdjcoodjdckkaa.Bi (lies_lt lies_cell lies_frozen lies_alloc lies_set)

set_option maxHeartbeats 4000000 in
theorem goOn_bad {base : Nat} {w : World} {tp : Nat} {most : Nat} {wait : Int} {t : Tb K UInt8} (h : TabAt base w tp most wait t) (hG : Good most t) (hmost : most ≤ 64) (hdr : t.dr ≤ 100000000000) (p : Pk) (hw : p.Wf) (hs : p.s.size ≤ 1000000000) (b : Bg K UInt8) (hf : find t.l (p.key hw) = some b) (hj : jr p b.d.length ≠ 0) :
    Calls Try.prog 24 #[.pointer (some ⟨tp, 0, none⟩), p.val] w fun e w' => e = .returned (ans p (next t (p.key hw) p.m p.off p.d).2.1 (next t (p.key hw) p.m p.off p.d).2.2) ∧ TabAt base w' tp most wait (next t (p.key hw) p.m p.off p.d).1 ∧ Fr base w w' := by
  rw [next_bad hG.fine hf hj]
  have HJD := fun w => judge_part p b.d.length hs (hG.lens b (find_mem hf).1) w
  obtain ⟨J, HJ⟩ : ∃ J, Hid (jr p b.d.length = J) := ⟨_, rfl⟩
  rw [HJ.out] at HJD hj ⊢
  obtain ⟨mb, n, D, ov, dv, h⟩ := h
  have hbase := h.lt.2.2
  have HK := fun w => keyOf_any p hw w
  obtain ⟨k, Hk⟩ : ∃ k, Hid (k = p.key hw) := ⟨_, rfl⟩
  simp only [← Hk.out] at HK hf ⊢
  have HK := Lib.hid HK
  have HT := Lib.hid h; clear h
  have HG := Lib.hid hG; clear hG
  simp only [K.val] at HK
  go_enter Try.func24, Try.ntmps24
  go_upto_region 2 with (first
    | (go_at_call 38; (with_reducible refine (HK.out _).mono ?_); rintro e w2 ⟨rfl, hb2⟩))
  have k1 := ((Below.refl w.heap.size w).alloc (Nat.le_refl _) p.obj)
  have k1b := k1.alloc k1.size pkz
  have hb3 : Below w.heap.size w (w2.alloc k.obj) := by
    have k2 := k1b.trans (hb2.mono k1b.size)
    exact k2.alloc k2.size _
  have H1 : Hid (Tab base (w2.alloc k.obj) tp most wait t mb n D ov dv) := HT.out.below hb3
  have P1 : Hid ((w2.alloc k.obj).heap[w.heap.size]? = some p.obj) := lies_alloc (lies_below (lies_alloc (heap_alloc_new w _) _) hb2 (by simp; omega)) _
  have R1 : Hid ((w2.alloc k.obj).heap[w.heap.size + 1]? = some pkz) := by
    have e := heap_alloc_new (w.alloc p.obj) pkz
    rw [World.size_alloc] at e
    exact lies_alloc (lies_below e hb2 (by simp)) _
  have C1 : Hid ((w2.alloc k.obj).heap[w2.heap.size]? = some k.obj) := heap_alloc_new w2 _
  have F1 : Hid (Fr base w (w2.alloc k.obj)) := Fr.of hb3 hbase
  obtain ⟨pb, Hpb⟩ : ∃ pb, Hid (pb = w.heap.size) := ⟨_, rfl⟩
  obtain ⟨rb, Hrb⟩ : ∃ rb, Hid (rb = w.heap.size + 1) := ⟨_, rfl⟩
  obtain ⟨kb, Hkb⟩ : ∃ kb, Hid (kb = w2.heap.size) := ⟨_, rfl⟩
  rw [← Hrb.out] at R1
  (try rw [World.size_alloc])
  rw [← Hrb.out]
  rw [← Hpb.out] at P1 ⊢
  rw [← Hkb.out] at C1 ⊢
  generalize w2.alloc k.obj = X at H1 P1 R1 C1 F1 ⊢
  have Hpr : Hid (pb ≠ rb) := by show _ ≠ _; rw [Hpb.out, Hrb.out]; omega
  have Hrbb : Hid (base ≤ w.heap.size ∧ w.heap.size ≤ rb) := ⟨hbase, by rw [Hrb.out]; omega⟩
  have hkf : Hid (some kb ≠ ov.ownBlock) := by
    show _ ≠ _
    intro e
    rcases HT.out.row.2 with ⟨e1, _⟩ | ⟨g, cap, cur, e1, _, hcur, _⟩
    · rw [e1] at e; cases e
    · rw [e1] at e
      simp only [Value.ownBlock, Option.some.injEq] at e
      have := (Array.getElem?_eq_some_iff.1 hcur).1
      have h2 := hb2.size
      simp only [World.size_alloc] at h2
      rw [Hkb.out] at e; omega
  have Hpw : Hid (w.heap.size ≤ pb) := by show _ ≤ _; rw [Hpb.out]; omega
  have hXs : Hid (w.heap.size ≤ X.heap.size) := F1.out.below.size
  clear HT hb2 hb3 k1 k1b Hpb Hrb Hkb hbase
  obtain ⟨bo, Hbo⟩ : ∃ bo, Hid (bo = (find t.l k).isSome) := ⟨_, rfl⟩
  obtain ⟨b0, b1, b2, b3, Hbw⟩ : ∃ b0 b1 b2 b3, Hid (bval (find t.l k) (dv k) = .agg #[.int .i64 b0, .slice b1 b2 b3]) := by
    cases hf : find t.l k with
    | none => exact ⟨0, none, 0, 0, rfl⟩
    | some b =>
      obtain ⟨g, cap, e, _⟩ := (H1.out.bytes b (find_mem hf).1).form
      rw [(find_mem hf).2] at e
      exact ⟨b.t0, some ⟨g, 0, none⟩, b.d.length, cap, by show _ = _; rw [bval, e]⟩
  go_upto_region 2 with (fail)
  refine wp_region_held_drew (S := fun w' => Tab base w' tp most wait t mb n D ov dv ∧ w'.heap[pb]? = some p.obj ∧ w'.heap[kb]? = some k.obj ∧ w'.heap[rb]? = some pkz ∧ Fr base w w') (by kernel_rfl) ?_ (fun hHeld => ?_)
  · exact ⟨H1.out.drewN 1, P1.out, C1.out, R1.out, F1.out.drew⟩
  refine wpAnyH_take (i := 0) (oi := { dst := some 14, op := Go.Op.move (Go.Operand.tmp 0), type := 23, pos := "reasm.go:92", after := #[], guard := none }) (v := ?_) rfl (by kernel_rfl) (by kernel_rfl) (by kernel_rfl) (fun _ _ _ h => h) (Or.inl ⟨by rfl, ?_⟩) (by assumption) ?_
  rotate_left
  focus ((intro w hSw; (try dsimp only at hSw); clear hSw; go_simp) <;> (with_reducible rfl))
  try simp only [Act.put, List.setIfInBounds_toArray, List.set_cons_zero, List.set_cons_succ]
  refine wpAnyH_take (i := 1) (oi := { dst := some 15, op := Go.Op.nilCheck (Go.Operand.tmp 14), type := 0, pos := "reasm.go:92", after := #[{ on := 0, ground := Go.Ground.data }], guard := none }) (v := ?_) rfl (by kernel_rfl) (by kernel_rfl) (by kernel_rfl) (fun _ _ _ h => h) (Or.inl ⟨by rfl, ?_⟩) (by assumption) ?_
  rotate_left
  focus ((intro w hSw; (try dsimp only at hSw); clear hSw; go_simp) <;> (with_reducible rfl))
  try simp only [Act.put, List.setIfInBounds_toArray, List.set_cons_zero, List.set_cons_succ]
  refine wpAnyH_take (i := 2) (oi := { dst := some 16, op := Go.Op.fieldAddr 70 (Go.Operand.tmp 15) 3, type := 0, pos := "reasm.go:92", after := #[{ on := 1, ground := Go.Ground.data }], guard := none }) (v := ?_) rfl (by kernel_rfl) (by kernel_rfl) (by kernel_rfl) (fun _ _ _ h => h) (Or.inl ⟨by rfl, ?_⟩) (by assumption) ?_
  rotate_left
  focus ((intro w hSw; (try dsimp only at hSw); clear hSw; go_simp) <;> (with_reducible rfl))
  try simp only [Act.put, List.setIfInBounds_toArray, List.set_cons_zero, List.set_cons_succ]
  refine wpAnyH_take (i := 3) (oi := { dst := some 17, op := Go.Op.load 68 (Go.Operand.tmp 16), type := 68, pos := "reasm.go:92", after := #[{ on := 2, ground := Go.Ground.data }], guard := none }) (v := ?_) rfl (by kernel_rfl) (by kernel_rfl) (by kernel_rfl) (fun _ _ _ h => h) (Or.inl ⟨by rfl, ?_⟩) (by assumption) ?_
  rotate_left
  focus ((intro w hSw; (try dsimp only at hSw); have hc : w.cell? ⟨tp, 3, none⟩ = some (.map (some mb)) := lies_cell hSw.1.tab 3; clear hSw; go_simp) <;> (with_reducible rfl))
  try simp only [Act.put, List.setIfInBounds_toArray, List.set_cons_zero, List.set_cons_succ]
  refine wpAnyH_take (i := 4) (oi := { dst := some 18, op := Go.Op.load 52 (Go.Operand.tmp 7), type := 52, pos := "reasm.go:92", after := #[], guard := none }) (v := ?_) rfl (by kernel_rfl) (by kernel_rfl) (by kernel_rfl) (fun _ _ _ h => h) (Or.inl ⟨by rfl, ?_⟩) (by assumption) ?_
  rotate_left
  focus ((intro w hSw; (try dsimp only at hSw); obtain ⟨c0, c1, c2, c3, c4, c5, c6, c7, c8, c9⟩ := cells10 hSw.2.2.1; simp only [Nat.zero_add] at c1 c2 c3 c4 c5 c6 c7 c8 c9; clear hSw; go_simp) <;> (with_reducible rfl))
  try simp only [Act.put, List.setIfInBounds_toArray, List.set_cons_zero, List.set_cons_succ]
  refine wpAnyH_take (i := 5) (oi := { dst := some 19, op := Go.Op.lookup 68 (Go.Operand.tmp 17) (Go.Operand.tmp 18) true, type := 90, pos := "reasm.go:92", after := #[{ on := 3, ground := Go.Ground.data }, { on := 4, ground := Go.Ground.data }], guard := none }) (v := ?_) rfl (by kernel_rfl) (by kernel_rfl) (by kernel_rfl) (fun _ _ _ h => h) (Or.inl ⟨by rfl, ?_⟩) (by assumption) ?_
  rotate_left
  focus ((intro w hSw; (try dsimp only at hSw); have hl := look_two hSw.1.map hSw.1.rep k; rw [← Hbo.out, Hbw.out] at hl; simp only [K.val] at hl; clear hSw; go_simp) <;> (with_reducible rfl))
  try simp only [Act.put, List.setIfInBounds_toArray, List.set_cons_zero, List.set_cons_succ]
  refine wpAnyH_take (i := 6) (oi := { dst := some 13, op := Go.Op.move (Go.Operand.tmp 19), type := 90, pos := "reasm.go:92", after := #[{ on := 5, ground := Go.Ground.data }], guard := none }) (v := ?_) rfl (by kernel_rfl) (by kernel_rfl) (by kernel_rfl) (fun _ _ _ h => h) (Or.inl ⟨by rfl, ?_⟩) (by assumption) ?_
  rotate_left
  focus ((intro w hSw; (try dsimp only at hSw); clear hSw; go_simp) <;> (with_reducible rfl))
  try simp only [Act.put, List.setIfInBounds_toArray, List.set_cons_zero, List.set_cons_succ]
  refine wpAnyH_take (i := 7) (oi := { dst := some 20, op := Go.Op.extract (Go.Operand.tmp 13) 0, type := 73, pos := "reasm.go:92", after := #[{ on := 6, ground := Go.Ground.data }], guard := none }) (v := ?_) rfl (by kernel_rfl) (by kernel_rfl) (by kernel_rfl) (fun _ _ _ h => h) (Or.inl ⟨by rfl, ?_⟩) (by assumption) ?_
  rotate_left
  focus ((intro w hSw; (try dsimp only at hSw); clear hSw; go_simp) <;> (with_reducible rfl))
  try simp only [Act.put, List.setIfInBounds_toArray, List.set_cons_zero, List.set_cons_succ]
  refine wpAnyH_take (i := 8) (oi := { dst := some 21, op := Go.Op.extract (Go.Operand.tmp 13) 1, type := 4, pos := "reasm.go:92", after := #[{ on := 6, ground := Go.Ground.data }, { on := 10, ground := Go.Ground.gcOnly Go.Departure.lateStores }], guard := none }) (v := ?_) rfl (by kernel_rfl) (by kernel_rfl) (by kernel_rfl) (fun _ _ _ h => h) (Or.inl ⟨by rfl, ?_⟩) (by assumption) ?_
  rotate_left
  focus ((intro w hSw; (try dsimp only at hSw); clear hSw; go_simp) <;> (with_reducible rfl))
  try simp only [Act.put, List.setIfInBounds_toArray, List.set_cons_zero, List.set_cons_succ]
  refine wpAnyH_ready (rs := [9]) (by kernel_rfl) (by simp) ?_
  refine AllReadyH.cons (o := { dst := some 8, op := Go.Op.alloc 73, type := 0, pos := "reasm.go:92", after := #[], guard := none }) rfl (fun K hK => ?_) AllReadyH.nil
  go_simp
  refine hK.out _ _ ?_ (fun hHeld => ?_)
  · exact ⟨hHeld.1.below ((Below.refl _ _).alloc (Nat.le_refl _) _), lies_alloc hHeld.2.1 _, lies_alloc hHeld.2.2.1 _, lies_alloc hHeld.2.2.2.1 _, hHeld.2.2.2.2.trans (Fr.of ((Below.refl _ _).alloc (Nat.le_refl _) _) hHeld.1.lt.2.2)⟩
  clear hK K
  try simp only [Act.put, List.setIfInBounds_toArray, List.set_cons_zero, List.set_cons_succ]
  refine wpAnyH_ready (rs := [10]) (by kernel_rfl) (by simp) ?_
  refine AllReadyH.cons (o := { dst := none, op := Go.Op.store 73 (Go.Operand.tmp 8) (Go.Operand.tmp 20), type := 0, pos := "reasm.go:92", after := #[{ on := 9, ground := Go.Ground.data }, { on := 7, ground := Go.Ground.data }, { on := 0, ground := Go.Ground.phase }, { on := 1, ground := Go.Ground.phase }, { on := 2, ground := Go.Ground.phase }, { on := 3, ground := Go.Ground.phase }, { on := 4, ground := Go.Ground.phase }, { on := 5, ground := Go.Ground.phase }, { on := 6, ground := Go.Ground.phase }, { on := 7, ground := Go.Ground.phase }, { on := 8, ground := Go.Ground.textOnly Go.Departure.lateStores }, { on := 9, ground := Go.Ground.phase }], guard := none }) rfl (fun K hK => ?_) AllReadyH.nil
  go_simp
  refine hK.out _ _ ?_ (fun hHeld => ?_)
  · exact ⟨(H1.out.below ((Below.refl _ X).alloc (Nat.le_refl _) _)).drewN 1, lies_alloc P1.out _, lies_alloc C1.out _, lies_alloc R1.out _, (F1.out.trans (Fr.of ((Below.refl _ X).alloc (Nat.le_refl _) _) H1.out.lt.2.2)).drew⟩
  clear hK K
  try simp only [Act.put, List.setIfInBounds_toArray, List.set_cons_zero, List.set_cons_succ]
  refine wpAnyH_take (i := 11) (oi := { dst := some 9, op := Go.Op.assign (Go.Operand.tmp 21), type := 4, pos := "reasm.go:92", after := #[{ on := 8, ground := Go.Ground.data }, { on := 10, ground := Go.Ground.chain }, { on := 0, ground := Go.Ground.phase }, { on := 1, ground := Go.Ground.phase }, { on := 2, ground := Go.Ground.phase }, { on := 3, ground := Go.Ground.phase }, { on := 4, ground := Go.Ground.phase }, { on := 5, ground := Go.Ground.phase }, { on := 6, ground := Go.Ground.phase }, { on := 7, ground := Go.Ground.phase }, { on := 8, ground := Go.Ground.phase }, { on := 9, ground := Go.Ground.phase }, { on := 10, ground := Go.Ground.phase }], guard := none }) (v := ?_) rfl (by kernel_rfl) (by kernel_rfl) (by kernel_rfl) (fun _ _ _ h => h) (Or.inl ⟨by rfl, ?_⟩) (by assumption) ?_
  rotate_left
  focus ((intro w hSw; (try dsimp only at hSw); clear hSw; go_simp) <;> (with_reducible rfl))
  try simp only [Act.put, List.setIfInBounds_toArray, List.set_cons_zero, List.set_cons_succ]
  refine wpAnyH_done (by kernel_rfl) ?_ _
  clear H1 P1 C1 F1 R1
  have HXB : Hid ((X.alloc (.cells #[.int .i64 b0, .slice b1 b2 b3] 73)).drew.heap[X.heap.size]? = some (.cells #[.int .i64 b0, .slice b1 b2 b3] 73)) := heap_alloc_new X _
  generalize (X.alloc (.cells #[.int .i64 b0, .slice b1 b2 b3] 73)).drew = V5 at hHeld HXB ⊢
  obtain ⟨xb, Hxb⟩ : ∃ xb, Hid (xb = X.heap.size) := ⟨_, rfl⟩
  rw [← Hxb.out] at HXB ⊢
  have H5 := Lib.hid hHeld.1
  have P5 := Lib.hid hHeld.2.1
  have C5 := Lib.hid hHeld.2.2.1
  have R5 := Lib.hid hHeld.2.2.2.1
  have F5 := Lib.hid hHeld.2.2.2.2
  have Hxw : Hid (w.heap.size ≤ xb) := by show _ ≤ _; rw [Hxb.out]; exact hXs.out
  clear hHeld Hxb
  obtain rfl : bo = true := by rw [Hbo.out, hf]; rfl
  clear Hbo
  obtain ⟨gd, cd, hdv, hgb, hcd, hgd⟩ := (H5.out.bytes b (find_mem hf).1).form
  rw [(find_mem hf).2] at hdv
  have Hbd : Hid (BytesAt base V5 (.slice b1 b2 b3) b.d) := by
    have e1 := H5.out.bytes b (find_mem hf).1
    have e2 := Hbw.out
    rw [hf] at e2
    simp only [bval, Value.agg.injEq, Array.mk.injEq, List.cons.injEq, and_true] at e2
    rw [(find_mem hf).2, e2.2] at e1
    exact e1
  have Hdv : Hid (dv k = .slice b1 b2 b3 ∧ b.t0 = b0 ∧ b1 = some ⟨gd, 0, none⟩ ∧ b2 = b.d.length ∧ b3 = cd) := by
    have e2 := Hbw.out
    rw [hf] at e2
    simp only [bval, Value.agg.injEq, Array.mk.injEq, List.cons.injEq, and_true, Value.int.injEq, true_and] at e2
    refine ⟨e2.2, e2.1, ?_⟩
    rw [hdv] at e2
    simp only [Value.slice.injEq] at e2
    exact ⟨e2.2.1.symm, e2.2.2.1.symm, e2.2.2.2.symm⟩
  clear Hbw hdv
  obtain ⟨Z, HZ⟩ : ∃ Z, Hid (Z = b.d.length) := ⟨_, rfl⟩
  obtain rfl : b1 = some ⟨gd, 0, none⟩ := Hdv.out.2.2.1
  obtain rfl : b2 = Z := Hdv.out.2.2.2.1.trans HZ.out.symm
  obtain rfl : b3 = cd := Hdv.out.2.2.2.2
  rw [← HZ.out] at HJD
  have HJD := Lib.hid HJD
  have hZ : b2 ≤ 8200 := by rw [HZ.out]; exact HG.out.lens b (find_mem hf).1
  have HF := Lib.hid hf; clear hf
  have hx1 : V5.cell? ⟨xb, 1, none⟩ = some (.slice (some ⟨gd, 0, none⟩) b2 b3) := lies_cell HXB.out 1
  obtain ⟨d0, d1, d2, d3, d4, d5, d6, d7, d8, d9, d10, d11, d12, d13⟩ := cells14 P5.out
  have HGU : Hid (∀ V6, Tab base V6 tp most wait t mb n D ov dv → Calls Try.prog 23 #[.pointer (some ⟨tp, 0, none⟩), k.val] V6 fun e w' => e = .returned (.tuple #[]) ∧ TabAt base w' tp most wait ⟨drop t.l k, t.now, t.dr + 1⟩ ∧ Fr base V6 w' ∧ Fk ov V6 w') := fun V6 h => giveUp_tab h HG.out.fine (by omega) k b HF.out
  simp only [K.val] at HGU
  have hJ0 : (J != 0) = true := by simpa using hj
  have Hj := Lib.hid hj; clear hj
  go_upto_region 8 with (first
    | (go_at_call 39; (with_reducible refine (HJD.out _).mono ?_); rintro e V6 ⟨rfl, hb6⟩
       (clear hx1 d0 d1 d2 d3 d4 d5 d6 d7 d8 d9 d10 d11 d12 d13)
       (have H6 : Hid (Tab base V6 tp most wait t mb n D ov dv) := H5.out.below hb6)
       (have P6 : Hid (V6.heap[pb]? = some p.obj) := lies_below P5.out hb6 (lies_lt P5.out))
       (have C6 : Hid (V6.heap[kb]? = some k.obj) := lies_below C5.out hb6 (lies_lt C5.out))
       (have R6 : Hid (V6.heap[rb]? = some pkz) := lies_below R5.out hb6 (lies_lt R5.out))
       (have F6 : Hid (Fr base w V6) := F5.out.trans (Fr.of hb6 H5.out.lt.2.2))
       (have X6 : Hid (V6.heap[xb]? = some (.cells #[.int .i64 b0, .slice (some ⟨gd, 0, none⟩) b2 b3] 73)) := lies_below HXB.out hb6 (lies_lt HXB.out))
       (have B6 : Hid (BytesAt base V6 (.slice (some ⟨gd, 0, none⟩) b2 b3) b.d) := Hbd.out.kept (grown_below hb6 none) (by simp [Value.ownBlock]))
       (clear H5 P5 C5 R5 F5 HXB Hbd hb6)
       (obtain ⟨c0, c1, c2, c3, c4, c5, c6, c7, c8, c9⟩ := cells10 C6.out)
       (simp only [Nat.zero_add] at c1 c2 c3 c4 c5 c6 c7 c8 c9))
    | (go_at_call 23; (with_reducible refine (HGU.out _ H6.out).mono ?_); rintro e V7 ⟨rfl, hH, hF, hKk⟩
       (have R7 : Hid (V7.heap[rb]? = some pkz) := hF.kind _ _ _ _ (by decide) (by decide) (by decide) R6.out)
       (have F7 : Hid (Fr base w V7) := F6.out.trans hF)
       (have H7 := Lib.hid hH)
       (clear hH hF hKk c0 c1 c2 c3 c4 c5 c6 c7 c8 c9)))
  have LX : Hid (_ = some pkz) := R7.out
  obtain ⟨r0, r1, r2, r3, r4, r5, r6, r7, r8, r9, r10, r11, r12, r13⟩ := cells14 LX.out
  have f0 := lies_frozen LX.out 0
  have f1 := lies_frozen LX.out 1
  have f2 := lies_frozen LX.out 2
  have f3 := lies_frozen LX.out 3
  have f4 := lies_frozen LX.out 4
  have f5 := lies_frozen LX.out 5
  have f6 := lies_frozen LX.out 6
  have f7 := lies_frozen LX.out 7
  have f8 := lies_frozen LX.out 8
  have f9 := lies_frozen LX.out 9
  have f10 := lies_frozen LX.out 10
  have f11 := lies_frozen LX.out 11
  have f12 := lies_frozen LX.out 12
  have f13 := lies_frozen LX.out 13
  go_wp2
  (try simp only [Exit.inBlock, Exit.then])
  obtain ⟨k0, k1, k2, k3, k4, k5, k6, k7, k8, k9, k10, k11, k12, k13, _⟩ := read_14 (y0 := .int .i64 0) (y1 := .bool false) (y2 := .int .i64 0) (y3 := .int .i64 0) (y4 := .int .i64 0) (y5 := .int .u8 0) (y6 := .int .u8 0) (y7 := .int .u8 0) (y8 := .int .u8 0) (y9 := .int .u8 0) (y10 := .int .u8 0) (y11 := .int .u8 0) (y12 := .int .u8 0) (y13 := .string ⟨#[]⟩) LX.out
  refine bodyPost_ret (by simp [results, Try.results24, go_sem, k0, k1, k2, k3, k4, k5, k6, k7, k8, k9, k10, k11, k12, k13]; try rfl) rfl ?_
  exact ⟨rfl, stored_14 H7.out F7.out Hrbb.out.1 Hrbb.out.2 LX.out _ _ _ _ _ _ _ _ _ _ _ _ _ _⟩
end Go.Proofs.Ytgdjcoodjdckkaa
/- Small facts for goOn. -/
set_option maxRecDepth 100000
namespace Go.Proofs.Ytgdjcoodjdckkaa
open Go.RowKit Go.Proofs.PitotIp Go.Maps
open Go.Proofs.PitotReasm (Bg Tb Fine)
open Go.Proofs.Ytgdjcoodjdckkaa.Bi (lies_lt lies_cell lies_frozen lies_alloc lies_set)

theorem kept5 {base : Nat} {V6 V7 : World} {v : Value} {l : List UInt8} (hg : V6.grownBy V7 v.ownBlock) (hB : BytesAt base V6 v l) {kb : Nat} {cs : Array Value} {ty : TypeId} {fr : Nat × Nat} (hk : V6.heap[kb]? = some (Obj.cells cs ty fr)) (hty : ty ≠ 5) : V7.heap[kb]? = some (Obj.cells cs ty fr) := by
  obtain ⟨g, cur, fz, e, _, hcur⟩ := hB.block
  refine (hg.block kb (Array.getElem?_eq_some_iff.1 hk).1 ?_).trans hk
  rw [e]
  intro e2; injection e2 with e2; subst e2
  rw [hk] at hcur; injection hcur with hcur; injection hcur with _ e3; exact hty e3
theorem set_kind {W : World} {a b : Nat} {cs1 cs2 : Array Value} {t1 t2 : TypeId} {f1 f2 : Nat × Nat} (ha : W.heap[a]? = some (Obj.cells cs1 t1 f1)) (hb : W.heap[b]? = some (Obj.cells cs2 t2 f2)) (h : t1 ≠ t2) (i : Nat) (v : Value) : (W.setCell ⟨b, i, none⟩ v).heap[a]? = some (Obj.cells cs1 t1 f1) := by
  have hne : a ≠ b := fun e => by
    subst e; rw [ha] at hb; injection hb with hb; injection hb with _ e2; exact h e2
  exact (Below.heap_setCell W _ _ a hne).trans ha
theorem set_same {W : World} {b : Nat} {cs : Array Value} {t : TypeId} {f : Nat × Nat} (hb : W.heap[b]? = some (Obj.cells cs t f)) (i : Nat) (v : Value) : ∃ cs' fr, (W.setCell ⟨b, i, none⟩ v).heap[b]? = some (Obj.cells cs' t fr) := by
  refine ⟨cs.setIfInBounds i v, f, ?_⟩
  rw [setCell_eq_setRow W b i cs t f v hb]
  exact setRow_heap W b cs _ t f hb
theorem tight {base : Nat} {w : World} {p : Nat} {most wait : Int} {t : Tb K UInt8} {mb n : Nat} {D : DataW Value} {ov : Value} {dv : K → Value} (h : Tab base w p most wait t mb n D ov dv) : Tab base w p most wait t mb (Maps.size D) D ov dv := { h with map := map_tight h.map }
theorem row_ne {base : Nat} {w : World} {p : Nat} {most wait : Int} {t : Tb K UInt8} {mb n : Nat} {D : DataW Value} {ov : Value} {dv : K → Value} (h : Tab base w p most wait t mb n D ov dv) {g : Nat} {cs : Array Value} {ty : TypeId} {fr : Nat × Nat} (hg : w.heap[g]? = some (Obj.cells cs ty fr)) (hty : ty ≠ 52) : some g ≠ ov.ownBlock := by
  rcases h.row.2 with ⟨e, _⟩ | ⟨g', cap, cur, e, _, hcur, _⟩
  · rw [e]; simp [Value.ownBlock]
  · rw [e]
    intro e2
    simp [Value.ownBlock] at e2
    subst e2
    rw [hg] at hcur; injection hcur with hcur; injection hcur with _ e3; exact hty e3
end Go.Proofs.Ytgdjcoodjdckkaa
