/- Merged: Gn, Ge. -/
import Derived.Test.YtgdjcoodjdckkaaM6
set_option linter.unusedVariables false
/- Contract of goOn: a part behind which others come. -/
set_option maxRecDepth 100000
namespace Go.Proofs.Ytgdjcoodjdckkaa
open Go.RowKit Go.Proofs.PitotIp Go.Maps
open Go.Proofs.PitotReasm (Bg Tb Fine bad first next)
open Go.Proofs.Ytgdjcoodjdckkaa.Bi (lies_lt lies_cell lies_frozen lies_alloc lies_set)

set_option maxHeartbeats 4000000 in
theorem goOn_on {base : Nat} {w : World} {tp : Nat} {most : Nat} {wait : Int} {t : Tb K UInt8} (h : TabAt base w tp most wait t) (hG : Good most t) (hmost : most ≤ 64) (hdr : t.dr ≤ 100000000000) (p : Pk) (hw : p.Wf) (hs : p.s.size ≤ 1000000000) (b : Bg K UInt8) (hf : find t.l (p.key hw) = some b) (hj : jr p b.d.length = 0) (hm : p.m = true) :
    Calls Try.prog 24 #[.pointer (some ⟨tp, 0, none⟩), p.val] w fun e w' => e = .returned (ans p (next t (p.key hw) p.m p.off p.d).2.1 (next t (p.key hw) p.m p.off p.d).2.2) ∧ TabAt base w' tp most wait (next t (p.key hw) p.m p.off p.d).1 ∧ Fr base w w' := by
  rw [next_on hG.fine hf hj hm]
  have HJD := fun w => judge_part p b.d.length hs (hG.lens b (find_mem hf).1) w
  rw [hj] at HJD
  have hsz : b.d.length + p.s.size ≤ 8200 := (jr_zero_of hj).2.2
  have Hj := Lib.hid hj; clear hj
  have Hm := Lib.hid hm; clear hm
  obtain ⟨mb, n, D, ov, dv, h⟩ := h
  have hbase := h.lt.2.2
  have HK := fun w => keyOf_any p hw w
  obtain ⟨k, Hk⟩ : ∃ k, Hid (k = p.key hw) := ⟨_, rfl⟩
  simp only [← Hk.out] at HK hf ⊢
  have HK := Lib.hid HK
  have HT := Lib.hid h; clear h
  have HG := Lib.hid hG; clear hG
  simp only [K.val] at HK
  go_enter Try.func24, Try.ntmps24
  go_upto_region 2 with (first
    | (go_at_call 38; (with_reducible refine (HK.out _).mono ?_); rintro e w2 ⟨rfl, hb2⟩))
  have k1 := ((Below.refl w.heap.size w).alloc (Nat.le_refl _) p.obj)
  have k1b := k1.alloc k1.size pkz
  have hb3 : Below w.heap.size w (w2.alloc k.obj) := by
    have k2 := k1b.trans (hb2.mono k1b.size)
    exact k2.alloc k2.size _
  have H1 : Hid (Tab base (w2.alloc k.obj) tp most wait t mb n D ov dv) := HT.out.below hb3
  have P1 : Hid ((w2.alloc k.obj).heap[w.heap.size]? = some p.obj) := lies_alloc (lies_below (lies_alloc (heap_alloc_new w _) _) hb2 (by simp; omega)) _
  have R1 : Hid ((w2.alloc k.obj).heap[w.heap.size + 1]? = some pkz) := by
    have e := heap_alloc_new (w.alloc p.obj) pkz
    rw [World.size_alloc] at e
    exact lies_alloc (lies_below e hb2 (by simp)) _
  have C1 : Hid ((w2.alloc k.obj).heap[w2.heap.size]? = some k.obj) := heap_alloc_new w2 _
  have F1 : Hid (Fr base w (w2.alloc k.obj)) := Fr.of hb3 hbase
  obtain ⟨pb, Hpb⟩ : ∃ pb, Hid (pb = w.heap.size) := ⟨_, rfl⟩
  obtain ⟨rb, Hrb⟩ : ∃ rb, Hid (rb = w.heap.size + 1) := ⟨_, rfl⟩
  obtain ⟨kb, Hkb⟩ : ∃ kb, Hid (kb = w2.heap.size) := ⟨_, rfl⟩
  rw [← Hrb.out] at R1
  (try rw [World.size_alloc])
  rw [← Hrb.out]
  rw [← Hpb.out] at P1 ⊢
  rw [← Hkb.out] at C1 ⊢
  generalize w2.alloc k.obj = X at H1 P1 R1 C1 F1 ⊢
  have Hpr : Hid (pb ≠ rb) := by show _ ≠ _; rw [Hpb.out, Hrb.out]; omega
  have Hrbb : Hid (base ≤ w.heap.size ∧ w.heap.size ≤ rb) := ⟨hbase, by rw [Hrb.out]; omega⟩
  have hkf : Hid (some kb ≠ ov.ownBlock) := by
    show _ ≠ _
    intro e
    rcases HT.out.row.2 with ⟨e1, _⟩ | ⟨g, cap, cur, e1, _, hcur, _⟩
    · rw [e1] at e; cases e
    · rw [e1] at e
      simp only [Value.ownBlock, Option.some.injEq] at e
      have := (Array.getElem?_eq_some_iff.1 hcur).1
      have h2 := hb2.size
      simp only [World.size_alloc] at h2
      rw [Hkb.out] at e; omega
  have Hpw : Hid (w.heap.size ≤ pb) := by show _ ≤ _; rw [Hpb.out]; omega
  have hXs : Hid (w.heap.size ≤ X.heap.size) := F1.out.below.size
  clear HT hb2 hb3 k1 k1b Hpb Hrb Hkb hbase
  obtain ⟨bo, Hbo⟩ : ∃ bo, Hid (bo = (find t.l k).isSome) := ⟨_, rfl⟩
  obtain ⟨b0, b1, b2, b3, Hbw⟩ : ∃ b0 b1 b2 b3, Hid (bval (find t.l k) (dv k) = .agg #[.int .i64 b0, .slice b1 b2 b3]) := by
    cases hf : find t.l k with
    | none => exact ⟨0, none, 0, 0, rfl⟩
    | some b =>
      obtain ⟨g, cap, e, _⟩ := (H1.out.bytes b (find_mem hf).1).form
      rw [(find_mem hf).2] at e
      exact ⟨b.t0, some ⟨g, 0, none⟩, b.d.length, cap, by show _ = _; rw [bval, e]⟩
  go_upto_region 2 with (fail)
  refine wp_region_held_drew (S := fun w' => Tab base w' tp most wait t mb n D ov dv ∧ w'.heap[pb]? = some p.obj ∧ w'.heap[kb]? = some k.obj ∧ w'.heap[rb]? = some pkz ∧ Fr base w w') (by kernel_rfl) ?_ (fun hHeld => ?_)
  · exact ⟨H1.out.drewN 1, P1.out, C1.out, R1.out, F1.out.drew⟩
  refine wpAnyH_take (i := 0) (oi := { dst := some 14, op := Go.Op.move (Go.Operand.tmp 0), type := 23, pos := "reasm.go:92", after := #[], guard := none }) (v := ?_) rfl (by kernel_rfl) (by kernel_rfl) (by kernel_rfl) (fun _ _ _ h => h) (Or.inl ⟨by rfl, ?_⟩) (by assumption) ?_
  rotate_left
  focus ((intro w hSw; (try dsimp only at hSw); clear hSw; go_simp) <;> (with_reducible rfl))
  try simp only [Act.put, List.setIfInBounds_toArray, List.set_cons_zero, List.set_cons_succ]
  refine wpAnyH_take (i := 1) (oi := { dst := some 15, op := Go.Op.nilCheck (Go.Operand.tmp 14), type := 0, pos := "reasm.go:92", after := #[{ on := 0, ground := Go.Ground.data }], guard := none }) (v := ?_) rfl (by kernel_rfl) (by kernel_rfl) (by kernel_rfl) (fun _ _ _ h => h) (Or.inl ⟨by rfl, ?_⟩) (by assumption) ?_
  rotate_left
  focus ((intro w hSw; (try dsimp only at hSw); clear hSw; go_simp) <;> (with_reducible rfl))
  try simp only [Act.put, List.setIfInBounds_toArray, List.set_cons_zero, List.set_cons_succ]
  refine wpAnyH_take (i := 2) (oi := { dst := some 16, op := Go.Op.fieldAddr 70 (Go.Operand.tmp 15) 3, type := 0, pos := "reasm.go:92", after := #[{ on := 1, ground := Go.Ground.data }], guard := none }) (v := ?_) rfl (by kernel_rfl) (by kernel_rfl) (by kernel_rfl) (fun _ _ _ h => h) (Or.inl ⟨by rfl, ?_⟩) (by assumption) ?_
  rotate_left
  focus ((intro w hSw; (try dsimp only at hSw); clear hSw; go_simp) <;> (with_reducible rfl))
  try simp only [Act.put, List.setIfInBounds_toArray, List.set_cons_zero, List.set_cons_succ]
  refine wpAnyH_take (i := 3) (oi := { dst := some 17, op := Go.Op.load 68 (Go.Operand.tmp 16), type := 68, pos := "reasm.go:92", after := #[{ on := 2, ground := Go.Ground.data }], guard := none }) (v := ?_) rfl (by kernel_rfl) (by kernel_rfl) (by kernel_rfl) (fun _ _ _ h => h) (Or.inl ⟨by rfl, ?_⟩) (by assumption) ?_
  rotate_left
  focus ((intro w hSw; (try dsimp only at hSw); have hc : w.cell? ⟨tp, 3, none⟩ = some (.map (some mb)) := lies_cell hSw.1.tab 3; clear hSw; go_simp) <;> (with_reducible rfl))
  try simp only [Act.put, List.setIfInBounds_toArray, List.set_cons_zero, List.set_cons_succ]
  refine wpAnyH_take (i := 4) (oi := { dst := some 18, op := Go.Op.load 52 (Go.Operand.tmp 7), type := 52, pos := "reasm.go:92", after := #[], guard := none }) (v := ?_) rfl (by kernel_rfl) (by kernel_rfl) (by kernel_rfl) (fun _ _ _ h => h) (Or.inl ⟨by rfl, ?_⟩) (by assumption) ?_
  rotate_left
  focus ((intro w hSw; (try dsimp only at hSw); obtain ⟨c0, c1, c2, c3, c4, c5, c6, c7, c8, c9⟩ := cells10 hSw.2.2.1; simp only [Nat.zero_add] at c1 c2 c3 c4 c5 c6 c7 c8 c9; clear hSw; go_simp) <;> (with_reducible rfl))
  try simp only [Act.put, List.setIfInBounds_toArray, List.set_cons_zero, List.set_cons_succ]
  refine wpAnyH_take (i := 5) (oi := { dst := some 19, op := Go.Op.lookup 68 (Go.Operand.tmp 17) (Go.Operand.tmp 18) true, type := 90, pos := "reasm.go:92", after := #[{ on := 3, ground := Go.Ground.data }, { on := 4, ground := Go.Ground.data }], guard := none }) (v := ?_) rfl (by kernel_rfl) (by kernel_rfl) (by kernel_rfl) (fun _ _ _ h => h) (Or.inl ⟨by rfl, ?_⟩) (by assumption) ?_
  rotate_left
  focus ((intro w hSw; (try dsimp only at hSw); have hl := look_two hSw.1.map hSw.1.rep k; rw [← Hbo.out, Hbw.out] at hl; simp only [K.val] at hl; clear hSw; go_simp) <;> (with_reducible rfl))
  try simp only [Act.put, List.setIfInBounds_toArray, List.set_cons_zero, List.set_cons_succ]
  refine wpAnyH_take (i := 6) (oi := { dst := some 13, op := Go.Op.move (Go.Operand.tmp 19), type := 90, pos := "reasm.go:92", after := #[{ on := 5, ground := Go.Ground.data }], guard := none }) (v := ?_) rfl (by kernel_rfl) (by kernel_rfl) (by kernel_rfl) (fun _ _ _ h => h) (Or.inl ⟨by rfl, ?_⟩) (by assumption) ?_
  rotate_left
  focus ((intro w hSw; (try dsimp only at hSw); clear hSw; go_simp) <;> (with_reducible rfl))
  try simp only [Act.put, List.setIfInBounds_toArray, List.set_cons_zero, List.set_cons_succ]
  refine wpAnyH_take (i := 7) (oi := { dst := some 20, op := Go.Op.extract (Go.Operand.tmp 13) 0, type := 73, pos := "reasm.go:92", after := #[{ on := 6, ground := Go.Ground.data }], guard := none }) (v := ?_) rfl (by kernel_rfl) (by kernel_rfl) (by kernel_rfl) (fun _ _ _ h => h) (Or.inl ⟨by rfl, ?_⟩) (by assumption) ?_
  rotate_left
  focus ((intro w hSw; (try dsimp only at hSw); clear hSw; go_simp) <;> (with_reducible rfl))
  try simp only [Act.put, List.setIfInBounds_toArray, List.set_cons_zero, List.set_cons_succ]
  refine wpAnyH_take (i := 8) (oi := { dst := some 21, op := Go.Op.extract (Go.Operand.tmp 13) 1, type := 4, pos := "reasm.go:92", after := #[{ on := 6, ground := Go.Ground.data }, { on := 10, ground := Go.Ground.gcOnly Go.Departure.lateStores }], guard := none }) (v := ?_) rfl (by kernel_rfl) (by kernel_rfl) (by kernel_rfl) (fun _ _ _ h => h) (Or.inl ⟨by rfl, ?_⟩) (by assumption) ?_
  rotate_left
  focus ((intro w hSw; (try dsimp only at hSw); clear hSw; go_simp) <;> (with_reducible rfl))
  try simp only [Act.put, List.setIfInBounds_toArray, List.set_cons_zero, List.set_cons_succ]
  refine wpAnyH_ready (rs := [9]) (by kernel_rfl) (by simp) ?_
  refine AllReadyH.cons (o := { dst := some 8, op := Go.Op.alloc 73, type := 0, pos := "reasm.go:92", after := #[], guard := none }) rfl (fun K hK => ?_) AllReadyH.nil
  go_simp
  refine hK.out _ _ ?_ (fun hHeld => ?_)
  · exact ⟨hHeld.1.below ((Below.refl _ _).alloc (Nat.le_refl _) _), lies_alloc hHeld.2.1 _, lies_alloc hHeld.2.2.1 _, lies_alloc hHeld.2.2.2.1 _, hHeld.2.2.2.2.trans (Fr.of ((Below.refl _ _).alloc (Nat.le_refl _) _) hHeld.1.lt.2.2)⟩
  clear hK K
  try simp only [Act.put, List.setIfInBounds_toArray, List.set_cons_zero, List.set_cons_succ]
  refine wpAnyH_ready (rs := [10]) (by kernel_rfl) (by simp) ?_
  refine AllReadyH.cons (o := { dst := none, op := Go.Op.store 73 (Go.Operand.tmp 8) (Go.Operand.tmp 20), type := 0, pos := "reasm.go:92", after := #[{ on := 9, ground := Go.Ground.data }, { on := 7, ground := Go.Ground.data }, { on := 0, ground := Go.Ground.phase }, { on := 1, ground := Go.Ground.phase }, { on := 2, ground := Go.Ground.phase }, { on := 3, ground := Go.Ground.phase }, { on := 4, ground := Go.Ground.phase }, { on := 5, ground := Go.Ground.phase }, { on := 6, ground := Go.Ground.phase }, { on := 7, ground := Go.Ground.phase }, { on := 8, ground := Go.Ground.textOnly Go.Departure.lateStores }, { on := 9, ground := Go.Ground.phase }], guard := none }) rfl (fun K hK => ?_) AllReadyH.nil
  go_simp
  refine hK.out _ _ ?_ (fun hHeld => ?_)
  · exact ⟨(H1.out.below ((Below.refl _ X).alloc (Nat.le_refl _) _)).drewN 1, lies_alloc P1.out _, lies_alloc C1.out _, lies_alloc R1.out _, (F1.out.trans (Fr.of ((Below.refl _ X).alloc (Nat.le_refl _) _) H1.out.lt.2.2)).drew⟩
  clear hK K
  try simp only [Act.put, List.setIfInBounds_toArray, List.set_cons_zero, List.set_cons_succ]
  refine wpAnyH_take (i := 11) (oi := { dst := some 9, op := Go.Op.assign (Go.Operand.tmp 21), type := 4, pos := "reasm.go:92", after := #[{ on := 8, ground := Go.Ground.data }, { on := 10, ground := Go.Ground.chain }, { on := 0, ground := Go.Ground.phase }, { on := 1, ground := Go.Ground.phase }, { on := 2, ground := Go.Ground.phase }, { on := 3, ground := Go.Ground.phase }, { on := 4, ground := Go.Ground.phase }, { on := 5, ground := Go.Ground.phase }, { on := 6, ground := Go.Ground.phase }, { on := 7, ground := Go.Ground.phase }, { on := 8, ground := Go.Ground.phase }, { on := 9, ground := Go.Ground.phase }, { on := 10, ground := Go.Ground.phase }], guard := none }) (v := ?_) rfl (by kernel_rfl) (by kernel_rfl) (by kernel_rfl) (fun _ _ _ h => h) (Or.inl ⟨by rfl, ?_⟩) (by assumption) ?_
  rotate_left
  focus ((intro w hSw; (try dsimp only at hSw); clear hSw; go_simp) <;> (with_reducible rfl))
  try simp only [Act.put, List.setIfInBounds_toArray, List.set_cons_zero, List.set_cons_succ]
  refine wpAnyH_done (by kernel_rfl) ?_ _
  clear H1 P1 C1 F1 R1
  have HXB : Hid ((X.alloc (.cells #[.int .i64 b0, .slice b1 b2 b3] 73)).drew.heap[X.heap.size]? = some (.cells #[.int .i64 b0, .slice b1 b2 b3] 73)) := heap_alloc_new X _
  generalize (X.alloc (.cells #[.int .i64 b0, .slice b1 b2 b3] 73)).drew = V5 at hHeld HXB ⊢
  obtain ⟨xb, Hxb⟩ : ∃ xb, Hid (xb = X.heap.size) := ⟨_, rfl⟩
  rw [← Hxb.out] at HXB ⊢
  have H5 := Lib.hid hHeld.1
  have P5 := Lib.hid hHeld.2.1
  have C5 := Lib.hid hHeld.2.2.1
  have R5 := Lib.hid hHeld.2.2.2.1
  have F5 := Lib.hid hHeld.2.2.2.2
  have Hxw : Hid (w.heap.size ≤ xb) := by show _ ≤ _; rw [Hxb.out]; exact hXs.out
  clear hHeld Hxb
  obtain rfl : bo = true := by rw [Hbo.out, hf]; rfl
  clear Hbo
  obtain ⟨gd, cd, hdv, hgb, hcd, hgd⟩ := (H5.out.bytes b (find_mem hf).1).form
  rw [(find_mem hf).2] at hdv
  have Hbd : Hid (BytesAt base V5 (.slice b1 b2 b3) b.d) := by
    have e1 := H5.out.bytes b (find_mem hf).1
    have e2 := Hbw.out
    rw [hf] at e2
    simp only [bval, Value.agg.injEq, Array.mk.injEq, List.cons.injEq, and_true] at e2
    rw [(find_mem hf).2, e2.2] at e1
    exact e1
  have Hdv : Hid (dv k = .slice b1 b2 b3 ∧ b.t0 = b0 ∧ b1 = some ⟨gd, 0, none⟩ ∧ b2 = b.d.length ∧ b3 = cd) := by
    have e2 := Hbw.out
    rw [hf] at e2
    simp only [bval, Value.agg.injEq, Array.mk.injEq, List.cons.injEq, and_true, Value.int.injEq, true_and] at e2
    refine ⟨e2.2, e2.1, ?_⟩
    rw [hdv] at e2
    simp only [Value.slice.injEq] at e2
    exact ⟨e2.2.1.symm, e2.2.2.1.symm, e2.2.2.2.symm⟩
  clear Hbw hdv
  obtain ⟨Z, HZ⟩ : ∃ Z, Hid (Z = b.d.length) := ⟨_, rfl⟩
  obtain rfl : b1 = some ⟨gd, 0, none⟩ := Hdv.out.2.2.1
  obtain rfl : b2 = Z := Hdv.out.2.2.2.1.trans HZ.out.symm
  obtain rfl : b3 = cd := Hdv.out.2.2.2.2
  rw [← HZ.out] at HJD
  have HJD := Lib.hid HJD
  have hZ : b2 ≤ 8200 := by rw [HZ.out]; exact HG.out.lens b (find_mem hf).1
  have HF := Lib.hid hf; clear hf
  have hx1 : V5.cell? ⟨xb, 1, none⟩ = some (.slice (some ⟨gd, 0, none⟩) b2 b3) := lies_cell HXB.out 1
  obtain ⟨d0, d1, d2, d3, d4, d5, d6, d7, d8, d9, d10, d11, d12, d13⟩ := cells14 P5.out
  have hd1 : p.s.size ≤ 8200 := by omega
  have Hsz := Lib.hid hsz; clear hsz
  go_upto_region 9 with (first
    | (go_at_call 39; (with_reducible refine (HJD.out _).mono ?_); rintro e V6 ⟨rfl, hb6⟩
       (clear hx1 d0 d1 d2 d3 d4 d5 d6 d7 d8 d9 d10 d11 d12 d13)
       (have H6 : Hid (Tab base V6 tp most wait t mb n D ov dv) := H5.out.below hb6)
       (have P6 : Hid (V6.heap[pb]? = some p.obj) := lies_below P5.out hb6 (lies_lt P5.out))
       (have C6 : Hid (V6.heap[kb]? = some k.obj) := lies_below C5.out hb6 (lies_lt C5.out))
       (have R6 : Hid (V6.heap[rb]? = some pkz) := lies_below R5.out hb6 (lies_lt R5.out))
       (have F6 : Hid (Fr base w V6) := F5.out.trans (Fr.of hb6 H5.out.lt.2.2))
       (have X6 : Hid (V6.heap[xb]? = some (.cells #[.int .i64 b0, .slice (some ⟨gd, 0, none⟩) b2 b3] 73)) := lies_below HXB.out hb6 (lies_lt HXB.out))
       (have B6 : Hid (BytesAt base V6 (.slice (some ⟨gd, 0, none⟩) b2 b3) b.d) := Hbd.out.kept (grown_below hb6 none) (by simp [Value.ownBlock]))
       (clear H5 P5 C5 R5 F5 HXB Hbd hb6)
       (have x1 : V6.cell? ⟨xb, 1, none⟩ = some (.slice (some ⟨gd, 0, none⟩) b2 b3) := lies_cell X6.out 1)
       (have q13 : V6.cell? ⟨pb, 13, none⟩ = some (.string p.s) := lies_cell P6.out 13)))
  go_upto_region 10 with (first
    | (at_builtin; refine wpList_bytes_more (base := base) rfl _ _ rfl (.slice (some ⟨gd, 0, none⟩) b2 b3) b.d p.s (by rfl) (by rfl) B6.out H6.out.lt.2.2 (by rw [← HZ.out]; omega) ?_; intro v' V7 hB7 hBo hg7 hv7
       (have HB7 := Lib.hid hB7; have HBo := Lib.hid hBo; have HG7 := Lib.hid hg7; have HV7 := Lib.hid hv7)
       (clear hB7 hBo hg7 hv7 x1 q13)
       (have H7 : Hid (Tab base V7 tp most wait t mb n D ov dv ∧ Fr base V6 V7) := H6.out.grow HG.out.fine HF.out (by rw [Hdv.out.1]; exact HBo.out) (by rw [Hdv.out.1]; exact HG7.out))
       (have X7 : Hid (V7.heap[xb]? = some (.cells #[.int .i64 b0, .slice (some ⟨gd, 0, none⟩) b2 b3] 73)) := H7.out.2.kind _ _ _ _ (by decide) (by decide) (by decide) X6.out)
       (have P7 : Hid (V7.heap[pb]? = some p.obj) := H7.out.2.kind _ _ _ _ (by decide) (by decide) (by decide) P6.out)
       (have R7 : Hid (V7.heap[rb]? = some pkz) := H7.out.2.kind _ _ _ _ (by decide) (by decide) (by decide) R6.out)
       (have C7 : Hid (V7.heap[kb]? = some k.obj) := kept5 HG7.out B6.out C6.out (by decide))
       (obtain ⟨gn, ln, cn, rfl⟩ : ∃ gn ln cn, v' = .slice (some ⟨gn, 0, none⟩) ln cn := by obtain ⟨gn, cn, e, _⟩ := HB7.out.form; exact ⟨gn, _, cn, e⟩)
       (have x1 : V7.cell? ⟨xb, 1, none⟩ = some (.slice (some ⟨gd, 0, none⟩) b2 b3) := lies_cell X7.out 1)
       (have x1f := lies_frozen X7.out 1)))
  clear x1 x1f
  have X8 : Hid ((V7.setCell ⟨xb, 1, none⟩ (.slice (some ⟨gn, 0, none⟩) ln cn)).heap[xb]? = some (.cells #[.int .i64 b0, .slice (some ⟨gn, 0, none⟩) ln cn] 73)) := lies_set X7.out 1 _
  have H8 : Hid (Tab base (V7.setCell ⟨xb, 1, none⟩ (.slice (some ⟨gn, 0, none⟩) ln cn)) tp most wait t mb (Maps.size D) D ov dv) := tight (H7.out.1.away (Bi.grown_set xb 1 _) X7.out (by decide) (by decide) (by decide))
  have P8 : Hid ((V7.setCell ⟨xb, 1, none⟩ (.slice (some ⟨gn, 0, none⟩) ln cn)).heap[pb]? = some p.obj) := set_kind P7.out X7.out (by decide) 1 _
  have C8 : Hid ((V7.setCell ⟨xb, 1, none⟩ (.slice (some ⟨gn, 0, none⟩) ln cn)).heap[kb]? = some k.obj) := set_kind C7.out X7.out (by decide) 1 _
  have R8 : Hid ((V7.setCell ⟨xb, 1, none⟩ (.slice (some ⟨gn, 0, none⟩) ln cn)).heap[rb]? = some pkz) := set_kind R7.out X7.out (by decide) 1 _
  have F8 : Hid (Fr base w (V7.setCell ⟨xb, 1, none⟩ (.slice (some ⟨gn, 0, none⟩) ln cn))) := (F6.out.trans H7.out.2).fresh (Bi.grown_set xb 1 _) Hrbb.out.1 Hxw.out
  have B8 : Hid (BytesAt base (V7.setCell ⟨xb, 1, none⟩ (.slice (some ⟨gn, 0, none⟩) ln cn)) (.slice (some ⟨gn, 0, none⟩) ln cn) (b.d ++ p.d)) := HB7.out.of_block fun g cs fz _ e => set_kind e X7.out (by decide) 1 _
  have HV8 : Hid ((Value.slice (some ⟨gn, 0, none⟩) ln cn).ownBlock = (dv k).ownBlock ∨ ∀ c ∈ t.l, (dv c.k).ownBlock ≠ (Value.slice (some ⟨gn, 0, none⟩) ln cn).ownBlock) := by
    rcases HV7.out with e | e
    · left; rw [e, Hdv.out.1]
    · right
      intro c hc e2
      rw [e] at e2
      obtain ⟨g, cs, fz, e3, _, e4⟩ := (H6.out.bytes c hc).block
      rw [e3] at e2
      injection e2 with e2
      have := (Array.getElem?_eq_some_iff.1 e4).1
      omega
  generalize V7.setCell ⟨xb, 1, none⟩ (.slice (some ⟨gn, 0, none⟩) ln cn) = V8 at X8 H8 P8 C8 R8 F8 B8 ⊢
  clear X7 H7 P7 C7 R7 HB7 HBo HG7 HV7 X6 H6 P6 C6 R6 F6 B6
  have x2 : V8.cell? ⟨pb, 1, none⟩ = some (.bool true) := by rw [← Hm.out]; exact lies_cell P8.out 1
  go_upto_region 11 with (fail)
  clear x2
  go_upto_region 11 with (fail)
  refine wp_region_held_drew (S := fun w' => w'.heap[tp]? = some (tabC most wait t.now mb ov t.dr) ∧ w'.heap[kb]? = some k.obj ∧ w'.heap[xb]? = some (.cells #[.int .i64 b0, .slice (some ⟨gn, 0, none⟩) ln cn] 73)) (by kernel_rfl) ?_ (fun hHeld => ?_)
  · exact ⟨H8.out.tab, C8.out, X8.out⟩
  refine wpAnyH_take (i := 0) (oi := { dst := some 45, op := Go.Op.move (Go.Operand.tmp 0), type := 23, pos := "reasm.go:102", after := #[], guard := none }) (v := ?_) rfl (by kernel_rfl) (by kernel_rfl) (by kernel_rfl) (fun _ _ _ h => h) (Or.inl ⟨by rfl, ?_⟩) (by assumption) ?_
  rotate_left
  focus ((intro w hSw; (try dsimp only at hSw); clear hSw; go_simp) <;> (with_reducible rfl))
  try simp only [Act.put, List.setIfInBounds_toArray, List.set_cons_zero, List.set_cons_succ]
  refine wpAnyH_take (i := 1) (oi := { dst := some 46, op := Go.Op.nilCheck (Go.Operand.tmp 45), type := 0, pos := "reasm.go:102", after := #[{ on := 0, ground := Go.Ground.data }], guard := none }) (v := ?_) rfl (by kernel_rfl) (by kernel_rfl) (by kernel_rfl) (fun _ _ _ h => h) (Or.inl ⟨by rfl, ?_⟩) (by assumption) ?_
  rotate_left
  focus ((intro w hSw; (try dsimp only at hSw); clear hSw; go_simp) <;> (with_reducible rfl))
  try simp only [Act.put, List.setIfInBounds_toArray, List.set_cons_zero, List.set_cons_succ]
  refine wpAnyH_take (i := 2) (oi := { dst := some 47, op := Go.Op.fieldAddr 70 (Go.Operand.tmp 46) 3, type := 0, pos := "reasm.go:102", after := #[{ on := 1, ground := Go.Ground.data }], guard := none }) (v := ?_) rfl (by kernel_rfl) (by kernel_rfl) (by kernel_rfl) (fun _ _ _ h => h) (Or.inl ⟨by rfl, ?_⟩) (by assumption) ?_
  rotate_left
  focus ((intro w hSw; (try dsimp only at hSw); clear hSw; go_simp) <;> (with_reducible rfl))
  try simp only [Act.put, List.setIfInBounds_toArray, List.set_cons_zero, List.set_cons_succ]
  refine wpAnyH_take (i := 3) (oi := { dst := some 48, op := Go.Op.load 68 (Go.Operand.tmp 47), type := 68, pos := "reasm.go:102", after := #[{ on := 2, ground := Go.Ground.data }], guard := none }) (v := ?_) rfl (by kernel_rfl) (by kernel_rfl) (by kernel_rfl) (fun _ _ _ h => h) (Or.inl ⟨by rfl, ?_⟩) (by assumption) ?_
  rotate_left
  focus ((intro w hSw; (try dsimp only at hSw); have hc : w.cell? ⟨tp, 3, none⟩ = some (.map (some mb)) := lies_cell hSw.1 3; clear hSw; go_simp) <;> (with_reducible rfl))
  try simp only [Act.put, List.setIfInBounds_toArray, List.set_cons_zero, List.set_cons_succ]
  refine wpAnyH_take (i := 4) (oi := { dst := some 49, op := Go.Op.load 52 (Go.Operand.tmp 7), type := 52, pos := "reasm.go:102", after := #[], guard := none }) (v := ?_) rfl (by kernel_rfl) (by kernel_rfl) (by kernel_rfl) (fun _ _ _ h => h) (Or.inl ⟨by rfl, ?_⟩) (by assumption) ?_
  rotate_left
  focus ((intro w hSw; (try dsimp only at hSw); obtain ⟨c0, c1, c2, c3, c4, c5, c6, c7, c8, c9⟩ := cells10 hSw.2.1; simp only [Nat.zero_add] at c1 c2 c3 c4 c5 c6 c7 c8 c9; clear hSw; go_simp) <;> (with_reducible rfl))
  try simp only [Act.put, List.setIfInBounds_toArray, List.set_cons_zero, List.set_cons_succ]
  refine wpAnyH_take (i := 5) (oi := { dst := some 50, op := Go.Op.load 73 (Go.Operand.tmp 8), type := 73, pos := "reasm.go:102", after := #[], guard := none }) (v := ?_) rfl (by kernel_rfl) (by kernel_rfl) (by kernel_rfl) (fun _ _ _ h => h) (Or.inl ⟨by rfl, ?_⟩) (by assumption) ?_
  rotate_left
  focus ((intro w hSw; (try dsimp only at hSw); have x0 : w.cell? ⟨xb, 0, none⟩ = some (.int .i64 b0) := lies_cell hSw.2.2 0; have x1 : w.cell? ⟨xb, 1, none⟩ = some (.slice (some ⟨gn, 0, none⟩) ln cn) := lies_cell hSw.2.2 1; clear hSw; go_simp) <;> (with_reducible rfl))
  try simp only [Act.put, List.setIfInBounds_toArray, List.set_cons_zero, List.set_cons_succ]
  refine wpAnyH_ready (rs := [6]) (by kernel_rfl) (by simp) ?_
  refine AllReadyH.cons (o := { dst := none, op := Go.Op.mapUpdate 68 (Go.Operand.tmp 48) (Go.Operand.tmp 49) (Go.Operand.tmp 50), type := 0, pos := "reasm.go:102", after := #[{ on := 3, ground := Go.Ground.data }, { on := 4, ground := Go.Ground.data }, { on := 5, ground := Go.Ground.data }, { on := 0, ground := Go.Ground.phase }, { on := 1, ground := Go.Ground.phase }, { on := 2, ground := Go.Ground.phase }, { on := 3, ground := Go.Ground.phase }, { on := 4, ground := Go.Ground.phase }, { on := 5, ground := Go.Ground.phase }], guard := none }) rfl (fun K hK => ?_) AllReadyH.nil
  obtain ⟨w4, hrun4, hown4, hturn4⟩ := (H8.out.drewN 1).map.store law52 Try.underlying68 (by rw [H8.out.size]; have := HG.out.room; unfold maxLen; omega) (key_kl k) (show HE (.agg #[.int .i64 b0, .slice (some ⟨gn, 0, none⟩) ln cn]) = some (.held _, []) from rfl)
  simp only [Go.Proofs.Ytgdjcoodjdckkaa.K.val] at hrun4
  have hrun4 : (Instr.mapUpdate 68 (.map (some mb)) _ _).run Try.prog V8.drew = .ok () w4 := hrun4
  have HM4 := Lib.hid (And.intro hown4 hturn4); clear hown4
  go_simp
  clear hrun4
  refine hK.out _ _ ?_ (fun hHeld => ?_)
  · exact ⟨map_other hturn4 hHeld.1 (by intro _ _ e; cases e), map_other hturn4 hHeld.2.1 (by intro _ _ e; cases e), map_other hturn4 hHeld.2.2 (by intro _ _ e; cases e)⟩
  clear hK K
  try simp only [Act.put, List.setIfInBounds_toArray, List.set_cons_zero, List.set_cons_succ]
  refine wpAnyH_done (by kernel_rfl) ?_ _
  clear hHeld hturn4
  have HT9 : Hid (Tab base w4 tp most wait ⟨PitotReasm.more t.l k p.d, t.now, t.dr⟩ mb (Maps.size D + 1) (D.put (kl k) (.held (.agg #[.int .i64 b.t0, .slice (some ⟨gn, 0, none⟩) ln cn]))) ov (upd dv k (.slice (some ⟨gn, 0, none⟩) ln cn)) ∧ Fr base V8.drew w4) :=
    (H8.out.drewN 1).on HG.out.fine HF.out B8.out HV8.out HM4.out.2 (by rw [Hdv.out.2.1]; exact HM4.out.1)
  have LX : Hid (_ = some pkz) := map_other (w := V8.drew) HM4.out.2 R8.out (by intro _ _ e; cases e)
  obtain ⟨r0, r1, r2, r3, r4, r5, r6, r7, r8, r9, r10, r11, r12, r13⟩ := cells14 LX.out
  have f0 := lies_frozen LX.out 0
  have f1 := lies_frozen LX.out 1
  have f2 := lies_frozen LX.out 2
  have f3 := lies_frozen LX.out 3
  have f4 := lies_frozen LX.out 4
  have f5 := lies_frozen LX.out 5
  have f6 := lies_frozen LX.out 6
  have f7 := lies_frozen LX.out 7
  have f8 := lies_frozen LX.out 8
  have f9 := lies_frozen LX.out 9
  have f10 := lies_frozen LX.out 10
  have f11 := lies_frozen LX.out 11
  have f12 := lies_frozen LX.out 12
  have f13 := lies_frozen LX.out 13
  go_wp2
  (try simp only [Exit.inBlock, Exit.then])
  obtain ⟨k0, k1, k2, k3, k4, k5, k6, k7, k8, k9, k10, k11, k12, k13, _⟩ := read_14 (y0 := .int .i64 0) (y1 := .bool false) (y2 := .int .i64 0) (y3 := .int .i64 0) (y4 := .int .i64 0) (y5 := .int .u8 0) (y6 := .int .u8 0) (y7 := .int .u8 0) (y8 := .int .u8 0) (y9 := .int .u8 0) (y10 := .int .u8 0) (y11 := .int .u8 0) (y12 := .int .u8 0) (y13 := .string ⟨#[]⟩) LX.out
  refine bodyPost_ret (by simp [results, Try.results24, go_sem, k0, k1, k2, k3, k4, k5, k6, k7, k8, k9, k10, k11, k12, k13]; try rfl) rfl ?_
  exact ⟨rfl, stored_14 ⟨_, _, _, _, _, HT9.out.1⟩ (F8.out.drew.trans HT9.out.2) Hrbb.out.1 Hrbb.out.2 LX.out _ _ _ _ _ _ _ _ _ _ _ _ _ _⟩
end Go.Proofs.Ytgdjcoodjdckkaa
/- Contract of goOn: a part that is the last one. -/
set_option maxRecDepth 100000
namespace Go.Proofs.Ytgdjcoodjdckkaa
open Go.RowKit Go.Proofs.PitotIp Go.Maps
open Go.Proofs.PitotReasm (Bg Tb Fine bad first next)
open Go.Proofs.Ytgdjcoodjdckkaa.Bi (lies_lt lies_cell lies_frozen lies_alloc lies_set)

set_option maxHeartbeats 4000000 in
theorem goOn_end {base : Nat} {w : World} {tp : Nat} {most : Nat} {wait : Int} {t : Tb K UInt8} (h : TabAt base w tp most wait t) (hG : Good most t) (hmost : most ≤ 64) (hdr : t.dr ≤ 100000000000) (p : Pk) (hw : p.Wf) (hs : p.s.size ≤ 1000000000) (b : Bg K UInt8) (hf : find t.l (p.key hw) = some b) (hj : jr p b.d.length = 0) (hm : p.m = false) :
    Calls Try.prog 24 #[.pointer (some ⟨tp, 0, none⟩), p.val] w fun e w' => e = .returned (ans p (next t (p.key hw) p.m p.off p.d).2.1 (next t (p.key hw) p.m p.off p.d).2.2) ∧ TabAt base w' tp most wait (next t (p.key hw) p.m p.off p.d).1 ∧ Fr base w w' := by
  rw [next_end hG.fine hf hj hm]
  have HJD := fun w => judge_part p b.d.length hs (hG.lens b (find_mem hf).1) w
  rw [hj] at HJD
  have hsz : b.d.length + p.s.size ≤ 8200 := (jr_zero_of hj).2.2
  have Hj := Lib.hid hj; clear hj
  have Hm := Lib.hid hm; clear hm
  obtain ⟨mb, n, D, ov, dv, h⟩ := h
  have hbase := h.lt.2.2
  have HK := fun w => keyOf_any p hw w
  obtain ⟨k, Hk⟩ : ∃ k, Hid (k = p.key hw) := ⟨_, rfl⟩
  simp only [← Hk.out] at HK hf ⊢
  have HK := Lib.hid HK
  have HT := Lib.hid h; clear h
  have HG := Lib.hid hG; clear hG
  simp only [K.val] at HK
  go_enter Try.func24, Try.ntmps24
  go_upto_region 2 with (first
    | (go_at_call 38; (with_reducible refine (HK.out _).mono ?_); rintro e w2 ⟨rfl, hb2⟩))
  have k1 := ((Below.refl w.heap.size w).alloc (Nat.le_refl _) p.obj)
  have k1b := k1.alloc k1.size pkz
  have hb3 : Below w.heap.size w (w2.alloc k.obj) := by
    have k2 := k1b.trans (hb2.mono k1b.size)
    exact k2.alloc k2.size _
  have H1 : Hid (Tab base (w2.alloc k.obj) tp most wait t mb n D ov dv) := HT.out.below hb3
  have P1 : Hid ((w2.alloc k.obj).heap[w.heap.size]? = some p.obj) := lies_alloc (lies_below (lies_alloc (heap_alloc_new w _) _) hb2 (by simp; omega)) _
  have R1 : Hid ((w2.alloc k.obj).heap[w.heap.size + 1]? = some pkz) := by
    have e := heap_alloc_new (w.alloc p.obj) pkz
    rw [World.size_alloc] at e
    exact lies_alloc (lies_below e hb2 (by simp)) _
  have C1 : Hid ((w2.alloc k.obj).heap[w2.heap.size]? = some k.obj) := heap_alloc_new w2 _
  have F1 : Hid (Fr base w (w2.alloc k.obj)) := Fr.of hb3 hbase
  obtain ⟨pb, Hpb⟩ : ∃ pb, Hid (pb = w.heap.size) := ⟨_, rfl⟩
  obtain ⟨rb, Hrb⟩ : ∃ rb, Hid (rb = w.heap.size + 1) := ⟨_, rfl⟩
  obtain ⟨kb, Hkb⟩ : ∃ kb, Hid (kb = w2.heap.size) := ⟨_, rfl⟩
  rw [← Hrb.out] at R1
  (try rw [World.size_alloc])
  rw [← Hrb.out]
  rw [← Hpb.out] at P1 ⊢
  rw [← Hkb.out] at C1 ⊢
  generalize w2.alloc k.obj = X at H1 P1 R1 C1 F1 ⊢
  have Hpr : Hid (pb ≠ rb) := by show _ ≠ _; rw [Hpb.out, Hrb.out]; omega
  have Hrbb : Hid (base ≤ w.heap.size ∧ w.heap.size ≤ rb) := ⟨hbase, by rw [Hrb.out]; omega⟩
  have hkf : Hid (some kb ≠ ov.ownBlock) := by
    show _ ≠ _
    intro e
    rcases HT.out.row.2 with ⟨e1, _⟩ | ⟨g, cap, cur, e1, _, hcur, _⟩
    · rw [e1] at e; cases e
    · rw [e1] at e
      simp only [Value.ownBlock, Option.some.injEq] at e
      have := (Array.getElem?_eq_some_iff.1 hcur).1
      have h2 := hb2.size
      simp only [World.size_alloc] at h2
      rw [Hkb.out] at e; omega
  have Hpw : Hid (w.heap.size ≤ pb) := by show _ ≤ _; rw [Hpb.out]; omega
  have hXs : Hid (w.heap.size ≤ X.heap.size) := F1.out.below.size
  clear HT hb2 hb3 k1 k1b Hpb Hrb Hkb hbase
  obtain ⟨bo, Hbo⟩ : ∃ bo, Hid (bo = (find t.l k).isSome) := ⟨_, rfl⟩
  obtain ⟨b0, b1, b2, b3, Hbw⟩ : ∃ b0 b1 b2 b3, Hid (bval (find t.l k) (dv k) = .agg #[.int .i64 b0, .slice b1 b2 b3]) := by
    cases hf : find t.l k with
    | none => exact ⟨0, none, 0, 0, rfl⟩
    | some b =>
      obtain ⟨g, cap, e, _⟩ := (H1.out.bytes b (find_mem hf).1).form
      rw [(find_mem hf).2] at e
      exact ⟨b.t0, some ⟨g, 0, none⟩, b.d.length, cap, by show _ = _; rw [bval, e]⟩
  go_upto_region 2 with (fail)
  refine wp_region_held_drew (S := fun w' => Tab base w' tp most wait t mb n D ov dv ∧ w'.heap[pb]? = some p.obj ∧ w'.heap[kb]? = some k.obj ∧ w'.heap[rb]? = some pkz ∧ Fr base w w') (by kernel_rfl) ?_ (fun hHeld => ?_)
  · exact ⟨H1.out.drewN 1, P1.out, C1.out, R1.out, F1.out.drew⟩
  refine wpAnyH_take (i := 0) (oi := { dst := some 14, op := Go.Op.move (Go.Operand.tmp 0), type := 23, pos := "reasm.go:92", after := #[], guard := none }) (v := ?_) rfl (by kernel_rfl) (by kernel_rfl) (by kernel_rfl) (fun _ _ _ h => h) (Or.inl ⟨by rfl, ?_⟩) (by assumption) ?_
  rotate_left
  focus ((intro w hSw; (try dsimp only at hSw); clear hSw; go_simp) <;> (with_reducible rfl))
  try simp only [Act.put, List.setIfInBounds_toArray, List.set_cons_zero, List.set_cons_succ]
  refine wpAnyH_take (i := 1) (oi := { dst := some 15, op := Go.Op.nilCheck (Go.Operand.tmp 14), type := 0, pos := "reasm.go:92", after := #[{ on := 0, ground := Go.Ground.data }], guard := none }) (v := ?_) rfl (by kernel_rfl) (by kernel_rfl) (by kernel_rfl) (fun _ _ _ h => h) (Or.inl ⟨by rfl, ?_⟩) (by assumption) ?_
  rotate_left
  focus ((intro w hSw; (try dsimp only at hSw); clear hSw; go_simp) <;> (with_reducible rfl))
  try simp only [Act.put, List.setIfInBounds_toArray, List.set_cons_zero, List.set_cons_succ]
  refine wpAnyH_take (i := 2) (oi := { dst := some 16, op := Go.Op.fieldAddr 70 (Go.Operand.tmp 15) 3, type := 0, pos := "reasm.go:92", after := #[{ on := 1, ground := Go.Ground.data }], guard := none }) (v := ?_) rfl (by kernel_rfl) (by kernel_rfl) (by kernel_rfl) (fun _ _ _ h => h) (Or.inl ⟨by rfl, ?_⟩) (by assumption) ?_
  rotate_left
  focus ((intro w hSw; (try dsimp only at hSw); clear hSw; go_simp) <;> (with_reducible rfl))
  try simp only [Act.put, List.setIfInBounds_toArray, List.set_cons_zero, List.set_cons_succ]
  refine wpAnyH_take (i := 3) (oi := { dst := some 17, op := Go.Op.load 68 (Go.Operand.tmp 16), type := 68, pos := "reasm.go:92", after := #[{ on := 2, ground := Go.Ground.data }], guard := none }) (v := ?_) rfl (by kernel_rfl) (by kernel_rfl) (by kernel_rfl) (fun _ _ _ h => h) (Or.inl ⟨by rfl, ?_⟩) (by assumption) ?_
  rotate_left
  focus ((intro w hSw; (try dsimp only at hSw); have hc : w.cell? ⟨tp, 3, none⟩ = some (.map (some mb)) := lies_cell hSw.1.tab 3; clear hSw; go_simp) <;> (with_reducible rfl))
  try simp only [Act.put, List.setIfInBounds_toArray, List.set_cons_zero, List.set_cons_succ]
  refine wpAnyH_take (i := 4) (oi := { dst := some 18, op := Go.Op.load 52 (Go.Operand.tmp 7), type := 52, pos := "reasm.go:92", after := #[], guard := none }) (v := ?_) rfl (by kernel_rfl) (by kernel_rfl) (by kernel_rfl) (fun _ _ _ h => h) (Or.inl ⟨by rfl, ?_⟩) (by assumption) ?_
  rotate_left
  focus ((intro w hSw; (try dsimp only at hSw); obtain ⟨c0, c1, c2, c3, c4, c5, c6, c7, c8, c9⟩ := cells10 hSw.2.2.1; simp only [Nat.zero_add] at c1 c2 c3 c4 c5 c6 c7 c8 c9; clear hSw; go_simp) <;> (with_reducible rfl))
  try simp only [Act.put, List.setIfInBounds_toArray, List.set_cons_zero, List.set_cons_succ]
  refine wpAnyH_take (i := 5) (oi := { dst := some 19, op := Go.Op.lookup 68 (Go.Operand.tmp 17) (Go.Operand.tmp 18) true, type := 90, pos := "reasm.go:92", after := #[{ on := 3, ground := Go.Ground.data }, { on := 4, ground := Go.Ground.data }], guard := none }) (v := ?_) rfl (by kernel_rfl) (by kernel_rfl) (by kernel_rfl) (fun _ _ _ h => h) (Or.inl ⟨by rfl, ?_⟩) (by assumption) ?_
  rotate_left
  focus ((intro w hSw; (try dsimp only at hSw); have hl := look_two hSw.1.map hSw.1.rep k; rw [← Hbo.out, Hbw.out] at hl; simp only [K.val] at hl; clear hSw; go_simp) <;> (with_reducible rfl))
  try simp only [Act.put, List.setIfInBounds_toArray, List.set_cons_zero, List.set_cons_succ]
  refine wpAnyH_take (i := 6) (oi := { dst := some 13, op := Go.Op.move (Go.Operand.tmp 19), type := 90, pos := "reasm.go:92", after := #[{ on := 5, ground := Go.Ground.data }], guard := none }) (v := ?_) rfl (by kernel_rfl) (by kernel_rfl) (by kernel_rfl) (fun _ _ _ h => h) (Or.inl ⟨by rfl, ?_⟩) (by assumption) ?_
  rotate_left
  focus ((intro w hSw; (try dsimp only at hSw); clear hSw; go_simp) <;> (with_reducible rfl))
  try simp only [Act.put, List.setIfInBounds_toArray, List.set_cons_zero, List.set_cons_succ]
  refine wpAnyH_take (i := 7) (oi := { dst := some 20, op := Go.Op.extract (Go.Operand.tmp 13) 0, type := 73, pos := "reasm.go:92", after := #[{ on := 6, ground := Go.Ground.data }], guard := none }) (v := ?_) rfl (by kernel_rfl) (by kernel_rfl) (by kernel_rfl) (fun _ _ _ h => h) (Or.inl ⟨by rfl, ?_⟩) (by assumption) ?_
  rotate_left
  focus ((intro w hSw; (try dsimp only at hSw); clear hSw; go_simp) <;> (with_reducible rfl))
  try simp only [Act.put, List.setIfInBounds_toArray, List.set_cons_zero, List.set_cons_succ]
  refine wpAnyH_take (i := 8) (oi := { dst := some 21, op := Go.Op.extract (Go.Operand.tmp 13) 1, type := 4, pos := "reasm.go:92", after := #[{ on := 6, ground := Go.Ground.data }, { on := 10, ground := Go.Ground.gcOnly Go.Departure.lateStores }], guard := none }) (v := ?_) rfl (by kernel_rfl) (by kernel_rfl) (by kernel_rfl) (fun _ _ _ h => h) (Or.inl ⟨by rfl, ?_⟩) (by assumption) ?_
  rotate_left
  focus ((intro w hSw; (try dsimp only at hSw); clear hSw; go_simp) <;> (with_reducible rfl))
  try simp only [Act.put, List.setIfInBounds_toArray, List.set_cons_zero, List.set_cons_succ]
  refine wpAnyH_ready (rs := [9]) (by kernel_rfl) (by simp) ?_
  refine AllReadyH.cons (o := { dst := some 8, op := Go.Op.alloc 73, type := 0, pos := "reasm.go:92", after := #[], guard := none }) rfl (fun K hK => ?_) AllReadyH.nil
  go_simp
  refine hK.out _ _ ?_ (fun hHeld => ?_)
  · exact ⟨hHeld.1.below ((Below.refl _ _).alloc (Nat.le_refl _) _), lies_alloc hHeld.2.1 _, lies_alloc hHeld.2.2.1 _, lies_alloc hHeld.2.2.2.1 _, hHeld.2.2.2.2.trans (Fr.of ((Below.refl _ _).alloc (Nat.le_refl _) _) hHeld.1.lt.2.2)⟩
  clear hK K
  try simp only [Act.put, List.setIfInBounds_toArray, List.set_cons_zero, List.set_cons_succ]
  refine wpAnyH_ready (rs := [10]) (by kernel_rfl) (by simp) ?_
  refine AllReadyH.cons (o := { dst := none, op := Go.Op.store 73 (Go.Operand.tmp 8) (Go.Operand.tmp 20), type := 0, pos := "reasm.go:92", after := #[{ on := 9, ground := Go.Ground.data }, { on := 7, ground := Go.Ground.data }, { on := 0, ground := Go.Ground.phase }, { on := 1, ground := Go.Ground.phase }, { on := 2, ground := Go.Ground.phase }, { on := 3, ground := Go.Ground.phase }, { on := 4, ground := Go.Ground.phase }, { on := 5, ground := Go.Ground.phase }, { on := 6, ground := Go.Ground.phase }, { on := 7, ground := Go.Ground.phase }, { on := 8, ground := Go.Ground.textOnly Go.Departure.lateStores }, { on := 9, ground := Go.Ground.phase }], guard := none }) rfl (fun K hK => ?_) AllReadyH.nil
  go_simp
  refine hK.out _ _ ?_ (fun hHeld => ?_)
  · exact ⟨(H1.out.below ((Below.refl _ X).alloc (Nat.le_refl _) _)).drewN 1, lies_alloc P1.out _, lies_alloc C1.out _, lies_alloc R1.out _, (F1.out.trans (Fr.of ((Below.refl _ X).alloc (Nat.le_refl _) _) H1.out.lt.2.2)).drew⟩
  clear hK K
  try simp only [Act.put, List.setIfInBounds_toArray, List.set_cons_zero, List.set_cons_succ]
  refine wpAnyH_take (i := 11) (oi := { dst := some 9, op := Go.Op.assign (Go.Operand.tmp 21), type := 4, pos := "reasm.go:92", after := #[{ on := 8, ground := Go.Ground.data }, { on := 10, ground := Go.Ground.chain }, { on := 0, ground := Go.Ground.phase }, { on := 1, ground := Go.Ground.phase }, { on := 2, ground := Go.Ground.phase }, { on := 3, ground := Go.Ground.phase }, { on := 4, ground := Go.Ground.phase }, { on := 5, ground := Go.Ground.phase }, { on := 6, ground := Go.Ground.phase }, { on := 7, ground := Go.Ground.phase }, { on := 8, ground := Go.Ground.phase }, { on := 9, ground := Go.Ground.phase }, { on := 10, ground := Go.Ground.phase }], guard := none }) (v := ?_) rfl (by kernel_rfl) (by kernel_rfl) (by kernel_rfl) (fun _ _ _ h => h) (Or.inl ⟨by rfl, ?_⟩) (by assumption) ?_
  rotate_left
  focus ((intro w hSw; (try dsimp only at hSw); clear hSw; go_simp) <;> (with_reducible rfl))
  try simp only [Act.put, List.setIfInBounds_toArray, List.set_cons_zero, List.set_cons_succ]
  refine wpAnyH_done (by kernel_rfl) ?_ _
  clear H1 P1 C1 F1 R1
  have HXB : Hid ((X.alloc (.cells #[.int .i64 b0, .slice b1 b2 b3] 73)).drew.heap[X.heap.size]? = some (.cells #[.int .i64 b0, .slice b1 b2 b3] 73)) := heap_alloc_new X _
  generalize (X.alloc (.cells #[.int .i64 b0, .slice b1 b2 b3] 73)).drew = V5 at hHeld HXB ⊢
  obtain ⟨xb, Hxb⟩ : ∃ xb, Hid (xb = X.heap.size) := ⟨_, rfl⟩
  rw [← Hxb.out] at HXB ⊢
  have H5 := Lib.hid hHeld.1
  have P5 := Lib.hid hHeld.2.1
  have C5 := Lib.hid hHeld.2.2.1
  have R5 := Lib.hid hHeld.2.2.2.1
  have F5 := Lib.hid hHeld.2.2.2.2
  have Hxw : Hid (w.heap.size ≤ xb) := by show _ ≤ _; rw [Hxb.out]; exact hXs.out
  clear hHeld Hxb
  obtain rfl : bo = true := by rw [Hbo.out, hf]; rfl
  clear Hbo
  obtain ⟨gd, cd, hdv, hgb, hcd, hgd⟩ := (H5.out.bytes b (find_mem hf).1).form
  rw [(find_mem hf).2] at hdv
  have Hbd : Hid (BytesAt base V5 (.slice b1 b2 b3) b.d) := by
    have e1 := H5.out.bytes b (find_mem hf).1
    have e2 := Hbw.out
    rw [hf] at e2
    simp only [bval, Value.agg.injEq, Array.mk.injEq, List.cons.injEq, and_true] at e2
    rw [(find_mem hf).2, e2.2] at e1
    exact e1
  have Hdv : Hid (dv k = .slice b1 b2 b3 ∧ b.t0 = b0 ∧ b1 = some ⟨gd, 0, none⟩ ∧ b2 = b.d.length ∧ b3 = cd) := by
    have e2 := Hbw.out
    rw [hf] at e2
    simp only [bval, Value.agg.injEq, Array.mk.injEq, List.cons.injEq, and_true, Value.int.injEq, true_and] at e2
    refine ⟨e2.2, e2.1, ?_⟩
    rw [hdv] at e2
    simp only [Value.slice.injEq] at e2
    exact ⟨e2.2.1.symm, e2.2.2.1.symm, e2.2.2.2.symm⟩
  clear Hbw hdv
  obtain ⟨Z, HZ⟩ : ∃ Z, Hid (Z = b.d.length) := ⟨_, rfl⟩
  obtain rfl : b1 = some ⟨gd, 0, none⟩ := Hdv.out.2.2.1
  obtain rfl : b2 = Z := Hdv.out.2.2.2.1.trans HZ.out.symm
  obtain rfl : b3 = cd := Hdv.out.2.2.2.2
  rw [← HZ.out] at HJD
  have HJD := Lib.hid HJD
  have hZ : b2 ≤ 8200 := by rw [HZ.out]; exact HG.out.lens b (find_mem hf).1
  have HF := Lib.hid hf; clear hf
  have hx1 : V5.cell? ⟨xb, 1, none⟩ = some (.slice (some ⟨gd, 0, none⟩) b2 b3) := lies_cell HXB.out 1
  obtain ⟨d0, d1, d2, d3, d4, d5, d6, d7, d8, d9, d10, d11, d12, d13⟩ := cells14 P5.out
  have hd1 : p.s.size ≤ 8200 := by omega
  have Hsz := Lib.hid hsz; clear hsz
  go_upto_region 9 with (first
    | (go_at_call 39; (with_reducible refine (HJD.out _).mono ?_); rintro e V6 ⟨rfl, hb6⟩
       (clear hx1 d0 d1 d2 d3 d4 d5 d6 d7 d8 d9 d10 d11 d12 d13)
       (have H6 : Hid (Tab base V6 tp most wait t mb n D ov dv) := H5.out.below hb6)
       (have P6 : Hid (V6.heap[pb]? = some p.obj) := lies_below P5.out hb6 (lies_lt P5.out))
       (have C6 : Hid (V6.heap[kb]? = some k.obj) := lies_below C5.out hb6 (lies_lt C5.out))
       (have R6 : Hid (V6.heap[rb]? = some pkz) := lies_below R5.out hb6 (lies_lt R5.out))
       (have F6 : Hid (Fr base w V6) := F5.out.trans (Fr.of hb6 H5.out.lt.2.2))
       (have X6 : Hid (V6.heap[xb]? = some (.cells #[.int .i64 b0, .slice (some ⟨gd, 0, none⟩) b2 b3] 73)) := lies_below HXB.out hb6 (lies_lt HXB.out))
       (have B6 : Hid (BytesAt base V6 (.slice (some ⟨gd, 0, none⟩) b2 b3) b.d) := Hbd.out.kept (grown_below hb6 none) (by simp [Value.ownBlock]))
       (clear H5 P5 C5 R5 F5 HXB Hbd hb6)
       (have x1 : V6.cell? ⟨xb, 1, none⟩ = some (.slice (some ⟨gd, 0, none⟩) b2 b3) := lies_cell X6.out 1)
       (have q13 : V6.cell? ⟨pb, 13, none⟩ = some (.string p.s) := lies_cell P6.out 13)))
  go_upto_region 10 with (first
    | (at_builtin; refine wpList_bytes_more (base := base) rfl _ _ rfl (.slice (some ⟨gd, 0, none⟩) b2 b3) b.d p.s (by rfl) (by rfl) B6.out H6.out.lt.2.2 (by rw [← HZ.out]; omega) ?_; intro v' V7 hB7 hBo hg7 hv7
       (have HB7 := Lib.hid hB7; have HBo := Lib.hid hBo; have HG7 := Lib.hid hg7; have HV7 := Lib.hid hv7)
       (clear hB7 hBo hg7 hv7 x1 q13)
       (have H7 : Hid (Tab base V7 tp most wait t mb n D ov dv ∧ Fr base V6 V7) := H6.out.grow HG.out.fine HF.out (by rw [Hdv.out.1]; exact HBo.out) (by rw [Hdv.out.1]; exact HG7.out))
       (have X7 : Hid (V7.heap[xb]? = some (.cells #[.int .i64 b0, .slice (some ⟨gd, 0, none⟩) b2 b3] 73)) := H7.out.2.kind _ _ _ _ (by decide) (by decide) (by decide) X6.out)
       (have P7 : Hid (V7.heap[pb]? = some p.obj) := H7.out.2.kind _ _ _ _ (by decide) (by decide) (by decide) P6.out)
       (have R7 : Hid (V7.heap[rb]? = some pkz) := H7.out.2.kind _ _ _ _ (by decide) (by decide) (by decide) R6.out)
       (have C7 : Hid (V7.heap[kb]? = some k.obj) := kept5 HG7.out B6.out C6.out (by decide))
       (obtain ⟨gn, ln, cn, rfl⟩ : ∃ gn ln cn, v' = .slice (some ⟨gn, 0, none⟩) ln cn := by obtain ⟨gn, cn, e, _⟩ := HB7.out.form; exact ⟨gn, _, cn, e⟩)
       (have x1 : V7.cell? ⟨xb, 1, none⟩ = some (.slice (some ⟨gd, 0, none⟩) b2 b3) := lies_cell X7.out 1)
       (have x1f := lies_frozen X7.out 1)))
  clear x1 x1f
  have X8 : Hid ((V7.setCell ⟨xb, 1, none⟩ (.slice (some ⟨gn, 0, none⟩) ln cn)).heap[xb]? = some (.cells #[.int .i64 b0, .slice (some ⟨gn, 0, none⟩) ln cn] 73)) := lies_set X7.out 1 _
  have H8 : Hid (Tab base (V7.setCell ⟨xb, 1, none⟩ (.slice (some ⟨gn, 0, none⟩) ln cn)) tp most wait t mb (Maps.size D) D ov dv) := tight (H7.out.1.away (Bi.grown_set xb 1 _) X7.out (by decide) (by decide) (by decide))
  have P8 : Hid ((V7.setCell ⟨xb, 1, none⟩ (.slice (some ⟨gn, 0, none⟩) ln cn)).heap[pb]? = some p.obj) := set_kind P7.out X7.out (by decide) 1 _
  have C8 : Hid ((V7.setCell ⟨xb, 1, none⟩ (.slice (some ⟨gn, 0, none⟩) ln cn)).heap[kb]? = some k.obj) := set_kind C7.out X7.out (by decide) 1 _
  have R8 : Hid ((V7.setCell ⟨xb, 1, none⟩ (.slice (some ⟨gn, 0, none⟩) ln cn)).heap[rb]? = some pkz) := set_kind R7.out X7.out (by decide) 1 _
  have F8 : Hid (Fr base w (V7.setCell ⟨xb, 1, none⟩ (.slice (some ⟨gn, 0, none⟩) ln cn))) := (F6.out.trans H7.out.2).fresh (Bi.grown_set xb 1 _) Hrbb.out.1 Hxw.out
  have B8 : Hid (BytesAt base (V7.setCell ⟨xb, 1, none⟩ (.slice (some ⟨gn, 0, none⟩) ln cn)) (.slice (some ⟨gn, 0, none⟩) ln cn) (b.d ++ p.d)) := HB7.out.of_block fun g cs fz _ e => set_kind e X7.out (by decide) 1 _
  have HV8 : Hid ((Value.slice (some ⟨gn, 0, none⟩) ln cn).ownBlock = (dv k).ownBlock ∨ ∀ c ∈ t.l, (dv c.k).ownBlock ≠ (Value.slice (some ⟨gn, 0, none⟩) ln cn).ownBlock) := by
    rcases HV7.out with e | e
    · left; rw [e, Hdv.out.1]
    · right
      intro c hc e2
      rw [e] at e2
      obtain ⟨g, cs, fz, e3, _, e4⟩ := (H6.out.bytes c hc).block
      rw [e3] at e2
      injection e2 with e2
      have := (Array.getElem?_eq_some_iff.1 e4).1
      omega
  generalize V7.setCell ⟨xb, 1, none⟩ (.slice (some ⟨gn, 0, none⟩) ln cn) = V8 at X8 H8 P8 C8 R8 F8 B8 ⊢
  clear X7 H7 P7 C7 R7 HB7 HBo HG7 HV7 X6 H6 P6 C6 R6 F6 B6
  have x2 : V8.cell? ⟨pb, 1, none⟩ = some (.bool false) := by rw [← Hm.out]; exact lies_cell P8.out 1
  obtain ⟨Wd, HWd⟩ : ∃ Wd, Hid (Wd = b.d ++ p.d) := ⟨_, rfl⟩
  rw [← HWd.out] at B8
  have HFG : Hid (∀ V6, Tab base V6 tp most wait t mb (Maps.size D) D ov dv → Calls Try.prog 37 #[.pointer (some ⟨tp, 0, none⟩), k.val] V6 fun e w' => e = .returned (.tuple #[]) ∧ TabAt base w' tp most wait ⟨drop t.l k, t.now, t.dr⟩ ∧ Fr base V6 w' ∧ Fk ov V6 w') := fun V6 h => forget_tab h HG.out.fine k b HF.out
  simp only [K.val] at HFG
  obtain ⟨c0, c1, c2, c3, c4, c5, c6, c7, c8, c9⟩ := cells10 C8.out; simp only [Nat.zero_add] at c1 c2 c3 c4 c5 c6 c7 c8 c9
  go_upto_region 14 with (first
    | (go_at_call 37; (with_reducible refine (HFG.out _ H8.out).mono ?_); rintro e V9 ⟨rfl, hH, hF, hKk⟩
       (have R9 : Hid (V9.heap[rb]? = some pkz) := hF.kind _ _ _ _ (by decide) (by decide) (by decide) R8.out)
       (have P9 : Hid (V9.heap[pb]? = some p.obj) := hF.kind _ _ _ _ (by decide) (by decide) (by decide) P8.out)
       (have X9 : Hid (V9.heap[xb]? = some (.cells #[.int .i64 b0, .slice (some ⟨gn, 0, none⟩) ln cn] 73)) := hF.kind _ _ _ _ (by decide) (by decide) (by decide) X8.out)
       (have B9 : Hid (BytesAt base V9 (.slice (some ⟨gn, 0, none⟩) ln cn) Wd) := B8.out.of_block fun g cs fz _ e => hKk g cs 5 fz (by decide) (row_ne H8.out e (by decide)) e)
       (have F9 : Hid (Fr base w V9) := F8.out.trans hF)
       (have H9 := Lib.hid hH)
       (clear hH hF hKk x2 c0 c1 c2 c3 c4 c5 c6 c7 c8 c9)))
  go_upto_region 14 with (fail)
  refine wp_region_held_drew (S := fun w' => w'.heap[xb]? = some (.cells #[.int .i64 b0, .slice (some ⟨gn, 0, none⟩) ln cn] 73) ∧ BytesAt base w' (.slice (some ⟨gn, 0, none⟩) ln cn) Wd ∧ ∃ cs fr, w'.heap[pb]? = some (.cells cs 34 fr)) (by kernel_rfl) ?_ (fun hHeld => ?_)
  · exact ⟨X9.out, B9.out, _, _, P9.out⟩
  refine wpAnyH_take (i := 0) (oi := { dst := some 55, op := Go.Op.fieldAddr 73 (Go.Operand.tmp 8) 1, type := 0, pos := "reasm.go:106", after := #[{ on := 4, ground := Go.Ground.gcOnly Go.Departure.lateStores }], guard := none }) (v := ?_) rfl (by kernel_rfl) (by kernel_rfl) (by kernel_rfl) (fun _ _ _ h => h) (Or.inl ⟨by rfl, ?_⟩) (by assumption) ?_
  rotate_left
  focus ((intro w hSw; (try dsimp only at hSw); clear hSw; go_simp) <;> (with_reducible rfl))
  try simp only [Act.put, List.setIfInBounds_toArray, List.set_cons_zero, List.set_cons_succ]
  refine wpAnyH_take (i := 1) (oi := { dst := some 56, op := Go.Op.load 71 (Go.Operand.tmp 55), type := 71, pos := "reasm.go:106", after := #[{ on := 0, ground := Go.Ground.data }, { on := 4, ground := Go.Ground.gcOnly Go.Departure.lateStores }], guard := none }) (v := ?_) rfl (by kernel_rfl) (by kernel_rfl) (by kernel_rfl) (fun _ _ _ h => h) (Or.inl ⟨by rfl, ?_⟩) (by assumption) ?_
  rotate_left
  focus ((intro w hSw; (try dsimp only at hSw); have x1 : w.cell? ⟨xb, 1, none⟩ = some (.slice (some ⟨gn, 0, none⟩) ln cn) := lies_cell hSw.1 1; clear hSw; go_simp) <;> (with_reducible rfl))
  try simp only [Act.put, List.setIfInBounds_toArray, List.set_cons_zero, List.set_cons_succ]
  refine wpAnyH_take (i := 2) (oi := { dst := some 57, op := Go.Op.convert 71 9 (Go.Operand.tmp 56), type := 9, pos := "reasm.go:106", after := #[{ on := 1, ground := Go.Ground.data }, { on := 4, ground := Go.Ground.gcOnly Go.Departure.lateStores }], guard := none }) (v := ?_) rfl (by kernel_rfl) (by kernel_rfl) (by kernel_rfl) (fun _ _ _ h => h) (Or.inl ⟨by rfl, ?_⟩) (by assumption) ?_
  rotate_left
  focus ((intro w hSw; (try dsimp only at hSw); have hcv := bytes_back hSw.2.1; clear hSw; go_simp) <;> (with_reducible rfl))
  try simp only [Act.put, List.setIfInBounds_toArray, List.set_cons_zero, List.set_cons_succ]
  refine wpAnyH_take (i := 3) (oi := { dst := some 58, op := Go.Op.fieldAddr 34 (Go.Operand.tmp 3) 2, type := 0, pos := "reasm.go:106", after := #[{ on := 0, ground := Go.Ground.textOnly Go.Departure.lateStores }, { on := 1, ground := Go.Ground.textOnly Go.Departure.lateStores }, { on := 2, ground := Go.Ground.textOnly Go.Departure.lateStores }], guard := none }) (v := ?_) rfl (by kernel_rfl) (by kernel_rfl) (by kernel_rfl) (fun _ _ _ h => h) (Or.inl ⟨by rfl, ?_⟩) (by assumption) ?_
  rotate_left
  focus ((intro w hSw; (try dsimp only at hSw); clear hSw; go_simp) <;> (with_reducible rfl))
  try simp only [Act.put, List.setIfInBounds_toArray, List.set_cons_zero, List.set_cons_succ]
  refine wpAnyH_ready (rs := [4]) (by kernel_rfl) (by simp) ?_
  refine AllReadyH.cons (o := { dst := none, op := Go.Op.store 3 (Go.Operand.tmp 58) (Go.Operand.const (Go.Value.int Go.IntKind.i64 0)), type := 0, pos := "reasm.go:106", after := #[{ on := 3, ground := Go.Ground.data }, { on := 0, ground := Go.Ground.textOnly Go.Departure.lateStores }, { on := 1, ground := Go.Ground.textOnly Go.Departure.lateStores }, { on := 2, ground := Go.Ground.textOnly Go.Departure.lateStores }], guard := none }) rfl (fun K hK => ?_) AllReadyH.nil
  have q2 : V9.drew.cell? ⟨pb, 2, none⟩ = some (.int .i64 p.off) := lies_cell P9.out 2
  have f2 : V9.drew.frozen? ⟨pb, 2, none⟩ = false := lies_frozen P9.out 2
  go_simp
  clear q2 f2
  refine hK.out _ _ ?_ (fun hHeld => ?_)
  · exact by obtain ⟨cs, fr, hp⟩ := hHeld.2.2; exact ⟨set_kind hHeld.1 hp (by decide) _ _, hHeld.2.1.of_block fun g cs fz _ e => set_kind e hp (by decide) _ _, set_same hp _ _⟩
  clear hK K
  try simp only [Act.put, List.setIfInBounds_toArray, List.set_cons_zero, List.set_cons_succ]
  refine wpAnyH_take (i := 5) (oi := { dst := some 59, op := Go.Op.fieldAddr 34 (Go.Operand.tmp 3) 7, type := 0, pos := "reasm.go:106", after := #[{ on := 0, ground := Go.Ground.phase }, { on := 1, ground := Go.Ground.phase }, { on := 2, ground := Go.Ground.phase }, { on := 3, ground := Go.Ground.phase }, { on := 4, ground := Go.Ground.phase }], guard := none }) (v := ?_) rfl (by kernel_rfl) (by kernel_rfl) (by kernel_rfl) (fun _ _ _ h => h) (Or.inl ⟨by rfl, ?_⟩) (by assumption) ?_
  rotate_left
  focus ((intro w hSw; (try dsimp only at hSw); clear hSw; go_simp) <;> (with_reducible rfl))
  try simp only [Act.put, List.setIfInBounds_toArray, List.set_cons_zero, List.set_cons_succ]
  refine wpAnyH_ready (rs := [6]) (by kernel_rfl) (by simp) ?_
  refine AllReadyH.cons (o := { dst := none, op := Go.Op.store 9 (Go.Operand.tmp 59) (Go.Operand.tmp 57), type := 0, pos := "reasm.go:106", after := #[{ on := 5, ground := Go.Ground.data }, { on := 2, ground := Go.Ground.data }, { on := 4, ground := Go.Ground.chain }, { on := 0, ground := Go.Ground.phase }, { on := 1, ground := Go.Ground.phase }, { on := 2, ground := Go.Ground.phase }, { on := 3, ground := Go.Ground.phase }, { on := 4, ground := Go.Ground.phase }], guard := none }) rfl (fun K hK => ?_) AllReadyH.nil
  have P10 := Lib.hid (lies_set (w := V9) P9.out 2 (.int .i64 0))
  have q13 : (V9.setCell ⟨pb, 2, none⟩ (.int .i64 0)).drew.cell? ⟨pb, 13, none⟩ = some (.string p.s) := lies_cell P10.out 13
  have f13 : (V9.setCell ⟨pb, 2, none⟩ (.int .i64 0)).drew.frozen? ⟨pb, 13, none⟩ = false := lies_frozen P10.out 13
  go_simp
  clear q13 f13
  refine hK.out _ _ ?_ (fun hHeld => ?_)
  · exact by obtain ⟨cs, fr, hp⟩ := hHeld.2.2; exact ⟨set_kind hHeld.1 hp (by decide) _ _, hHeld.2.1.of_block fun g cs fz _ e => set_kind e hp (by decide) _ _, set_same hp _ _⟩
  clear hK K
  try simp only [Act.put, List.setIfInBounds_toArray, List.set_cons_zero, List.set_cons_succ]
  refine wpAnyH_done (by kernel_rfl) ?_ _
  clear hHeld
  have P11 : Hid (((V9.setCell ⟨pb, 2, none⟩ (.int .i64 0)).setCell ⟨pb, 13, none⟩ (.string ⟨Wd.toArray⟩)).drew.heap[pb]? = some (whole p Wd).obj) := lies_set (w := V9.setCell ⟨pb, 2, none⟩ (.int .i64 0)) P10.out 13 _
  have G11 : Hid (V9.grownBy ((V9.setCell ⟨pb, 2, none⟩ (.int .i64 0)).setCell ⟨pb, 13, none⟩ (.string ⟨Wd.toArray⟩)) (some pb)) := Bi.grown_trans (Bi.grown_set pb 2 _) (Bi.grown_set pb 13 _)
  have R11 : Hid (((V9.setCell ⟨pb, 2, none⟩ (.int .i64 0)).setCell ⟨pb, 13, none⟩ (.string ⟨Wd.toArray⟩)).drew.heap[rb]? = some pkz) := (G11.out.block rb (lies_lt R9.out) (by intro e; injection e with e; exact Hpr.out e.symm)).trans R9.out
  have F11 : Hid (Fr base w ((V9.setCell ⟨pb, 2, none⟩ (.int .i64 0)).setCell ⟨pb, 13, none⟩ (.string ⟨Wd.toArray⟩)).drew) := (F9.out.fresh G11.out Hrbb.out.1 Hpw.out).drew
  have H11 : Hid (TabAt base ((V9.setCell ⟨pb, 2, none⟩ (.int .i64 0)).setCell ⟨pb, 13, none⟩ (.string ⟨Wd.toArray⟩)).drew tp most wait ⟨drop t.l k, t.now, t.dr⟩) := by
    obtain ⟨mb', n', D', ov', dv', h⟩ := H9.out
    exact ⟨mb', n', D', ov', dv', (h.away G11.out P9.out (by decide) (by decide) (by decide)).drewN 1⟩
  generalize ((V9.setCell ⟨pb, 2, none⟩ (.int .i64 0)).setCell ⟨pb, 13, none⟩ (.string ⟨Wd.toArray⟩)).drew = V12 at P11 R11 F11 H11 ⊢
  clear G11 P10 P9 X9 B9 H9 R9 F9
  simp only [whole] at P11
  obtain ⟨d0, d1, d2, d3, d4, d5, d6, d7, d8, d9, d10, d11, d12, d13⟩ := cells14 P11.out
  have LX : Hid (_ = some pkz) := R11.out
  obtain ⟨r0, r1, r2, r3, r4, r5, r6, r7, r8, r9, r10, r11, r12, r13⟩ := cells14 LX.out
  have f0 := lies_frozen LX.out 0
  have f1 := lies_frozen LX.out 1
  have f2 := lies_frozen LX.out 2
  have f3 := lies_frozen LX.out 3
  have f4 := lies_frozen LX.out 4
  have f5 := lies_frozen LX.out 5
  have f6 := lies_frozen LX.out 6
  have f7 := lies_frozen LX.out 7
  have f8 := lies_frozen LX.out 8
  have f9 := lies_frozen LX.out 9
  have f10 := lies_frozen LX.out 10
  have f11 := lies_frozen LX.out 11
  have f12 := lies_frozen LX.out 12
  have f13 := lies_frozen LX.out 13
  go_wp2
  (try simp only [Exit.inBlock, Exit.then])
  obtain ⟨k0, k1, k2, k3, k4, k5, k6, k7, k8, k9, k10, k11, k12, k13, _⟩ := read_14 (y0 := .int .i64 p.id) (y1 := .bool p.m) (y2 := .int .i64 0) (y3 := .int .i64 p.ttl) (y4 := .int .i64 p.pr) (y5 := .int .u8 p.a.a.toNat) (y6 := .int .u8 p.a.b.toNat) (y7 := .int .u8 p.a.c.toNat) (y8 := .int .u8 p.a.d.toNat) (y9 := .int .u8 p.b.a.toNat) (y10 := .int .u8 p.b.b.toNat) (y11 := .int .u8 p.b.c.toNat) (y12 := .int .u8 p.b.d.toNat) (y13 := .string ⟨Wd.toArray⟩) LX.out
  refine bodyPost_ret (by simp [results, Try.results24, go_sem, k0, k1, k2, k3, k4, k5, k6, k7, k8, k9, k10, k11, k12, k13]; try rfl) rfl ?_
  exact ⟨by show _ = Ending.returned (ans p (some (b.d ++ p.d)) 0); rw [← HWd.out]; rfl, stored_14 H11.out F11.out Hrbb.out.1 Hrbb.out.2 LX.out _ _ _ _ _ _ _ _ _ _ _ _ _ _⟩
end Go.Proofs.Ytgdjcoodjdckkaa
