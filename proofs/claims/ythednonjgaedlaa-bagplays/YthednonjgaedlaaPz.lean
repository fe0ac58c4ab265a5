/- Both regulators in memory; the region of BagPlays in which both Takes are called. -/
import Derived.Test.YthednonjgaedlaaAw
import Derived.Test.YthednonjgaedlaaRt
import Derived.Test.YthednonjgaedlaaOp
import Derived.Deep.RegionHeld3
set_option maxRecDepth 100000
set_option linter.unusedVariables false
namespace Go.Proofs.Ythednonjgaedlaa
open Go.RowKit
/-- Both regulators, and what they know. -/
structure Bl (w : World) (s : S) (V : World) : Prop where
  ok : s.Ok
  pr : V.heap[w.heap.size]? = some s.obj
  rf : ∃ z, V.heap[w.heap.size + 1]? = some (s.ref z) ∧ (s.g = true → z = s.a)
  bel : Below w.heap.size w V
  two : w.heap.size + 2 ≤ V.heap.size
theorem Bl.alloc {w : World} {s : S} {V : World} (h : Bl w s V) (o : Obj) : Bl w s (V.alloc o) :=
  ⟨h.ok, lies_alloc h.pr _, by obtain ⟨z, h1, h2⟩ := h.rf; exact ⟨z, lies_alloc h1 _, h2⟩, h.bel.alloc h.bel.size _, by have := h.two; rw [World.size_alloc]; omega⟩
theorem Bl.drewN {w : World} {s : S} {V : World} (h : Bl w s V) (m : Nat) : Bl w s (V.drewN m) := ⟨h.ok, h.pr, h.rf, below_drewN h.bel m, h.two⟩
/-- What of it is left while the program's has turned and the document's has not, or the other way round. -/
structure Ha (w : World) (s1 s2 : S) (V : World) : Prop where
  pr : V.heap[w.heap.size]? = some s1.obj
  rf : ∃ z, V.heap[w.heap.size + 1]? = some (s2.ref z) ∧ (s2.g = true → z = s2.a)
  bel : Below w.heap.size w V
  two : w.heap.size + 2 ≤ V.heap.size
theorem Ha.of {w : World} {s : S} {V : World} (h : Bl w s V) : Ha w s s V := ⟨h.pr, h.rf, h.bel, h.two⟩
theorem Ha.drew {w : World} {s1 s2 : S} {V : World} (h : Ha w s1 s2 V) : Ha w s1 s2 V.drew := ⟨h.pr, h.rf, h.bel.drew, h.two⟩
theorem Ha.bl {w : World} {s : S} {V : World} (h : Ha w s s V) (ok : s.Ok) : Bl w s V := ⟨ok, h.pr, h.rf, h.bel, h.two⟩
theorem Ha.prog {w : World} {s1 s2 s3 : S} {V V' : World} (h : Ha w s1 s2 V) (hp : V'.heap[w.heap.size]? = some s3.obj) (hg : V.grownBy V' (some w.heap.size)) : Ha w s3 s2 V' := by
  obtain ⟨z, h1, h2⟩ := h.rf
  refine ⟨hp, ⟨z, lies_grown h1 hg (by omega), h2⟩, h.bel.grown hg h.bel.size (fun k e => by cases e; exact Nat.le_refl _), Nat.le_trans h.two hg.size⟩
theorem Ha.doc {w : World} {s1 s2 s3 : S} {V V' : World} (h : Ha w s1 s2 V) (hp : ∃ z, V'.heap[w.heap.size + 1]? = some (s3.ref z) ∧ (s3.g = true → z = s3.a)) (hg : V.grownBy V' (some (w.heap.size + 1))) : Ha w s1 s3 V' := by
  refine ⟨lies_grown h.pr hg (by omega), hp, h.bel.grown hg h.bel.size (fun k e => by cases e; omega), Nat.le_trans h.two hg.size⟩
theorem op_kept {w V V' : World} {ob k : Nat} {cs : Array Value} {t : TypeId} (h : V.heap[ob]? = some (.cells cs t)) (hg : V.grownBy V' (some k)) (hk : k < w.heap.size + 2) (ho : w.heap.size + 2 ≤ ob) : V'.heap[ob]? = some (.cells cs t) := lies_grown h hg (by omega)

set_option maxHeartbeats 4000000 in
theorem reg15 {w V : World} {s : S} {ask x : Int} {ob : Nat} (hx : (Lit.int .i64 x).wf = true)
    (K0 : Hid (Bl w s V)) (O0 : Hid (V.heap[ob]? = some (.cells #[.int .i64 ask, .int .i64 x] 32))) (HO : Hid (w.heap.size + 2 ≤ ob)) (hn : s.n < 1000000) {u0 u1 u2 u3 u4 u6 u8 u9 u11 u12 u13 u14 u15 u16 u17 u18 u19 u20 u21 u22 u23 u24 u25 u26 u27 u28 u29 u30 u31 u32 u33 u34 u35 u36 u37 u38 u39 u40 u41 u42 u43 u44 u45 u46 u47 u48 u49 u50 u51 u52 u53 u54 u55 u56 u57 u58 u59 u60 u61 u62 u63 u64 u65 u66 u67 u68 u69 u70 u71 u72 u73 u74 u75 u76 u77 u78 u79 u80 u81 u82 u83 u84 u85 u86 u87 u88 u89 u90 u91 u92 : Value} {Q : Exit → Act → World → Prop} (HPN : ∀ (p : List PanicEntry) (a : Act) (dd : Nat) (vv : Value) (w : World), Q (.panic p) (a.put (some dd) vv) w → Q (.panic p) a w) (hQ : ∀ (wc : World), Bl w (s.next x) wc → ∀ x56 x57 x58 x59 x60 x61 x62 x63 : Value, Q .normal ⟨#[u0, u1, u2, u3, u4, (.pointer (some ⟨w.heap.size, 0, none⟩)), u6, (.pointer (some ⟨(w.heap.size + 1), 0, none⟩)), u8, u9, (.pointer (some ⟨ob, 0, none⟩)), u11, u12, u13, u14, u15, u16, u17, u18, u19, u20, u21, u22, u23, u24, u25, u26, u27, u28, u29, u30, u31, u32, u33, u34, u35, u36, u37, u38, u39, u40, u41, u42, u43, u44, u45, u46, u47, u48, u49, u50, u51, u52, u53, u54, u55, x56, x57, x58, x59, x60, x61, x62, x63, (.bool false), u65, u66, u67, u68, u69, u70, u71, u72, u73, u74, u75, u76, u77, u78, u79, u80, u81, u82, u83, u84, u85, u86, u87, u88, u89, u90, u91, u92], []⟩ wc) :
    Code.wp Try.prog (Code.region 15 #[{ dst := some 56, op := Go.Op.move (Go.Operand.tmp 5), type := 23, pos := "law.go:43", after := #[], guard := none }, { dst := some 57, op := Go.Op.fieldAddr 32 (Go.Operand.tmp 10) 1, type := 0, pos := "law.go:43", after := #[], guard := none }, { dst := some 58, op := Go.Op.load 3 (Go.Operand.tmp 57), type := 3, pos := "law.go:43", after := #[{ on := 1, ground := Go.Ground.data }], guard := none }, { dst := some 59, op := Go.Op.call { callee := Go.Callee.value (Go.Operand.func 12), args := #[Go.Operand.tmp 56, Go.Operand.tmp 58], argTypes := #[23, 3] }, type := 24, pos := "law.go:43", after := #[{ on := 0, ground := Go.Ground.data }, { on := 2, ground := Go.Ground.data }], guard := none }, { dst := some 60, op := Go.Op.move (Go.Operand.tmp 7), type := 27, pos := "law.go:43", after := #[], guard := none }, { dst := some 61, op := Go.Op.fieldAddr 32 (Go.Operand.tmp 10) 1, type := 0, pos := "law.go:43", after := #[], guard := none }, { dst := some 62, op := Go.Op.load 3 (Go.Operand.tmp 61), type := 3, pos := "law.go:43", after := #[{ on := 5, ground := Go.Ground.data }], guard := none }, { dst := some 63, op := Go.Op.call { callee := Go.Callee.value (Go.Operand.func 13), args := #[Go.Operand.tmp 60, Go.Operand.tmp 62], argTypes := #[27, 3] }, type := 24, pos := "law.go:43", after := #[{ on := 4, ground := Go.Ground.data }, { on := 6, ground := Go.Ground.data }, { on := 3, ground := Go.Ground.chain }], guard := none }, { dst := some 64, op := Go.Op.binOp Go.BinOp.neq 24 (Go.Operand.tmp 59) (Go.Operand.tmp 63) 24, type := 4, pos := "law.go:43", after := #[{ on := 3, ground := Go.Ground.data }, { on := 7, ground := Go.Ground.data }], guard := none }] true) Q ⟨#[u0, u1, u2, u3, u4, (.pointer (some ⟨w.heap.size, 0, none⟩)), u6, (.pointer (some ⟨(w.heap.size + 1), 0, none⟩)), u8, u9, (.pointer (some ⟨ob, 0, none⟩)), u11, u12, u13, u14, u15, u16, u17, u18, u19, u20, u21, u22, u23, u24, u25, u26, u27, u28, u29, u30, u31, u32, u33, u34, u35, u36, u37, u38, u39, u40, u41, u42, u43, u44, u45, u46, u47, u48, u49, u50, u51, u52, u53, u54, u55, u56, u57, u58, u59, u60, u61, u62, u63, u64, u65, u66, u67, u68, u69, u70, u71, u72, u73, u74, u75, u76, u77, u78, u79, u80, u81, u82, u83, u84, u85, u86, u87, u88, u89, u90, u91, u92], []⟩ V := by
  have KO := Lib.hid K0.out.ok
  have KN := Lib.hid (ok_next KO.out x hn)
  have H0 := Lib.hid (Ha.of K0.out).drew
  have O1 : Hid (V.drew.heap[ob]? = some (.cells #[.int .i64 ask, .int .i64 x] 32)) := O0.out
  have HP : Hid (∀ V : World, V.heap[w.heap.size]? = some s.obj → Calls Try.prog 12 #[.pointer (some ⟨w.heap.size, 0, none⟩), .int .i64 x] V fun e w' => e = .returned (.int .i64 (s.code x)) ∧ w'.heap[w.heap.size]? = some (s.next x).obj ∧ V.grownBy w' (some w.heap.size)) := fun V h => take_any w.heap.size s KO.out x hx V h
  have HR : Hid (∀ (V : World) (z : Nat), V.heap[w.heap.size + 1]? = some (s.ref z) → (s.g = true → z = s.a) → Calls Try.prog 13 #[.pointer (some ⟨w.heap.size + 1, 0, none⟩), .int .i64 x] V fun e w' => e = .returned (.int .i64 (s.code x)) ∧ (∃ z', w'.heap[w.heap.size + 1]? = some ((s.next x).ref z') ∧ ((s.next x).g = true → z' = (s.next x).a)) ∧ V.grownBy w' (some (w.heap.size + 1))) := fun V z h1 h2 => rtake_any (w.heap.size + 1) z s KO.out h2 x V h1
  clear K0 hx hn
  generalize s.code x = c at HP HR
  refine wp_region_held_drew (S := fun w' => w'.heap[ob]? = some (.cells #[.int .i64 ask, .int .i64 x] 32)) (by kernel_rfl) ?_ (fun hHeld => ?_)
  · exact O1.out
  refine wpAnyH_take (i := 0) (oi := { dst := some 56, op := Go.Op.move (Go.Operand.tmp 5), type := 23, pos := "law.go:43", after := #[], guard := none }) (v := ?_) rfl (by kernel_rfl) (by kernel_rfl) (by kernel_rfl) (fun _ _ _ h => HPN _ _ _ _ _ h) (Or.inl ⟨by rfl, ?_⟩) (by assumption) ?_
  rotate_left
  focus ((intro w hSw; (try dsimp only at hSw); clear hSw; go_simp) <;> (with_reducible rfl))
  try simp only [Act.put, List.setIfInBounds_toArray, List.set_cons_zero, List.set_cons_succ]
  refine wpAnyH_take (i := 1) (oi := { dst := some 57, op := Go.Op.fieldAddr 32 (Go.Operand.tmp 10) 1, type := 0, pos := "law.go:43", after := #[], guard := none }) (v := ?_) rfl (by kernel_rfl) (by kernel_rfl) (by kernel_rfl) (fun _ _ _ h => HPN _ _ _ _ _ h) (Or.inl ⟨by rfl, ?_⟩) (by assumption) ?_
  rotate_left
  focus ((intro w hSw; (try dsimp only at hSw); clear hSw; go_simp) <;> (with_reducible rfl))
  try simp only [Act.put, List.setIfInBounds_toArray, List.set_cons_zero, List.set_cons_succ]
  refine wpAnyH_take (i := 2) (oi := { dst := some 58, op := Go.Op.load 3 (Go.Operand.tmp 57), type := 3, pos := "law.go:43", after := #[{ on := 1, ground := Go.Ground.data }], guard := none }) (v := ?_) rfl (by kernel_rfl) (by kernel_rfl) (by kernel_rfl) (fun _ _ _ h => HPN _ _ _ _ _ h) (Or.inl ⟨by rfl, ?_⟩) (by assumption) ?_
  rotate_left
  focus ((intro w hSw; (try dsimp only at hSw); have hc : w.cell? ⟨ob, 1, none⟩ = some (.int .i64 x) := lies_cell hSw 1; clear hSw; go_simp) <;> (with_reducible rfl))
  try simp only [Act.put, List.setIfInBounds_toArray, List.set_cons_zero, List.set_cons_succ]
  refine wpAnyH_take (i := 4) (oi := { dst := some 60, op := Go.Op.move (Go.Operand.tmp 7), type := 27, pos := "law.go:43", after := #[], guard := none }) (v := ?_) rfl (by kernel_rfl) (by kernel_rfl) (by kernel_rfl) (fun _ _ _ h => HPN _ _ _ _ _ h) (Or.inl ⟨by rfl, ?_⟩) (by assumption) ?_
  rotate_left
  focus ((intro w hSw; (try dsimp only at hSw); clear hSw; go_simp) <;> (with_reducible rfl))
  try simp only [Act.put, List.setIfInBounds_toArray, List.set_cons_zero, List.set_cons_succ]
  refine wpAnyH_take (i := 5) (oi := { dst := some 61, op := Go.Op.fieldAddr 32 (Go.Operand.tmp 10) 1, type := 0, pos := "law.go:43", after := #[], guard := none }) (v := ?_) rfl (by kernel_rfl) (by kernel_rfl) (by kernel_rfl) (fun _ _ _ h => HPN _ _ _ _ _ h) (Or.inl ⟨by rfl, ?_⟩) (by assumption) ?_
  rotate_left
  focus ((intro w hSw; (try dsimp only at hSw); clear hSw; go_simp) <;> (with_reducible rfl))
  try simp only [Act.put, List.setIfInBounds_toArray, List.set_cons_zero, List.set_cons_succ]
  refine wpAnyH_take (i := 6) (oi := { dst := some 62, op := Go.Op.load 3 (Go.Operand.tmp 61), type := 3, pos := "law.go:43", after := #[{ on := 5, ground := Go.Ground.data }], guard := none }) (v := ?_) rfl (by kernel_rfl) (by kernel_rfl) (by kernel_rfl) (fun _ _ _ h => HPN _ _ _ _ _ h) (Or.inl ⟨by rfl, ?_⟩) (by assumption) ?_
  rotate_left
  focus ((intro w hSw; (try dsimp only at hSw); have hc : w.cell? ⟨ob, 1, none⟩ = some (.int .i64 x) := lies_cell hSw 1; clear hSw; go_simp) <;> (with_reducible rfl))
  try simp only [Act.put, List.setIfInBounds_toArray, List.set_cons_zero, List.set_cons_succ]
  refine wpAnyH_ready (rs := [3]) (by kernel_rfl) (by simp) ?_
  refine AllReadyH.cons (o := { dst := some 59, op := Go.Op.call { callee := Go.Callee.value (Go.Operand.func 12), args := #[Go.Operand.tmp 56, Go.Operand.tmp 58], argTypes := #[23, 3] }, type := 24, pos := "law.go:43", after := #[{ on := 0, ground := Go.Ground.data }, { on := 2, ground := Go.Ground.data }], guard := none }) rfl (fun K hK => ?_) AllReadyH.nil
  go_simp
  (go_at_call 12; (with_reducible refine (HP.out V.drew H0.out.pr).mono ?_); rintro e Va ⟨rfl, hp, hg⟩; go_wp2_with fail)
  have HVa := Lib.hid (H0.out.prog hp hg); have OVa := Lib.hid (op_kept (w := w) O1.out hg (by omega) HO.out)
  clear hp hg
  refine hK.out _ _ ?_ (fun hHeld => ?_)
  · exact OVa.out
  clear hK K
  try simp only [Act.put, List.setIfInBounds_toArray, List.set_cons_zero, List.set_cons_succ]
  refine wpAnyH_ready (rs := [7]) (by kernel_rfl) (by simp) ?_
  refine AllReadyH.cons (o := { dst := some 63, op := Go.Op.call { callee := Go.Callee.value (Go.Operand.func 13), args := #[Go.Operand.tmp 60, Go.Operand.tmp 62], argTypes := #[27, 3] }, type := 24, pos := "law.go:43", after := #[{ on := 4, ground := Go.Ground.data }, { on := 6, ground := Go.Ground.data }, { on := 3, ground := Go.Ground.chain }], guard := none }) rfl (fun K hK => ?_) AllReadyH.nil
  go_simp
  (obtain ⟨z, hz1, hz2⟩ := HVa.out.rf)
  (go_at_call 13; (with_reducible refine (HR.out Va z hz1 hz2).mono ?_); rintro e Vb ⟨rfl, hp, hg⟩; go_wp2_with fail)
  have HVb := Lib.hid (HVa.out.doc hp hg); have OVb := Lib.hid (op_kept (w := w) OVa.out hg (by omega) HO.out)
  clear hp hg hz1 hz2
  refine hK.out _ _ ?_ (fun hHeld => ?_)
  · exact OVb.out
  clear hK K
  try simp only [Act.put, List.setIfInBounds_toArray, List.set_cons_zero, List.set_cons_succ]
  refine wpAnyH_take (i := 8) (oi := { dst := some 64, op := Go.Op.binOp Go.BinOp.neq 24 (Go.Operand.tmp 59) (Go.Operand.tmp 63) 24, type := 4, pos := "law.go:43", after := #[{ on := 3, ground := Go.Ground.data }, { on := 7, ground := Go.Ground.data }], guard := none }) (v := ?_) rfl (by kernel_rfl) (by kernel_rfl) (by kernel_rfl) (fun _ _ _ h => HPN _ _ _ _ _ h) (Or.inl ⟨by rfl, ?_⟩) (by assumption) ?_
  rotate_left
  focus ((intro w hSw; (try dsimp only at hSw); clear hSw; go_simp) <;> (with_reducible rfl))
  try simp only [Act.put, List.setIfInBounds_toArray, List.set_cons_zero, List.set_cons_succ]
  refine wpAnyH_done (by kernel_rfl) ?_ _
  clear hHeld
  exact hQ _ (HVb.out.bl KN.out) _ _ _ _ _ _ _ _
end Go.Proofs.Ythednonjgaedlaa
