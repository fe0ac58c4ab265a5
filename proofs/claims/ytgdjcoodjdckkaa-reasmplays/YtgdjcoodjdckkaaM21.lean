/- The regions of the law's walk in which what Keys answers is held against the document's table. -/
import Derived.Test.YtgdjcoodjdckkaaM19
import Derived.WalkKit
import Derived.Deep.RegionHeld3
set_option linter.unusedVariables false
set_option maxRecDepth 100000
namespace Go.Proofs.Ytgdjcoodjdckkaa
open Go.RowKit Go.Proofs.PitotIp Go.Maps
open Go.Proofs.PitotReasm (Bg Tb Fine bad first next passed passE put keep)
open Go.Proofs.Ytgdjcoodjdckkaa.Bi (lies_lt lies_cell lies_frozen lies_alloc lies_set)

theorem BAt.below {w w' : World} {b o B : Nat} {k : Rb} (h : BAt w b o k) (hb : Below B w w') (hlt : b < B) : BAt w' b o k := by
  have hc : ∀ i, w'.cell? ⟨b, i, none⟩ = w.cell? ⟨b, i, none⟩ := fun i => hb.cell (p := ⟨b, i, none⟩) hlt
  obtain ⟨h0, h1, h2, h3, h4, h5, h6, h7, h8, h9⟩ := h
  exact ⟨(hc _).trans h0, (hc _).trans h1, (hc _).trans h2, (hc _).trans h3, (hc _).trans h4, (hc _).trans h5, (hc _).trans h6, (hc _).trans h7, (hc _).trans h8, (hc _).trans h9⟩
set_option maxHeartbeats 4000000 in
theorem reg21 {base : Nat} {W : World} {tp rp most m c c2 : Nat} {wait now dI : Int} {T : Tb K UInt8} {A A2 : Option Addr}
    (HT : Hid (TabAt base W tp most wait T)) (HR : Hid (W.heap[rp]? = some (refC (.slice A2 m c2) most wait now dI)))
    (HDR : Hid (∀ V, TabAt base V tp most wait T → Calls Try.prog 18 #[.pointer (some ⟨tp, 0, none⟩)] V fun e V' => e = .returned (.int .i64 dI) ∧ V' = V)) {u0 u1 u2 u3 u4 u5 u6 u8 u10 u11 u12 u13 u14 u15 u16 u17 u18 u20 u21 u22 u23 u24 u25 u26 u27 u28 u29 u30 u31 u32 u33 u34 u35 u36 u37 u38 u39 u40 u41 u42 u43 u44 u45 u46 u47 u48 u49 u50 u51 u52 u53 u54 u55 u56 u57 u58 u59 u60 u61 u62 u63 u64 u65 u66 u67 u68 u69 u70 u71 u72 u73 u74 u75 u76 u77 u78 u79 u80 u81 u82 u83 u84 u85 u86 u87 u88 u89 u90 u91 u92 u93 u94 u95 u96 u97 u98 u99 u100 u101 u102 u103 u104 u105 u106 u107 u108 u109 u110 u111 u112 u113 u114 u115 u116 u117 u118 u119 u120 u121 u122 u123 u124 u125 u126 u127 u128 u129 u130 u131 u132 u133 u134 u135 u136 u137 u138 u139 u140 u141 u142 u143 u144 u145 u146 u147 u148 u149 u150 u151 u152 u153 u154 u155 u156 u157 u158 u159 u160 u161 u162 u163 u164 u165 u166 u167 u168 u169 u170 u171 u172 u173 : Value} {Q : Exit → Act → World → Prop} (HPN : ∀ (p : List PanicEntry) (a : Act) (dd : Nat) (vv : Value) (w : World), Q (.panic p) (a.put (some dd) vv) w → Q (.panic p) a w) (hQ : ∀ (wc : World), wc = W.drew → ∀ x117 x118 x119 x120 x121 x122 x123 x124 x125 x126 x127 x128 x129 x130 x131 x132 : Value, Q .normal ⟨#[u0, u1, u2, u3, u4, u5, u6, (.pointer (some ⟨tp, 0, none⟩)), u8, (.pointer (some ⟨rp, 0, none⟩)), u10, u11, u12, u13, u14, u15, u16, u17, u18, (.slice A m c), u20, u21, u22, u23, u24, u25, u26, u27, u28, u29, u30, u31, u32, u33, u34, u35, u36, u37, u38, u39, u40, u41, u42, u43, u44, u45, u46, u47, u48, u49, u50, u51, u52, u53, u54, u55, u56, u57, u58, u59, u60, u61, u62, u63, u64, u65, u66, u67, u68, u69, u70, u71, u72, u73, u74, u75, u76, u77, u78, u79, u80, u81, u82, u83, u84, u85, u86, u87, u88, u89, u90, u91, u92, u93, u94, u95, u96, u97, u98, u99, u100, u101, u102, u103, u104, u105, u106, u107, u108, u109, u110, u111, u112, u113, u114, u115, u116, x117, x118, x119, x120, x121, x122, x123, x124, x125, x126, x127, x128, x129, x130, x131, x132, (.bool false), u134, u135, u136, u137, u138, u139, u140, u141, u142, u143, u144, u145, u146, u147, u148, u149, u150, u151, u152, u153, u154, u155, u156, u157, u158, u159, u160, u161, u162, u163, u164, u165, u166, u167, u168, u169, u170, u171, u172, u173], []⟩ wc) :
    Code.wp Try.prog (Code.region 21 #[{ dst := some 117, op := Go.Op.move (Go.Operand.tmp 19), type := 45, pos := "law.go:66", after := #[], guard := none }, { dst := some 118, op := Go.Op.call { callee := Go.Callee.builtin Go.Builtin.len, args := #[Go.Operand.tmp 117], argTypes := #[45] }, type := 3, pos := "law.go:66", after := #[{ on := 0, ground := Go.Ground.data }], guard := none }, { dst := some 119, op := Go.Op.move (Go.Operand.tmp 9), type := 27, pos := "law.go:66", after := #[], guard := none }, { dst := some 120, op := Go.Op.nilCheck (Go.Operand.tmp 119), type := 0, pos := "law.go:66", after := #[{ on := 2, ground := Go.Ground.data }], guard := none }, { dst := some 121, op := Go.Op.fieldAddr 49 (Go.Operand.tmp 120) 0, type := 0, pos := "law.go:66", after := #[{ on := 3, ground := Go.Ground.data }], guard := none }, { dst := some 122, op := Go.Op.load 47 (Go.Operand.tmp 121), type := 47, pos := "law.go:66", after := #[{ on := 4, ground := Go.Ground.data }], guard := none }, { dst := some 123, op := Go.Op.call { callee := Go.Callee.builtin Go.Builtin.len, args := #[Go.Operand.tmp 122], argTypes := #[47] }, type := 3, pos := "law.go:66", after := #[{ on := 5, ground := Go.Ground.data }], guard := none }, { dst := some 124, op := Go.Op.binOp Go.BinOp.neq 3 (Go.Operand.tmp 118) (Go.Operand.tmp 123) 3, type := 4, pos := "law.go:66", after := #[{ on := 1, ground := Go.Ground.data }, { on := 6, ground := Go.Ground.data }], guard := none }, { dst := some 125, op := Go.Op.move (Go.Operand.tmp 124), type := 4, pos := "law.go:66", after := #[{ on := 7, ground := Go.Ground.data }], guard := none }, { dst := some 126, op := Go.Op.move (Go.Operand.tmp 7), type := 23, pos := "law.go:66", after := #[{ on := 8, ground := Go.Ground.guard }], guard := some (8, false) }, { dst := some 127, op := Go.Op.call { callee := Go.Callee.value (Go.Operand.func 18), args := #[Go.Operand.tmp 126], argTypes := #[23] }, type := 3, pos := "law.go:66", after := #[{ on := 9, ground := Go.Ground.data }, { on := 8, ground := Go.Ground.chain }, { on := 8, ground := Go.Ground.guard }], guard := some (8, false) }, { dst := some 128, op := Go.Op.move (Go.Operand.tmp 9), type := 27, pos := "law.go:66", after := #[{ on := 8, ground := Go.Ground.guard }], guard := some (8, false) }, { dst := some 129, op := Go.Op.nilCheck (Go.Operand.tmp 128), type := 0, pos := "law.go:66", after := #[{ on := 11, ground := Go.Ground.data }, { on := 8, ground := Go.Ground.guard }], guard := some (8, false) }, { dst := some 130, op := Go.Op.fieldAddr 49 (Go.Operand.tmp 129) 4, type := 0, pos := "law.go:66", after := #[{ on := 12, ground := Go.Ground.data }, { on := 8, ground := Go.Ground.guard }], guard := some (8, false) }, { dst := some 131, op := Go.Op.load 3 (Go.Operand.tmp 130), type := 3, pos := "law.go:66", after := #[{ on := 13, ground := Go.Ground.data }, { on := 8, ground := Go.Ground.guard }], guard := some (8, false) }, { dst := some 132, op := Go.Op.binOp Go.BinOp.neq 3 (Go.Operand.tmp 127) (Go.Operand.tmp 131) 3, type := 4, pos := "law.go:66", after := #[{ on := 10, ground := Go.Ground.data }, { on := 14, ground := Go.Ground.data }, { on := 8, ground := Go.Ground.guard }], guard := some (8, false) }, { dst := some 133, op := Go.Op.pick (Go.Operand.tmp 125) (Go.Operand.const (Go.Value.bool true)) (Go.Operand.tmp 132), type := 4, pos := "law.go:66", after := #[{ on := 8, ground := Go.Ground.data }, { on := 15, ground := Go.Ground.data }], guard := none }] true) Q ⟨#[u0, u1, u2, u3, u4, u5, u6, (.pointer (some ⟨tp, 0, none⟩)), u8, (.pointer (some ⟨rp, 0, none⟩)), u10, u11, u12, u13, u14, u15, u16, u17, u18, (.slice A m c), u20, u21, u22, u23, u24, u25, u26, u27, u28, u29, u30, u31, u32, u33, u34, u35, u36, u37, u38, u39, u40, u41, u42, u43, u44, u45, u46, u47, u48, u49, u50, u51, u52, u53, u54, u55, u56, u57, u58, u59, u60, u61, u62, u63, u64, u65, u66, u67, u68, u69, u70, u71, u72, u73, u74, u75, u76, u77, u78, u79, u80, u81, u82, u83, u84, u85, u86, u87, u88, u89, u90, u91, u92, u93, u94, u95, u96, u97, u98, u99, u100, u101, u102, u103, u104, u105, u106, u107, u108, u109, u110, u111, u112, u113, u114, u115, u116, u117, u118, u119, u120, u121, u122, u123, u124, u125, u126, u127, u128, u129, u130, u131, u132, u133, u134, u135, u136, u137, u138, u139, u140, u141, u142, u143, u144, u145, u146, u147, u148, u149, u150, u151, u152, u153, u154, u155, u156, u157, u158, u159, u160, u161, u162, u163, u164, u165, u166, u167, u168, u169, u170, u171, u172, u173], []⟩ W := by
  refine wp_region_held_drew (S := fun w' => TabAt base w' tp most wait T ∧ w'.heap[rp]? = some (refC (.slice A2 m c2) most wait now dI)) (by kernel_rfl) ?_ (fun hHeld => ?_)
  · exact ⟨HT.out.below ((Below.refl _ W).drew), HR.out⟩
  refine wpAnyH_take (i := 0) (oi := { dst := some 117, op := Go.Op.move (Go.Operand.tmp 19), type := 45, pos := "law.go:66", after := #[], guard := none }) (v := ?_) rfl (by kernel_rfl) (by kernel_rfl) (by kernel_rfl) (fun _ _ _ h => HPN _ _ _ _ _ h) (Or.inl ⟨by rfl, ?_⟩) (by assumption) ?_
  rotate_left
  focus ((intro w hSw; (try dsimp only at hSw); clear hSw; go_simp) <;> (with_reducible rfl))
  try simp only [Act.put, List.setIfInBounds_toArray, List.set_cons_zero, List.set_cons_succ]
  refine wpAnyH_take (i := 1) (oi := { dst := some 118, op := Go.Op.call { callee := Go.Callee.builtin Go.Builtin.len, args := #[Go.Operand.tmp 117], argTypes := #[45] }, type := 3, pos := "law.go:66", after := #[{ on := 0, ground := Go.Ground.data }], guard := none }) (v := ?_) rfl (by kernel_rfl) (by kernel_rfl) (by kernel_rfl) (fun _ _ _ h => HPN _ _ _ _ _ h) (Or.inl ⟨by rfl, ?_⟩) (by assumption) ?_
  rotate_left
  focus ((intro w hSw; (try dsimp only at hSw); clear hSw; go_simp) <;> (with_reducible rfl))
  try simp only [Act.put, List.setIfInBounds_toArray, List.set_cons_zero, List.set_cons_succ]
  refine wpAnyH_take (i := 2) (oi := { dst := some 119, op := Go.Op.move (Go.Operand.tmp 9), type := 27, pos := "law.go:66", after := #[], guard := none }) (v := ?_) rfl (by kernel_rfl) (by kernel_rfl) (by kernel_rfl) (fun _ _ _ h => HPN _ _ _ _ _ h) (Or.inl ⟨by rfl, ?_⟩) (by assumption) ?_
  rotate_left
  focus ((intro w hSw; (try dsimp only at hSw); clear hSw; go_simp) <;> (with_reducible rfl))
  try simp only [Act.put, List.setIfInBounds_toArray, List.set_cons_zero, List.set_cons_succ]
  refine wpAnyH_take (i := 3) (oi := { dst := some 120, op := Go.Op.nilCheck (Go.Operand.tmp 119), type := 0, pos := "law.go:66", after := #[{ on := 2, ground := Go.Ground.data }], guard := none }) (v := ?_) rfl (by kernel_rfl) (by kernel_rfl) (by kernel_rfl) (fun _ _ _ h => HPN _ _ _ _ _ h) (Or.inl ⟨by rfl, ?_⟩) (by assumption) ?_
  rotate_left
  focus ((intro w hSw; (try dsimp only at hSw); clear hSw; go_simp) <;> (with_reducible rfl))
  try simp only [Act.put, List.setIfInBounds_toArray, List.set_cons_zero, List.set_cons_succ]
  refine wpAnyH_take (i := 4) (oi := { dst := some 121, op := Go.Op.fieldAddr 49 (Go.Operand.tmp 120) 0, type := 0, pos := "law.go:66", after := #[{ on := 3, ground := Go.Ground.data }], guard := none }) (v := ?_) rfl (by kernel_rfl) (by kernel_rfl) (by kernel_rfl) (fun _ _ _ h => HPN _ _ _ _ _ h) (Or.inl ⟨by rfl, ?_⟩) (by assumption) ?_
  rotate_left
  focus ((intro w hSw; (try dsimp only at hSw); clear hSw; go_simp) <;> (with_reducible rfl))
  try simp only [Act.put, List.setIfInBounds_toArray, List.set_cons_zero, List.set_cons_succ]
  refine wpAnyH_take (i := 5) (oi := { dst := some 122, op := Go.Op.load 47 (Go.Operand.tmp 121), type := 47, pos := "law.go:66", after := #[{ on := 4, ground := Go.Ground.data }], guard := none }) (v := ?_) rfl (by kernel_rfl) (by kernel_rfl) (by kernel_rfl) (fun _ _ _ h => HPN _ _ _ _ _ h) (Or.inl ⟨by rfl, ?_⟩) (by assumption) ?_
  rotate_left
  focus ((intro w hSw; (try dsimp only at hSw); have hc : w.cell? ⟨rp, 0, none⟩ = some (.slice A2 m c2) := lies_cell hSw.2 0; clear hSw; go_simp) <;> (with_reducible rfl))
  try simp only [Act.put, List.setIfInBounds_toArray, List.set_cons_zero, List.set_cons_succ]
  refine wpAnyH_take (i := 6) (oi := { dst := some 123, op := Go.Op.call { callee := Go.Callee.builtin Go.Builtin.len, args := #[Go.Operand.tmp 122], argTypes := #[47] }, type := 3, pos := "law.go:66", after := #[{ on := 5, ground := Go.Ground.data }], guard := none }) (v := ?_) rfl (by kernel_rfl) (by kernel_rfl) (by kernel_rfl) (fun _ _ _ h => HPN _ _ _ _ _ h) (Or.inl ⟨by rfl, ?_⟩) (by assumption) ?_
  rotate_left
  focus ((intro w hSw; (try dsimp only at hSw); clear hSw; go_simp) <;> (with_reducible rfl))
  try simp only [Act.put, List.setIfInBounds_toArray, List.set_cons_zero, List.set_cons_succ]
  refine wpAnyH_take (i := 7) (oi := { dst := some 124, op := Go.Op.binOp Go.BinOp.neq 3 (Go.Operand.tmp 118) (Go.Operand.tmp 123) 3, type := 4, pos := "law.go:66", after := #[{ on := 1, ground := Go.Ground.data }, { on := 6, ground := Go.Ground.data }], guard := none }) (v := ?_) rfl (by kernel_rfl) (by kernel_rfl) (by kernel_rfl) (fun _ _ _ h => HPN _ _ _ _ _ h) (Or.inl ⟨by rfl, ?_⟩) (by assumption) ?_
  rotate_left
  focus ((intro w hSw; (try dsimp only at hSw); clear hSw; go_simp) <;> (with_reducible rfl))
  try simp only [Act.put, List.setIfInBounds_toArray, List.set_cons_zero, List.set_cons_succ]
  refine wpAnyH_take (i := 8) (oi := { dst := some 125, op := Go.Op.move (Go.Operand.tmp 124), type := 4, pos := "law.go:66", after := #[{ on := 7, ground := Go.Ground.data }], guard := none }) (v := ?_) rfl (by kernel_rfl) (by kernel_rfl) (by kernel_rfl) (fun _ _ _ h => HPN _ _ _ _ _ h) (Or.inl ⟨by rfl, ?_⟩) (by assumption) ?_
  rotate_left
  focus ((intro w hSw; (try dsimp only at hSw); clear hSw; go_simp) <;> (with_reducible rfl))
  try simp only [Act.put, List.setIfInBounds_toArray, List.set_cons_zero, List.set_cons_succ]
  refine wpAnyH_take (i := 9) (oi := { dst := some 126, op := Go.Op.move (Go.Operand.tmp 7), type := 23, pos := "law.go:66", after := #[{ on := 8, ground := Go.Ground.guard }], guard := some (8, false) }) (v := ?_) rfl (by kernel_rfl) (by kernel_rfl) (by kernel_rfl) (fun _ _ _ h => HPN _ _ _ _ _ h) (Or.inl ⟨by rfl, ?_⟩) (by assumption) ?_
  rotate_left
  focus ((intro w hSw; (try dsimp only at hSw); clear hSw; go_simp) <;> (with_reducible rfl))
  try simp only [Act.put, List.setIfInBounds_toArray, List.set_cons_zero, List.set_cons_succ]
  refine wpAnyH_take (i := 11) (oi := { dst := some 128, op := Go.Op.move (Go.Operand.tmp 9), type := 27, pos := "law.go:66", after := #[{ on := 8, ground := Go.Ground.guard }], guard := some (8, false) }) (v := ?_) rfl (by kernel_rfl) (by kernel_rfl) (by kernel_rfl) (fun _ _ _ h => HPN _ _ _ _ _ h) (Or.inl ⟨by rfl, ?_⟩) (by assumption) ?_
  rotate_left
  focus ((intro w hSw; (try dsimp only at hSw); clear hSw; go_simp) <;> (with_reducible rfl))
  try simp only [Act.put, List.setIfInBounds_toArray, List.set_cons_zero, List.set_cons_succ]
  refine wpAnyH_take (i := 12) (oi := { dst := some 129, op := Go.Op.nilCheck (Go.Operand.tmp 128), type := 0, pos := "law.go:66", after := #[{ on := 11, ground := Go.Ground.data }, { on := 8, ground := Go.Ground.guard }], guard := some (8, false) }) (v := ?_) rfl (by kernel_rfl) (by kernel_rfl) (by kernel_rfl) (fun _ _ _ h => HPN _ _ _ _ _ h) (Or.inl ⟨by rfl, ?_⟩) (by assumption) ?_
  rotate_left
  focus ((intro w hSw; (try dsimp only at hSw); clear hSw; go_simp) <;> (with_reducible rfl))
  try simp only [Act.put, List.setIfInBounds_toArray, List.set_cons_zero, List.set_cons_succ]
  refine wpAnyH_take (i := 13) (oi := { dst := some 130, op := Go.Op.fieldAddr 49 (Go.Operand.tmp 129) 4, type := 0, pos := "law.go:66", after := #[{ on := 12, ground := Go.Ground.data }, { on := 8, ground := Go.Ground.guard }], guard := some (8, false) }) (v := ?_) rfl (by kernel_rfl) (by kernel_rfl) (by kernel_rfl) (fun _ _ _ h => HPN _ _ _ _ _ h) (Or.inl ⟨by rfl, ?_⟩) (by assumption) ?_
  rotate_left
  focus ((intro w hSw; (try dsimp only at hSw); clear hSw; go_simp) <;> (with_reducible rfl))
  try simp only [Act.put, List.setIfInBounds_toArray, List.set_cons_zero, List.set_cons_succ]
  refine wpAnyH_take (i := 14) (oi := { dst := some 131, op := Go.Op.load 3 (Go.Operand.tmp 130), type := 3, pos := "law.go:66", after := #[{ on := 13, ground := Go.Ground.data }, { on := 8, ground := Go.Ground.guard }], guard := some (8, false) }) (v := ?_) rfl (by kernel_rfl) (by kernel_rfl) (by kernel_rfl) (fun _ _ _ h => HPN _ _ _ _ _ h) (Or.inl ⟨by rfl, ?_⟩) (by assumption) ?_
  rotate_left
  focus ((intro w hSw; (try dsimp only at hSw); have hc : w.cell? ⟨rp, 4, none⟩ = some (.int .i64 dI) := lies_cell hSw.2 4; clear hSw; go_simp) <;> (with_reducible rfl))
  try simp only [Act.put, List.setIfInBounds_toArray, List.set_cons_zero, List.set_cons_succ]
  refine wpAnyH_ready (rs := [10]) (by kernel_rfl) (by simp) ?_
  refine AllReadyH.cons (o := { dst := some 127, op := Go.Op.call { callee := Go.Callee.value (Go.Operand.func 18), args := #[Go.Operand.tmp 126], argTypes := #[23] }, type := 3, pos := "law.go:66", after := #[{ on := 9, ground := Go.Ground.data }, { on := 8, ground := Go.Ground.chain }, { on := 8, ground := Go.Ground.guard }], guard := some (8, false) }) rfl (fun K hK => ?_) AllReadyH.nil
  go_simp
  (go_at_call 18; (with_reducible refine (HDR.out _ hHeld.1).mono ?_); rintro e Va ⟨rfl, rfl⟩; go_wp2_with fail)
  refine hK.out _ _ ?_ (fun hHeld => ?_)
  · exact hHeld
  clear hK K
  try simp only [Act.put, List.setIfInBounds_toArray, List.set_cons_zero, List.set_cons_succ]
  refine wpAnyH_take (i := 15) (oi := { dst := some 132, op := Go.Op.binOp Go.BinOp.neq 3 (Go.Operand.tmp 127) (Go.Operand.tmp 131) 3, type := 4, pos := "law.go:66", after := #[{ on := 10, ground := Go.Ground.data }, { on := 14, ground := Go.Ground.data }, { on := 8, ground := Go.Ground.guard }], guard := some (8, false) }) (v := ?_) rfl (by kernel_rfl) (by kernel_rfl) (by kernel_rfl) (fun _ _ _ h => HPN _ _ _ _ _ h) (Or.inl ⟨by rfl, ?_⟩) (by assumption) ?_
  rotate_left
  focus ((intro w hSw; (try dsimp only at hSw); clear hSw; go_simp) <;> (with_reducible rfl))
  try simp only [Act.put, List.setIfInBounds_toArray, List.set_cons_zero, List.set_cons_succ]
  refine wpAnyH_take (i := 16) (oi := { dst := some 133, op := Go.Op.pick (Go.Operand.tmp 125) (Go.Operand.const (Go.Value.bool true)) (Go.Operand.tmp 132), type := 4, pos := "law.go:66", after := #[{ on := 8, ground := Go.Ground.data }, { on := 15, ground := Go.Ground.data }], guard := none }) (v := ?_) rfl (by kernel_rfl) (by kernel_rfl) (by kernel_rfl) (fun _ _ _ h => HPN _ _ _ _ _ h) (Or.inl ⟨by rfl, ?_⟩) (by assumption) ?_
  rotate_left
  focus ((intro w hSw; (try dsimp only at hSw); clear hSw; go_simp) <;> (with_reducible rfl))
  try simp only [Act.put, List.setIfInBounds_toArray, List.set_cons_zero, List.set_cons_succ]
  refine wpAnyH_done (by kernel_rfl) ?_ _
  clear hHeld
  exact hQ _ rfl _ _ _ _ _ _ _ _ _ _ _ _ _ _ _ _

set_option maxHeartbeats 4000000 in
theorem reg26 {W : World} {g m c k : Nat} {kk : K} (HK : Hid (KAt W g (k * 10) kk)) (hlt : Hid (g < W.heap.size)) (hkm : k < m) {u0 u1 u2 u3 u4 u5 u6 u7 u8 u9 u10 u11 u12 u13 u14 u15 u16 u17 u18 u21 u22 u23 u24 u25 u26 u27 u28 u29 u30 u31 u32 u33 u34 u35 u36 u37 u38 u39 u40 u41 u42 u43 u44 u45 u46 u47 u48 u49 u50 u51 u52 u53 u54 u55 u56 u57 u58 u59 u60 u61 u62 u63 u64 u65 u66 u67 u68 u69 u70 u71 u72 u73 u74 u75 u76 u77 u78 u79 u80 u81 u82 u83 u84 u85 u86 u87 u88 u89 u90 u91 u92 u93 u94 u95 u96 u97 u98 u99 u100 u101 u102 u103 u104 u105 u106 u107 u108 u109 u110 u111 u112 u113 u114 u115 u116 u117 u118 u119 u120 u121 u122 u123 u124 u125 u126 u127 u128 u129 u130 u131 u132 u133 u134 u135 u136 u137 u138 u139 u140 u141 u142 u143 u144 u145 u146 u147 u148 u149 u150 u151 u152 u153 u154 u155 u156 u157 u158 u159 u160 u161 u162 u163 u164 u165 u166 u167 u168 u169 u170 u171 u172 u173 : Value} {Q : Exit → Act → World → Prop} (HPN : ∀ (p : List PanicEntry) (a : Act) (dd : Nat) (vv : Value) (w : World), Q (.panic p) (a.put (some dd) vv) w → Q (.panic p) a w) (hQ : ∀ (gx : Nat) (wc : World), (wc.heap[gx]? = some (.cells #[.int .i64 kk.id, .bool false, .int .i64 0, .int .i64 0, .int .i64 kk.pr, .string (ipB kk.a), .string (ipB kk.b), .string ⟨#[]⟩] 41) ∧ Below W.heap.size W wc) → ∀ x140 x141 x142 x143 x144 x145 x146 x147 x148 x149 x150 x151 x152 x153 x154 x155 x156 x157 x158 x159 x160 x161 : Value, Q .normal ⟨#[u0, u1, u2, u3, u4, u5, u6, u7, u8, u9, u10, u11, u12, u13, u14, u15, u16, u17, u18, (.slice (some ⟨g, 0, none⟩) m c), (.int .i64 k), (.pointer (some ⟨gx, 0, none⟩)), u22, u23, u24, u25, u26, u27, u28, u29, u30, u31, u32, u33, u34, u35, u36, u37, u38, u39, u40, u41, u42, u43, u44, u45, u46, u47, u48, u49, u50, u51, u52, u53, u54, u55, u56, u57, u58, u59, u60, u61, u62, u63, u64, u65, u66, u67, u68, u69, u70, u71, u72, u73, u74, u75, u76, u77, u78, u79, u80, u81, u82, u83, u84, u85, u86, u87, u88, u89, u90, u91, u92, u93, u94, u95, u96, u97, u98, u99, u100, u101, u102, u103, u104, u105, u106, u107, u108, u109, u110, u111, u112, u113, u114, u115, u116, u117, u118, u119, u120, u121, u122, u123, u124, u125, u126, u127, u128, u129, u130, u131, u132, u133, u134, u135, u136, u137, u138, u139, x140, x141, x142, x143, x144, x145, x146, x147, x148, x149, x150, x151, x152, x153, x154, x155, x156, x157, x158, x159, x160, x161, u162, u163, u164, u165, u166, u167, u168, u169, u170, u171, u172, u173], []⟩ wc) :
    Code.wp Try.prog (Code.region 26 #[{ dst := some 140, op := Go.Op.move (Go.Operand.tmp 19), type := 45, pos := "law.go:70", after := #[], guard := none }, { dst := some 141, op := Go.Op.move (Go.Operand.tmp 20), type := 3, pos := "law.go:70", after := #[], guard := none }, { dst := some 142, op := Go.Op.indexAddr 45 (Go.Operand.tmp 140) (Go.Operand.tmp 141), type := 0, pos := "law.go:70", after := #[{ on := 0, ground := Go.Ground.data }, { on := 1, ground := Go.Ground.data }], guard := none }, { dst := some 143, op := Go.Op.fieldAddr 52 (Go.Operand.tmp 142) 0, type := 0, pos := "law.go:70", after := #[{ on := 2, ground := Go.Ground.data }], guard := none }, { dst := some 144, op := Go.Op.load 32 (Go.Operand.tmp 143), type := 32, pos := "law.go:70", after := #[{ on := 3, ground := Go.Ground.data }], guard := none }, { dst := some 145, op := Go.Op.move (Go.Operand.tmp 19), type := 45, pos := "law.go:70", after := #[], guard := none }, { dst := some 146, op := Go.Op.move (Go.Operand.tmp 20), type := 3, pos := "law.go:70", after := #[], guard := none }, { dst := some 147, op := Go.Op.indexAddr 45 (Go.Operand.tmp 145) (Go.Operand.tmp 146), type := 0, pos := "law.go:70", after := #[{ on := 5, ground := Go.Ground.data }, { on := 6, ground := Go.Ground.data }], guard := none }, { dst := some 148, op := Go.Op.fieldAddr 52 (Go.Operand.tmp 147) 1, type := 0, pos := "law.go:70", after := #[{ on := 7, ground := Go.Ground.data }], guard := none }, { dst := some 149, op := Go.Op.load 32 (Go.Operand.tmp 148), type := 32, pos := "law.go:70", after := #[{ on := 8, ground := Go.Ground.data }], guard := none }, { dst := some 150, op := Go.Op.move (Go.Operand.tmp 19), type := 45, pos := "law.go:70", after := #[], guard := none }, { dst := some 151, op := Go.Op.move (Go.Operand.tmp 20), type := 3, pos := "law.go:70", after := #[], guard := none }, { dst := some 152, op := Go.Op.indexAddr 45 (Go.Operand.tmp 150) (Go.Operand.tmp 151), type := 0, pos := "law.go:70", after := #[{ on := 10, ground := Go.Ground.data }, { on := 11, ground := Go.Ground.data }], guard := none }, { dst := some 153, op := Go.Op.fieldAddr 52 (Go.Operand.tmp 152) 2, type := 0, pos := "law.go:70", after := #[{ on := 12, ground := Go.Ground.data }], guard := none }, { dst := some 154, op := Go.Op.load 3 (Go.Operand.tmp 153), type := 3, pos := "law.go:70", after := #[{ on := 13, ground := Go.Ground.data }], guard := none }, { dst := some 155, op := Go.Op.move (Go.Operand.tmp 19), type := 45, pos := "law.go:70", after := #[], guard := none }, { dst := some 156, op := Go.Op.move (Go.Operand.tmp 20), type := 3, pos := "law.go:70", after := #[], guard := none }, { dst := some 157, op := Go.Op.indexAddr 45 (Go.Operand.tmp 155) (Go.Operand.tmp 156), type := 0, pos := "law.go:70", after := #[{ on := 15, ground := Go.Ground.data }, { on := 16, ground := Go.Ground.data }], guard := none }, { dst := some 158, op := Go.Op.fieldAddr 52 (Go.Operand.tmp 157) 3, type := 0, pos := "law.go:70", after := #[{ on := 17, ground := Go.Ground.data }], guard := none }, { dst := some 159, op := Go.Op.load 3 (Go.Operand.tmp 158), type := 3, pos := "law.go:70", after := #[{ on := 18, ground := Go.Ground.data }], guard := none }, { dst := some 160, op := Go.Op.build 34 #[(5, Go.Operand.tmp 144), (6, Go.Operand.tmp 149), (4, Go.Operand.tmp 154), (0, Go.Operand.tmp 159)], type := 34, pos := "law.go:70", after := #[{ on := 4, ground := Go.Ground.data }, { on := 9, ground := Go.Ground.data }, { on := 14, ground := Go.Ground.data }, { on := 19, ground := Go.Ground.data }], guard := none }, { dst := some 161, op := Go.Op.call { callee := Go.Callee.value (Go.Operand.func 16), args := #[Go.Operand.tmp 160, Go.Operand.const (Go.Value.bool false)], argTypes := #[34, 4] }, type := 41, pos := "law.go:70", after := #[{ on := 20, ground := Go.Ground.data }], guard := none }, { dst := some 21, op := Go.Op.alloc 41, type := 0, pos := "law.go:70", after := #[], guard := none }, { dst := none, op := Go.Op.store 41 (Go.Operand.tmp 21) (Go.Operand.tmp 161), type := 0, pos := "law.go:70", after := #[{ on := 22, ground := Go.Ground.data }, { on := 21, ground := Go.Ground.data }, { on := 21, ground := Go.Ground.chain }, { on := 0, ground := Go.Ground.phase }, { on := 1, ground := Go.Ground.phase }, { on := 2, ground := Go.Ground.phase }, { on := 3, ground := Go.Ground.phase }, { on := 4, ground := Go.Ground.phase }, { on := 5, ground := Go.Ground.phase }, { on := 6, ground := Go.Ground.phase }, { on := 7, ground := Go.Ground.phase }, { on := 8, ground := Go.Ground.phase }, { on := 9, ground := Go.Ground.phase }, { on := 10, ground := Go.Ground.phase }, { on := 11, ground := Go.Ground.phase }, { on := 12, ground := Go.Ground.phase }, { on := 13, ground := Go.Ground.phase }, { on := 14, ground := Go.Ground.phase }, { on := 15, ground := Go.Ground.phase }, { on := 16, ground := Go.Ground.phase }, { on := 17, ground := Go.Ground.phase }, { on := 18, ground := Go.Ground.phase }, { on := 19, ground := Go.Ground.phase }, { on := 20, ground := Go.Ground.phase }, { on := 21, ground := Go.Ground.phase }, { on := 22, ground := Go.Ground.phase }], guard := none }] true) Q ⟨#[u0, u1, u2, u3, u4, u5, u6, u7, u8, u9, u10, u11, u12, u13, u14, u15, u16, u17, u18, (.slice (some ⟨g, 0, none⟩) m c), (.int .i64 k), u21, u22, u23, u24, u25, u26, u27, u28, u29, u30, u31, u32, u33, u34, u35, u36, u37, u38, u39, u40, u41, u42, u43, u44, u45, u46, u47, u48, u49, u50, u51, u52, u53, u54, u55, u56, u57, u58, u59, u60, u61, u62, u63, u64, u65, u66, u67, u68, u69, u70, u71, u72, u73, u74, u75, u76, u77, u78, u79, u80, u81, u82, u83, u84, u85, u86, u87, u88, u89, u90, u91, u92, u93, u94, u95, u96, u97, u98, u99, u100, u101, u102, u103, u104, u105, u106, u107, u108, u109, u110, u111, u112, u113, u114, u115, u116, u117, u118, u119, u120, u121, u122, u123, u124, u125, u126, u127, u128, u129, u130, u131, u132, u133, u134, u135, u136, u137, u138, u139, u140, u141, u142, u143, u144, u145, u146, u147, u148, u149, u150, u151, u152, u153, u154, u155, u156, u157, u158, u159, u160, u161, u162, u163, u164, u165, u166, u167, u168, u169, u170, u171, u172, u173], []⟩ W := by
  have hkI : (k : Int) < (m : Int) := by omega
  have HPF := Lib.hid (fun V => plain_false kk.id false 0 0 kk.pr kk.a kk.b ⟨#[]⟩ V)
  have B1 : Hid (Below W.heap.size W W.drew) := (Below.refl _ W).drew
  refine wp_region_held_drew (S := fun w' => Below W.heap.size W w') (by kernel_rfl) ?_ (fun hHeld => ?_)
  · exact B1.out
  refine wpAnyH_take (i := 0) (oi := { dst := some 140, op := Go.Op.move (Go.Operand.tmp 19), type := 45, pos := "law.go:70", after := #[], guard := none }) (v := ?_) rfl (by kernel_rfl) (by kernel_rfl) (by kernel_rfl) (fun _ _ _ h => HPN _ _ _ _ _ h) (Or.inl ⟨by rfl, ?_⟩) (by assumption) ?_
  rotate_left
  focus ((intro w hSw; (try dsimp only at hSw); clear hSw; go_simp) <;> (with_reducible rfl))
  try simp only [Act.put, List.setIfInBounds_toArray, List.set_cons_zero, List.set_cons_succ]
  refine wpAnyH_take (i := 1) (oi := { dst := some 141, op := Go.Op.move (Go.Operand.tmp 20), type := 3, pos := "law.go:70", after := #[], guard := none }) (v := ?_) rfl (by kernel_rfl) (by kernel_rfl) (by kernel_rfl) (fun _ _ _ h => HPN _ _ _ _ _ h) (Or.inl ⟨by rfl, ?_⟩) (by assumption) ?_
  rotate_left
  focus ((intro w hSw; (try dsimp only at hSw); clear hSw; go_simp) <;> (with_reducible rfl))
  try simp only [Act.put, List.setIfInBounds_toArray, List.set_cons_zero, List.set_cons_succ]
  refine wpAnyH_take (i := 2) (oi := { dst := some 142, op := Go.Op.indexAddr 45 (Go.Operand.tmp 140) (Go.Operand.tmp 141), type := 0, pos := "law.go:70", after := #[{ on := 0, ground := Go.Ground.data }, { on := 1, ground := Go.Ground.data }], guard := none }) (v := ?_) rfl (by kernel_rfl) (by kernel_rfl) (by kernel_rfl) (fun _ _ _ h => HPN _ _ _ _ _ h) (Or.inl ⟨by rfl, ?_⟩) (by assumption) ?_
  rotate_left
  focus ((intro w hSw; (try dsimp only at hSw); clear hSw; go_simp) <;> (with_reducible rfl))
  try simp only [Act.put, List.setIfInBounds_toArray, List.set_cons_zero, List.set_cons_succ]
  refine wpAnyH_take (i := 3) (oi := { dst := some 143, op := Go.Op.fieldAddr 52 (Go.Operand.tmp 142) 0, type := 0, pos := "law.go:70", after := #[{ on := 2, ground := Go.Ground.data }], guard := none }) (v := ?_) rfl (by kernel_rfl) (by kernel_rfl) (by kernel_rfl) (fun _ _ _ h => HPN _ _ _ _ _ h) (Or.inl ⟨by rfl, ?_⟩) (by assumption) ?_
  rotate_left
  focus ((intro w hSw; (try dsimp only at hSw); clear hSw; go_simp) <;> (with_reducible rfl))
  try simp only [Act.put, List.setIfInBounds_toArray, List.set_cons_zero, List.set_cons_succ]
  refine wpAnyH_take (i := 4) (oi := { dst := some 144, op := Go.Op.load 32 (Go.Operand.tmp 143), type := 32, pos := "law.go:70", after := #[{ on := 3, ground := Go.Ground.data }], guard := none }) (v := ?_) rfl (by kernel_rfl) (by kernel_rfl) (by kernel_rfl) (fun _ _ _ h => HPN _ _ _ _ _ h) (Or.inl ⟨by rfl, ?_⟩) (by assumption) ?_
  rotate_left
  focus ((intro w hSw; (try dsimp only at hSw); obtain ⟨k0, k1, k2, k3, k4, k5, k6, k7, k8, k9⟩ := HK.out.below hSw hlt.out; clear hSw; go_simp) <;> (with_reducible rfl))
  try simp only [Act.put, List.setIfInBounds_toArray, List.set_cons_zero, List.set_cons_succ]
  refine wpAnyH_take (i := 5) (oi := { dst := some 145, op := Go.Op.move (Go.Operand.tmp 19), type := 45, pos := "law.go:70", after := #[], guard := none }) (v := ?_) rfl (by kernel_rfl) (by kernel_rfl) (by kernel_rfl) (fun _ _ _ h => HPN _ _ _ _ _ h) (Or.inl ⟨by rfl, ?_⟩) (by assumption) ?_
  rotate_left
  focus ((intro w hSw; (try dsimp only at hSw); clear hSw; go_simp) <;> (with_reducible rfl))
  try simp only [Act.put, List.setIfInBounds_toArray, List.set_cons_zero, List.set_cons_succ]
  refine wpAnyH_take (i := 6) (oi := { dst := some 146, op := Go.Op.move (Go.Operand.tmp 20), type := 3, pos := "law.go:70", after := #[], guard := none }) (v := ?_) rfl (by kernel_rfl) (by kernel_rfl) (by kernel_rfl) (fun _ _ _ h => HPN _ _ _ _ _ h) (Or.inl ⟨by rfl, ?_⟩) (by assumption) ?_
  rotate_left
  focus ((intro w hSw; (try dsimp only at hSw); clear hSw; go_simp) <;> (with_reducible rfl))
  try simp only [Act.put, List.setIfInBounds_toArray, List.set_cons_zero, List.set_cons_succ]
  refine wpAnyH_take (i := 7) (oi := { dst := some 147, op := Go.Op.indexAddr 45 (Go.Operand.tmp 145) (Go.Operand.tmp 146), type := 0, pos := "law.go:70", after := #[{ on := 5, ground := Go.Ground.data }, { on := 6, ground := Go.Ground.data }], guard := none }) (v := ?_) rfl (by kernel_rfl) (by kernel_rfl) (by kernel_rfl) (fun _ _ _ h => HPN _ _ _ _ _ h) (Or.inl ⟨by rfl, ?_⟩) (by assumption) ?_
  rotate_left
  focus ((intro w hSw; (try dsimp only at hSw); clear hSw; go_simp) <;> (with_reducible rfl))
  try simp only [Act.put, List.setIfInBounds_toArray, List.set_cons_zero, List.set_cons_succ]
  refine wpAnyH_take (i := 8) (oi := { dst := some 148, op := Go.Op.fieldAddr 52 (Go.Operand.tmp 147) 1, type := 0, pos := "law.go:70", after := #[{ on := 7, ground := Go.Ground.data }], guard := none }) (v := ?_) rfl (by kernel_rfl) (by kernel_rfl) (by kernel_rfl) (fun _ _ _ h => HPN _ _ _ _ _ h) (Or.inl ⟨by rfl, ?_⟩) (by assumption) ?_
  rotate_left
  focus ((intro w hSw; (try dsimp only at hSw); clear hSw; go_simp) <;> (with_reducible rfl))
  try simp only [Act.put, List.setIfInBounds_toArray, List.set_cons_zero, List.set_cons_succ]
  refine wpAnyH_take (i := 9) (oi := { dst := some 149, op := Go.Op.load 32 (Go.Operand.tmp 148), type := 32, pos := "law.go:70", after := #[{ on := 8, ground := Go.Ground.data }], guard := none }) (v := ?_) rfl (by kernel_rfl) (by kernel_rfl) (by kernel_rfl) (fun _ _ _ h => HPN _ _ _ _ _ h) (Or.inl ⟨by rfl, ?_⟩) (by assumption) ?_
  rotate_left
  focus ((intro w hSw; (try dsimp only at hSw); obtain ⟨k0, k1, k2, k3, k4, k5, k6, k7, k8, k9⟩ := HK.out.below hSw hlt.out; clear hSw; go_simp) <;> (with_reducible rfl))
  try simp only [Act.put, List.setIfInBounds_toArray, List.set_cons_zero, List.set_cons_succ]
  refine wpAnyH_take (i := 10) (oi := { dst := some 150, op := Go.Op.move (Go.Operand.tmp 19), type := 45, pos := "law.go:70", after := #[], guard := none }) (v := ?_) rfl (by kernel_rfl) (by kernel_rfl) (by kernel_rfl) (fun _ _ _ h => HPN _ _ _ _ _ h) (Or.inl ⟨by rfl, ?_⟩) (by assumption) ?_
  rotate_left
  focus ((intro w hSw; (try dsimp only at hSw); clear hSw; go_simp) <;> (with_reducible rfl))
  try simp only [Act.put, List.setIfInBounds_toArray, List.set_cons_zero, List.set_cons_succ]
  refine wpAnyH_take (i := 11) (oi := { dst := some 151, op := Go.Op.move (Go.Operand.tmp 20), type := 3, pos := "law.go:70", after := #[], guard := none }) (v := ?_) rfl (by kernel_rfl) (by kernel_rfl) (by kernel_rfl) (fun _ _ _ h => HPN _ _ _ _ _ h) (Or.inl ⟨by rfl, ?_⟩) (by assumption) ?_
  rotate_left
  focus ((intro w hSw; (try dsimp only at hSw); clear hSw; go_simp) <;> (with_reducible rfl))
  try simp only [Act.put, List.setIfInBounds_toArray, List.set_cons_zero, List.set_cons_succ]
  refine wpAnyH_take (i := 12) (oi := { dst := some 152, op := Go.Op.indexAddr 45 (Go.Operand.tmp 150) (Go.Operand.tmp 151), type := 0, pos := "law.go:70", after := #[{ on := 10, ground := Go.Ground.data }, { on := 11, ground := Go.Ground.data }], guard := none }) (v := ?_) rfl (by kernel_rfl) (by kernel_rfl) (by kernel_rfl) (fun _ _ _ h => HPN _ _ _ _ _ h) (Or.inl ⟨by rfl, ?_⟩) (by assumption) ?_
  rotate_left
  focus ((intro w hSw; (try dsimp only at hSw); clear hSw; go_simp) <;> (with_reducible rfl))
  try simp only [Act.put, List.setIfInBounds_toArray, List.set_cons_zero, List.set_cons_succ]
  refine wpAnyH_take (i := 13) (oi := { dst := some 153, op := Go.Op.fieldAddr 52 (Go.Operand.tmp 152) 2, type := 0, pos := "law.go:70", after := #[{ on := 12, ground := Go.Ground.data }], guard := none }) (v := ?_) rfl (by kernel_rfl) (by kernel_rfl) (by kernel_rfl) (fun _ _ _ h => HPN _ _ _ _ _ h) (Or.inl ⟨by rfl, ?_⟩) (by assumption) ?_
  rotate_left
  focus ((intro w hSw; (try dsimp only at hSw); clear hSw; go_simp) <;> (with_reducible rfl))
  try simp only [Act.put, List.setIfInBounds_toArray, List.set_cons_zero, List.set_cons_succ]
  refine wpAnyH_take (i := 14) (oi := { dst := some 154, op := Go.Op.load 3 (Go.Operand.tmp 153), type := 3, pos := "law.go:70", after := #[{ on := 13, ground := Go.Ground.data }], guard := none }) (v := ?_) rfl (by kernel_rfl) (by kernel_rfl) (by kernel_rfl) (fun _ _ _ h => HPN _ _ _ _ _ h) (Or.inl ⟨by rfl, ?_⟩) (by assumption) ?_
  rotate_left
  focus ((intro w hSw; (try dsimp only at hSw); obtain ⟨k0, k1, k2, k3, k4, k5, k6, k7, k8, k9⟩ := HK.out.below hSw hlt.out; clear hSw; go_simp) <;> (with_reducible rfl))
  try simp only [Act.put, List.setIfInBounds_toArray, List.set_cons_zero, List.set_cons_succ]
  refine wpAnyH_take (i := 15) (oi := { dst := some 155, op := Go.Op.move (Go.Operand.tmp 19), type := 45, pos := "law.go:70", after := #[], guard := none }) (v := ?_) rfl (by kernel_rfl) (by kernel_rfl) (by kernel_rfl) (fun _ _ _ h => HPN _ _ _ _ _ h) (Or.inl ⟨by rfl, ?_⟩) (by assumption) ?_
  rotate_left
  focus ((intro w hSw; (try dsimp only at hSw); clear hSw; go_simp) <;> (with_reducible rfl))
  try simp only [Act.put, List.setIfInBounds_toArray, List.set_cons_zero, List.set_cons_succ]
  refine wpAnyH_take (i := 16) (oi := { dst := some 156, op := Go.Op.move (Go.Operand.tmp 20), type := 3, pos := "law.go:70", after := #[], guard := none }) (v := ?_) rfl (by kernel_rfl) (by kernel_rfl) (by kernel_rfl) (fun _ _ _ h => HPN _ _ _ _ _ h) (Or.inl ⟨by rfl, ?_⟩) (by assumption) ?_
  rotate_left
  focus ((intro w hSw; (try dsimp only at hSw); clear hSw; go_simp) <;> (with_reducible rfl))
  try simp only [Act.put, List.setIfInBounds_toArray, List.set_cons_zero, List.set_cons_succ]
  refine wpAnyH_take (i := 17) (oi := { dst := some 157, op := Go.Op.indexAddr 45 (Go.Operand.tmp 155) (Go.Operand.tmp 156), type := 0, pos := "law.go:70", after := #[{ on := 15, ground := Go.Ground.data }, { on := 16, ground := Go.Ground.data }], guard := none }) (v := ?_) rfl (by kernel_rfl) (by kernel_rfl) (by kernel_rfl) (fun _ _ _ h => HPN _ _ _ _ _ h) (Or.inl ⟨by rfl, ?_⟩) (by assumption) ?_
  rotate_left
  focus ((intro w hSw; (try dsimp only at hSw); clear hSw; go_simp) <;> (with_reducible rfl))
  try simp only [Act.put, List.setIfInBounds_toArray, List.set_cons_zero, List.set_cons_succ]
  refine wpAnyH_take (i := 18) (oi := { dst := some 158, op := Go.Op.fieldAddr 52 (Go.Operand.tmp 157) 3, type := 0, pos := "law.go:70", after := #[{ on := 17, ground := Go.Ground.data }], guard := none }) (v := ?_) rfl (by kernel_rfl) (by kernel_rfl) (by kernel_rfl) (fun _ _ _ h => HPN _ _ _ _ _ h) (Or.inl ⟨by rfl, ?_⟩) (by assumption) ?_
  rotate_left
  focus ((intro w hSw; (try dsimp only at hSw); clear hSw; go_simp) <;> (with_reducible rfl))
  try simp only [Act.put, List.setIfInBounds_toArray, List.set_cons_zero, List.set_cons_succ]
  refine wpAnyH_take (i := 19) (oi := { dst := some 159, op := Go.Op.load 3 (Go.Operand.tmp 158), type := 3, pos := "law.go:70", after := #[{ on := 18, ground := Go.Ground.data }], guard := none }) (v := ?_) rfl (by kernel_rfl) (by kernel_rfl) (by kernel_rfl) (fun _ _ _ h => HPN _ _ _ _ _ h) (Or.inl ⟨by rfl, ?_⟩) (by assumption) ?_
  rotate_left
  focus ((intro w hSw; (try dsimp only at hSw); obtain ⟨k0, k1, k2, k3, k4, k5, k6, k7, k8, k9⟩ := HK.out.below hSw hlt.out; clear hSw; go_simp) <;> (with_reducible rfl))
  try simp only [Act.put, List.setIfInBounds_toArray, List.set_cons_zero, List.set_cons_succ]
  refine wpAnyH_take (i := 20) (oi := { dst := some 160, op := Go.Op.build 34 #[(5, Go.Operand.tmp 144), (6, Go.Operand.tmp 149), (4, Go.Operand.tmp 154), (0, Go.Operand.tmp 159)], type := 34, pos := "law.go:70", after := #[{ on := 4, ground := Go.Ground.data }, { on := 9, ground := Go.Ground.data }, { on := 14, ground := Go.Ground.data }, { on := 19, ground := Go.Ground.data }], guard := none }) (v := ?_) rfl (by kernel_rfl) (by kernel_rfl) (by kernel_rfl) (fun _ _ _ h => HPN _ _ _ _ _ h) (Or.inl ⟨by rfl, ?_⟩) (by assumption) ?_
  rotate_left
  focus ((intro w hSw; (try dsimp only at hSw); have hz := zero34 w; clear hSw; go_simp) <;> (with_reducible rfl))
  try simp only [Act.put, List.setIfInBounds_toArray, List.set_cons_zero, List.set_cons_succ]
  refine wpAnyH_ready (rs := [21, 22]) (by kernel_rfl) (by simp) ?_
  refine AllReadyH.cons (o := { dst := some 161, op := Go.Op.call { callee := Go.Callee.value (Go.Operand.func 16), args := #[Go.Operand.tmp 160, Go.Operand.const (Go.Value.bool false)], argTypes := #[34, 4] }, type := 41, pos := "law.go:70", after := #[{ on := 20, ground := Go.Ground.data }], guard := none }) rfl (fun K hK => ?_) (AllReadyH.cons (o := { dst := some 21, op := Go.Op.alloc 41, type := 0, pos := "law.go:70", after := #[], guard := none }) rfl (fun K hK => ?_) AllReadyH.nil)
  · go_simp
    (go_at_call 16; (with_reducible refine (HPF.out _).mono ?_); rintro e Va ⟨rfl, hb⟩; go_wp2_with fail)
    have B1 := Lib.hid (B1.out.trans (hb.mono B1.out.size))
    clear hb
    refine hK.out _ _ ?_ (fun hHeld => ?_)
    · exact B1.out
    clear hK K
    try simp only [Act.put, List.setIfInBounds_toArray, List.set_cons_zero, List.set_cons_succ]
    refine wpAnyH_ready (rs := [22]) (by kernel_rfl) (by simp) ?_
    refine AllReadyH.cons (o := { dst := some 21, op := Go.Op.alloc 41, type := 0, pos := "law.go:70", after := #[], guard := none }) rfl (fun K hK => ?_) AllReadyH.nil
    go_simp
    have Z1 : Hid ((Va.alloc rpz).heap[Va.heap.size]? = some rpz) := heap_alloc_new Va _
    have G1 : Hid (W.heap.size ≤ Va.heap.size) := B1.out.size
    have B1 := Lib.hid (B1.out.alloc B1.out.size rpz)
    generalize Va.alloc rpz = Y1 at Z1 B1 ⊢
    generalize Va.heap.size = gr at Z1 G1 ⊢
    refine hK.out _ _ ?_ (fun hHeld => ?_)
    · exact B1.out
    clear hK K
    try simp only [Act.put, List.setIfInBounds_toArray, List.set_cons_zero, List.set_cons_succ]
    refine wpAnyH_ready (rs := [23]) (by kernel_rfl) (by simp) ?_
    refine AllReadyH.cons (o := { dst := none, op := Go.Op.store 41 (Go.Operand.tmp 21) (Go.Operand.tmp 161), type := 0, pos := "law.go:70", after := #[{ on := 22, ground := Go.Ground.data }, { on := 21, ground := Go.Ground.data }, { on := 21, ground := Go.Ground.chain }, { on := 0, ground := Go.Ground.phase }, { on := 1, ground := Go.Ground.phase }, { on := 2, ground := Go.Ground.phase }, { on := 3, ground := Go.Ground.phase }, { on := 4, ground := Go.Ground.phase }, { on := 5, ground := Go.Ground.phase }, { on := 6, ground := Go.Ground.phase }, { on := 7, ground := Go.Ground.phase }, { on := 8, ground := Go.Ground.phase }, { on := 9, ground := Go.Ground.phase }, { on := 10, ground := Go.Ground.phase }, { on := 11, ground := Go.Ground.phase }, { on := 12, ground := Go.Ground.phase }, { on := 13, ground := Go.Ground.phase }, { on := 14, ground := Go.Ground.phase }, { on := 15, ground := Go.Ground.phase }, { on := 16, ground := Go.Ground.phase }, { on := 17, ground := Go.Ground.phase }, { on := 18, ground := Go.Ground.phase }, { on := 19, ground := Go.Ground.phase }, { on := 20, ground := Go.Ground.phase }, { on := 21, ground := Go.Ground.phase }, { on := 22, ground := Go.Ground.phase }], guard := none }) rfl (fun K hK => ?_) AllReadyH.nil
    obtain ⟨z0, z1, z2, z3, z4, z5, z6, z7⟩ := cells8 Z1.out
    have fz0 := lies_frozen Z1.out 0
    have fz1 := lies_frozen Z1.out 1
    have fz2 := lies_frozen Z1.out 2
    have fz3 := lies_frozen Z1.out 3
    have fz4 := lies_frozen Z1.out 4
    have fz5 := lies_frozen Z1.out 5
    have fz6 := lies_frozen Z1.out 6
    have fz7 := lies_frozen Z1.out 7
    go_simp
    have KS := Lib.hid (And.intro (read_8 (y0 := .int .i64 kk.id) (y1 := .bool false) (y2 := .int .i64 0) (y3 := .int .i64 0) (y4 := .int .i64 kk.pr) (y5 := .string (ipB kk.a)) (y6 := .string (ipB kk.b)) (y7 := .string ⟨#[]⟩) Z1.out).2.2.2.2.2.2.2.2 (below_8 B1.out G1.out (.int .i64 kk.id) (.bool false) (.int .i64 0) (.int .i64 0) (.int .i64 kk.pr) (.string (ipB kk.a)) (.string (ipB kk.b)) (.string ⟨#[]⟩)))
    clear z0 z1 z2 z3 z4 z5 z6 z7 fz0 fz1 fz2 fz3 fz4 fz5 fz6 fz7
    refine hK.out _ _ ?_ (fun hHeld => ?_)
    · exact KS.out.2
    clear hK K
    try simp only [Act.put, List.setIfInBounds_toArray, List.set_cons_zero, List.set_cons_succ]
    refine wpAnyH_done (by kernel_rfl) ?_ _
    clear hHeld
    exact hQ _ _ ⟨KS.out.1, KS.out.2⟩ _ _ _ _ _ _ _ _ _ _ _ _ _ _ _ _ _ _ _ _ _ _
  · go_simp
    have Z1 : Hid ((W.alloc rpz).drew.heap[W.heap.size]? = some rpz) := heap_alloc_new W _
    have G1 : Hid (W.heap.size ≤ W.heap.size) := Nat.le_refl _
    have B1 : Hid (Below W.heap.size W (W.alloc rpz).drew) := ((Below.refl _ W).alloc (Nat.le_refl _) _).drew
    generalize (W.alloc rpz).drew = Y1 at Z1 B1 ⊢
    obtain ⟨gr, Hgr⟩ : ∃ gr, Hid (gr = W.heap.size) := ⟨_, rfl⟩
    rw [← Hgr.out] at Z1 ⊢
    have G1 : Hid (W.heap.size ≤ gr) := Nat.le_of_eq Hgr.out.symm
    refine hK.out _ _ ?_ (fun hHeld => ?_)
    · exact B1.out
    clear hK K
    try simp only [Act.put, List.setIfInBounds_toArray, List.set_cons_zero, List.set_cons_succ]
    refine wpAnyH_ready (rs := [21]) (by kernel_rfl) (by simp) ?_
    refine AllReadyH.cons (o := { dst := some 161, op := Go.Op.call { callee := Go.Callee.value (Go.Operand.func 16), args := #[Go.Operand.tmp 160, Go.Operand.const (Go.Value.bool false)], argTypes := #[34, 4] }, type := 41, pos := "law.go:70", after := #[{ on := 20, ground := Go.Ground.data }], guard := none }) rfl (fun K hK => ?_) AllReadyH.nil
    go_simp
    (go_at_call 16; (with_reducible refine (HPF.out _).mono ?_); rintro e Va ⟨rfl, hb⟩; go_wp2_with fail)
    have Z1 := Lib.hid (lies_below Z1.out hb (lies_lt Z1.out))
    have B1 := Lib.hid (B1.out.trans (hb.mono B1.out.size))
    clear hb
    refine hK.out _ _ ?_ (fun hHeld => ?_)
    · exact B1.out
    clear hK K
    try simp only [Act.put, List.setIfInBounds_toArray, List.set_cons_zero, List.set_cons_succ]
    refine wpAnyH_ready (rs := [23]) (by kernel_rfl) (by simp) ?_
    refine AllReadyH.cons (o := { dst := none, op := Go.Op.store 41 (Go.Operand.tmp 21) (Go.Operand.tmp 161), type := 0, pos := "law.go:70", after := #[{ on := 22, ground := Go.Ground.data }, { on := 21, ground := Go.Ground.data }, { on := 21, ground := Go.Ground.chain }, { on := 0, ground := Go.Ground.phase }, { on := 1, ground := Go.Ground.phase }, { on := 2, ground := Go.Ground.phase }, { on := 3, ground := Go.Ground.phase }, { on := 4, ground := Go.Ground.phase }, { on := 5, ground := Go.Ground.phase }, { on := 6, ground := Go.Ground.phase }, { on := 7, ground := Go.Ground.phase }, { on := 8, ground := Go.Ground.phase }, { on := 9, ground := Go.Ground.phase }, { on := 10, ground := Go.Ground.phase }, { on := 11, ground := Go.Ground.phase }, { on := 12, ground := Go.Ground.phase }, { on := 13, ground := Go.Ground.phase }, { on := 14, ground := Go.Ground.phase }, { on := 15, ground := Go.Ground.phase }, { on := 16, ground := Go.Ground.phase }, { on := 17, ground := Go.Ground.phase }, { on := 18, ground := Go.Ground.phase }, { on := 19, ground := Go.Ground.phase }, { on := 20, ground := Go.Ground.phase }, { on := 21, ground := Go.Ground.phase }, { on := 22, ground := Go.Ground.phase }], guard := none }) rfl (fun K hK => ?_) AllReadyH.nil
    obtain ⟨z0, z1, z2, z3, z4, z5, z6, z7⟩ := cells8 Z1.out
    have fz0 := lies_frozen Z1.out 0
    have fz1 := lies_frozen Z1.out 1
    have fz2 := lies_frozen Z1.out 2
    have fz3 := lies_frozen Z1.out 3
    have fz4 := lies_frozen Z1.out 4
    have fz5 := lies_frozen Z1.out 5
    have fz6 := lies_frozen Z1.out 6
    have fz7 := lies_frozen Z1.out 7
    go_simp
    have KS := Lib.hid (And.intro (read_8 (y0 := .int .i64 kk.id) (y1 := .bool false) (y2 := .int .i64 0) (y3 := .int .i64 0) (y4 := .int .i64 kk.pr) (y5 := .string (ipB kk.a)) (y6 := .string (ipB kk.b)) (y7 := .string ⟨#[]⟩) Z1.out).2.2.2.2.2.2.2.2 (below_8 B1.out G1.out (.int .i64 kk.id) (.bool false) (.int .i64 0) (.int .i64 0) (.int .i64 kk.pr) (.string (ipB kk.a)) (.string (ipB kk.b)) (.string ⟨#[]⟩)))
    clear z0 z1 z2 z3 z4 z5 z6 z7 fz0 fz1 fz2 fz3 fz4 fz5 fz6 fz7
    refine hK.out _ _ ?_ (fun hHeld => ?_)
    · exact KS.out.2
    clear hK K
    try simp only [Act.put, List.setIfInBounds_toArray, List.set_cons_zero, List.set_cons_succ]
    refine wpAnyH_done (by kernel_rfl) ?_ _
    clear hHeld
    exact hQ _ _ ⟨KS.out.1, KS.out.2⟩ _ _ _ _ _ _ _ _ _ _ _ _ _ _ _ _ _ _ _ _ _ _

set_option maxHeartbeats 4000000 in
theorem reg27 {W : World} {gx rp o m c2 k : Nat} {most wait now dI : Int} {kk : K} {b : Rb} (HX : Hid (W.heap[gx]? = some (.cells #[.int .i64 kk.id, .bool false, .int .i64 0, .int .i64 0, .int .i64 kk.pr, .string (ipB kk.a), .string (ipB kk.b), .string ⟨#[]⟩] 41))) (HR : Hid (W.heap[rp]? = some (refC (.slice (some ⟨o, 0, none⟩) m c2) most wait now dI)))
    (HB : Hid (BAt W o (k * 10) b)) (hlt : Hid (o < W.heap.size)) (hkm : k < m) (HS : Hid (∀ V, Calls Try.prog 19 #[Go.Proofs.Ytgdjcoodjdckkaa.rp kk.id false 0 0 kk.pr (ipB kk.a) (ipB kk.b) ⟨#[]⟩, b.p.rv] V fun e V' => e = .returned (.bool true) ∧ Below V.heap.size V V')) {u0 u1 u2 u3 u4 u5 u6 u7 u8 u10 u11 u12 u13 u14 u15 u16 u17 u18 u19 u22 u23 u24 u25 u26 u27 u28 u29 u30 u31 u32 u33 u34 u35 u36 u37 u38 u39 u40 u41 u42 u43 u44 u45 u46 u47 u48 u49 u50 u51 u52 u53 u54 u55 u56 u57 u58 u59 u60 u61 u62 u63 u64 u65 u66 u67 u68 u69 u70 u71 u72 u73 u74 u75 u76 u77 u78 u79 u80 u81 u82 u83 u84 u85 u86 u87 u88 u89 u90 u91 u92 u93 u94 u95 u96 u97 u98 u99 u100 u101 u102 u103 u104 u105 u106 u107 u108 u109 u110 u111 u112 u113 u114 u115 u116 u117 u118 u119 u120 u121 u122 u123 u124 u125 u126 u127 u128 u129 u130 u131 u132 u133 u134 u135 u136 u137 u138 u139 u140 u141 u142 u143 u144 u145 u146 u147 u148 u149 u150 u151 u152 u153 u154 u155 u156 u157 u158 u159 u160 u161 u162 u163 u164 u165 u166 u167 u168 u169 u170 u171 u172 u173 : Value} {Q : Exit → Act → World → Prop} (HPN : ∀ (p : List PanicEntry) (a : Act) (dd : Nat) (vv : Value) (w : World), Q (.panic p) (a.put (some dd) vv) w → Q (.panic p) a w) (hQ : ∀ (wc : World), Below W.heap.size W wc → ∀ x162 x163 x164 x165 x166 x167 x168 x169 x170 x171 : Value, Q .normal ⟨#[u0, u1, u2, u3, u4, u5, u6, u7, u8, (.pointer (some ⟨rp, 0, none⟩)), u10, u11, u12, u13, u14, u15, u16, u17, u18, u19, (.int .i64 k), (.pointer (some ⟨gx, 0, none⟩)), u22, u23, u24, u25, u26, u27, u28, u29, u30, u31, u32, u33, u34, u35, u36, u37, u38, u39, u40, u41, u42, u43, u44, u45, u46, u47, u48, u49, u50, u51, u52, u53, u54, u55, u56, u57, u58, u59, u60, u61, u62, u63, u64, u65, u66, u67, u68, u69, u70, u71, u72, u73, u74, u75, u76, u77, u78, u79, u80, u81, u82, u83, u84, u85, u86, u87, u88, u89, u90, u91, u92, u93, u94, u95, u96, u97, u98, u99, u100, u101, u102, u103, u104, u105, u106, u107, u108, u109, u110, u111, u112, u113, u114, u115, u116, u117, u118, u119, u120, u121, u122, u123, u124, u125, u126, u127, u128, u129, u130, u131, u132, u133, u134, u135, u136, u137, u138, u139, u140, u141, u142, u143, u144, u145, u146, u147, u148, u149, u150, u151, u152, u153, u154, u155, u156, u157, u158, u159, u160, u161, x162, x163, x164, x165, x166, x167, x168, x169, x170, x171, (.bool false), u173], []⟩ wc) :
    Code.wp Try.prog (Code.region 27 #[{ dst := some 162, op := Go.Op.load 41 (Go.Operand.tmp 21), type := 41, pos := "law.go:71", after := #[], guard := none }, { dst := some 163, op := Go.Op.move (Go.Operand.tmp 9), type := 27, pos := "law.go:71", after := #[], guard := none }, { dst := some 164, op := Go.Op.nilCheck (Go.Operand.tmp 163), type := 0, pos := "law.go:71", after := #[{ on := 1, ground := Go.Ground.data }], guard := none }, { dst := some 165, op := Go.Op.fieldAddr 49 (Go.Operand.tmp 164) 0, type := 0, pos := "law.go:71", after := #[{ on := 2, ground := Go.Ground.data }], guard := none }, { dst := some 166, op := Go.Op.load 47 (Go.Operand.tmp 165), type := 47, pos := "law.go:71", after := #[{ on := 3, ground := Go.Ground.data }], guard := none }, { dst := some 167, op := Go.Op.move (Go.Operand.tmp 20), type := 3, pos := "law.go:71", after := #[], guard := none }, { dst := some 168, op := Go.Op.indexAddr 47 (Go.Operand.tmp 166) (Go.Operand.tmp 167), type := 0, pos := "law.go:71", after := #[{ on := 4, ground := Go.Ground.data }, { on := 5, ground := Go.Ground.data }], guard := none }, { dst := some 169, op := Go.Op.fieldAddr 55 (Go.Operand.tmp 168) 0, type := 0, pos := "law.go:71", after := #[{ on := 6, ground := Go.Ground.data }], guard := none }, { dst := some 170, op := Go.Op.load 41 (Go.Operand.tmp 169), type := 41, pos := "law.go:71", after := #[{ on := 7, ground := Go.Ground.data }], guard := none }, { dst := some 171, op := Go.Op.call { callee := Go.Callee.value (Go.Operand.func 19), args := #[Go.Operand.tmp 162, Go.Operand.tmp 170], argTypes := #[41, 41] }, type := 4, pos := "law.go:71", after := #[{ on := 0, ground := Go.Ground.data }, { on := 8, ground := Go.Ground.data }], guard := none }, { dst := some 172, op := Go.Op.unOp Go.UnOp.not 4 (Go.Operand.tmp 171), type := 4, pos := "law.go:71", after := #[{ on := 9, ground := Go.Ground.data }], guard := none }] true) Q ⟨#[u0, u1, u2, u3, u4, u5, u6, u7, u8, (.pointer (some ⟨rp, 0, none⟩)), u10, u11, u12, u13, u14, u15, u16, u17, u18, u19, (.int .i64 k), (.pointer (some ⟨gx, 0, none⟩)), u22, u23, u24, u25, u26, u27, u28, u29, u30, u31, u32, u33, u34, u35, u36, u37, u38, u39, u40, u41, u42, u43, u44, u45, u46, u47, u48, u49, u50, u51, u52, u53, u54, u55, u56, u57, u58, u59, u60, u61, u62, u63, u64, u65, u66, u67, u68, u69, u70, u71, u72, u73, u74, u75, u76, u77, u78, u79, u80, u81, u82, u83, u84, u85, u86, u87, u88, u89, u90, u91, u92, u93, u94, u95, u96, u97, u98, u99, u100, u101, u102, u103, u104, u105, u106, u107, u108, u109, u110, u111, u112, u113, u114, u115, u116, u117, u118, u119, u120, u121, u122, u123, u124, u125, u126, u127, u128, u129, u130, u131, u132, u133, u134, u135, u136, u137, u138, u139, u140, u141, u142, u143, u144, u145, u146, u147, u148, u149, u150, u151, u152, u153, u154, u155, u156, u157, u158, u159, u160, u161, u162, u163, u164, u165, u166, u167, u168, u169, u170, u171, u172, u173], []⟩ W := by
  have hkI : (k : Int) < (m : Int) := by omega
  have B1 : Hid (Below W.heap.size W W.drew) := (Below.refl _ W).drew
  refine wp_region_held_drew (S := fun w' => Below W.heap.size W w') (by kernel_rfl) ?_ (fun hHeld => ?_)
  · exact B1.out
  refine wpAnyH_take (i := 0) (oi := { dst := some 162, op := Go.Op.load 41 (Go.Operand.tmp 21), type := 41, pos := "law.go:71", after := #[], guard := none }) (v := ?_) rfl (by kernel_rfl) (by kernel_rfl) (by kernel_rfl) (fun _ _ _ h => HPN _ _ _ _ _ h) (Or.inl ⟨by rfl, ?_⟩) (by assumption) ?_
  rotate_left
  focus ((intro w hSw; (try dsimp only at hSw); obtain ⟨z0, z1, z2, z3, z4, z5, z6, z7⟩ := cells8 (lies_below HX.out hSw (lies_lt HX.out)); clear hSw; go_simp) <;> (with_reducible rfl))
  try simp only [Act.put, List.setIfInBounds_toArray, List.set_cons_zero, List.set_cons_succ]
  refine wpAnyH_take (i := 1) (oi := { dst := some 163, op := Go.Op.move (Go.Operand.tmp 9), type := 27, pos := "law.go:71", after := #[], guard := none }) (v := ?_) rfl (by kernel_rfl) (by kernel_rfl) (by kernel_rfl) (fun _ _ _ h => HPN _ _ _ _ _ h) (Or.inl ⟨by rfl, ?_⟩) (by assumption) ?_
  rotate_left
  focus ((intro w hSw; (try dsimp only at hSw); clear hSw; go_simp) <;> (with_reducible rfl))
  try simp only [Act.put, List.setIfInBounds_toArray, List.set_cons_zero, List.set_cons_succ]
  refine wpAnyH_take (i := 2) (oi := { dst := some 164, op := Go.Op.nilCheck (Go.Operand.tmp 163), type := 0, pos := "law.go:71", after := #[{ on := 1, ground := Go.Ground.data }], guard := none }) (v := ?_) rfl (by kernel_rfl) (by kernel_rfl) (by kernel_rfl) (fun _ _ _ h => HPN _ _ _ _ _ h) (Or.inl ⟨by rfl, ?_⟩) (by assumption) ?_
  rotate_left
  focus ((intro w hSw; (try dsimp only at hSw); clear hSw; go_simp) <;> (with_reducible rfl))
  try simp only [Act.put, List.setIfInBounds_toArray, List.set_cons_zero, List.set_cons_succ]
  refine wpAnyH_take (i := 3) (oi := { dst := some 165, op := Go.Op.fieldAddr 49 (Go.Operand.tmp 164) 0, type := 0, pos := "law.go:71", after := #[{ on := 2, ground := Go.Ground.data }], guard := none }) (v := ?_) rfl (by kernel_rfl) (by kernel_rfl) (by kernel_rfl) (fun _ _ _ h => HPN _ _ _ _ _ h) (Or.inl ⟨by rfl, ?_⟩) (by assumption) ?_
  rotate_left
  focus ((intro w hSw; (try dsimp only at hSw); clear hSw; go_simp) <;> (with_reducible rfl))
  try simp only [Act.put, List.setIfInBounds_toArray, List.set_cons_zero, List.set_cons_succ]
  refine wpAnyH_take (i := 4) (oi := { dst := some 166, op := Go.Op.load 47 (Go.Operand.tmp 165), type := 47, pos := "law.go:71", after := #[{ on := 3, ground := Go.Ground.data }], guard := none }) (v := ?_) rfl (by kernel_rfl) (by kernel_rfl) (by kernel_rfl) (fun _ _ _ h => HPN _ _ _ _ _ h) (Or.inl ⟨by rfl, ?_⟩) (by assumption) ?_
  rotate_left
  focus ((intro w hSw; (try dsimp only at hSw); have hc : w.cell? ⟨rp, 0, none⟩ = some (.slice (some ⟨o, 0, none⟩) m c2) := lies_cell (lies_below HR.out hSw (lies_lt HR.out)) 0; clear hSw; go_simp) <;> (with_reducible rfl))
  try simp only [Act.put, List.setIfInBounds_toArray, List.set_cons_zero, List.set_cons_succ]
  refine wpAnyH_take (i := 5) (oi := { dst := some 167, op := Go.Op.move (Go.Operand.tmp 20), type := 3, pos := "law.go:71", after := #[], guard := none }) (v := ?_) rfl (by kernel_rfl) (by kernel_rfl) (by kernel_rfl) (fun _ _ _ h => HPN _ _ _ _ _ h) (Or.inl ⟨by rfl, ?_⟩) (by assumption) ?_
  rotate_left
  focus ((intro w hSw; (try dsimp only at hSw); clear hSw; go_simp) <;> (with_reducible rfl))
  try simp only [Act.put, List.setIfInBounds_toArray, List.set_cons_zero, List.set_cons_succ]
  refine wpAnyH_take (i := 6) (oi := { dst := some 168, op := Go.Op.indexAddr 47 (Go.Operand.tmp 166) (Go.Operand.tmp 167), type := 0, pos := "law.go:71", after := #[{ on := 4, ground := Go.Ground.data }, { on := 5, ground := Go.Ground.data }], guard := none }) (v := ?_) rfl (by kernel_rfl) (by kernel_rfl) (by kernel_rfl) (fun _ _ _ h => HPN _ _ _ _ _ h) (Or.inl ⟨by rfl, ?_⟩) (by assumption) ?_
  rotate_left
  focus ((intro w hSw; (try dsimp only at hSw); clear hSw; go_simp) <;> (with_reducible rfl))
  try simp only [Act.put, List.setIfInBounds_toArray, List.set_cons_zero, List.set_cons_succ]
  refine wpAnyH_take (i := 7) (oi := { dst := some 169, op := Go.Op.fieldAddr 55 (Go.Operand.tmp 168) 0, type := 0, pos := "law.go:71", after := #[{ on := 6, ground := Go.Ground.data }], guard := none }) (v := ?_) rfl (by kernel_rfl) (by kernel_rfl) (by kernel_rfl) (fun _ _ _ h => HPN _ _ _ _ _ h) (Or.inl ⟨by rfl, ?_⟩) (by assumption) ?_
  rotate_left
  focus ((intro w hSw; (try dsimp only at hSw); clear hSw; go_simp) <;> (with_reducible rfl))
  try simp only [Act.put, List.setIfInBounds_toArray, List.set_cons_zero, List.set_cons_succ]
  refine wpAnyH_take (i := 8) (oi := { dst := some 170, op := Go.Op.load 41 (Go.Operand.tmp 169), type := 41, pos := "law.go:71", after := #[{ on := 7, ground := Go.Ground.data }], guard := none }) (v := ?_) rfl (by kernel_rfl) (by kernel_rfl) (by kernel_rfl) (fun _ _ _ h => HPN _ _ _ _ _ h) (Or.inl ⟨by rfl, ?_⟩) (by assumption) ?_
  rotate_left
  focus ((intro w hSw; (try dsimp only at hSw); obtain ⟨k0, k1, k2, k3, k4, k5, k6, k7, k8, k9⟩ := HB.out.below hSw hlt.out; clear hSw; go_simp) <;> (with_reducible rfl))
  try simp only [Act.put, List.setIfInBounds_toArray, List.set_cons_zero, List.set_cons_succ]
  refine wpAnyH_ready (rs := [9]) (by kernel_rfl) (by simp) ?_
  refine AllReadyH.cons (o := { dst := some 171, op := Go.Op.call { callee := Go.Callee.value (Go.Operand.func 19), args := #[Go.Operand.tmp 162, Go.Operand.tmp 170], argTypes := #[41, 41] }, type := 4, pos := "law.go:71", after := #[{ on := 0, ground := Go.Ground.data }, { on := 8, ground := Go.Ground.data }], guard := none }) rfl (fun K hK => ?_) AllReadyH.nil
  go_simp
  (go_at_call 19; (with_reducible refine (HS.out _).mono ?_); rintro e Va ⟨rfl, hb⟩; go_wp2_with fail)
  have B1 := Lib.hid (B1.out.trans (hb.mono B1.out.size))
  clear hb
  refine hK.out _ _ ?_ (fun hHeld => ?_)
  · exact B1.out
  clear hK K
  try simp only [Act.put, List.setIfInBounds_toArray, List.set_cons_zero, List.set_cons_succ]
  refine wpAnyH_take (i := 10) (oi := { dst := some 172, op := Go.Op.unOp Go.UnOp.not 4 (Go.Operand.tmp 171), type := 4, pos := "law.go:71", after := #[{ on := 9, ground := Go.Ground.data }], guard := none }) (v := ?_) rfl (by kernel_rfl) (by kernel_rfl) (by kernel_rfl) (fun _ _ _ h => HPN _ _ _ _ _ h) (Or.inl ⟨by rfl, ?_⟩) (by assumption) ?_
  rotate_left
  focus ((intro w hSw; (try dsimp only at hSw); clear hSw; go_simp) <;> (with_reducible rfl))
  try simp only [Act.put, List.setIfInBounds_toArray, List.set_cons_zero, List.set_cons_succ]
  refine wpAnyH_done (by kernel_rfl) ?_ _
  clear hHeld
  exact hQ _ B1.out _ _ _ _ _ _ _ _ _ _
end Go.Proofs.Ytgdjcoodjdckkaa
