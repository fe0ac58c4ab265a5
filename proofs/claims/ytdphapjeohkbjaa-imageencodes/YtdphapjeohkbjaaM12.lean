/- The document's Encode: what it calls; its regions that draw. -/
import Derived.Test.YtdphapjeohkbjaaM10
import Derived.Test.YtdphapjeohkbjaaM11
import Derived.Test.YtdphapjeohkbjaaM2
import Derived.Deep.RegionHeld3
set_option linter.unusedVariables false
set_option maxRecDepth 100000
set_option linter.unusedVariables false
namespace Go.Proofs.Ytdphapjeohkbjaa.Im
open Go.RowKit

/-- A text of some bytes. -/
def str (l : List UInt8) : ByteArray := ⟨l.toArray⟩
theorem str_size (l : List UInt8) : (str l).size = l.length := by show l.toArray.size = _; simp
theorem str_cat (a b : List UInt8) : str a ++ str b = str (a ++ b) := by apply ByteArray.ext; simp [str]
set_option maxHeartbeats 400000 in
theorem num8_any (n m : Nat) (w : World) (hm : m ≤ 8) (hn : n ≤ 4611686018427387904) :
    Calls Try.prog 17 #[.int .i64 n, .int .i64 m] w fun e w' => e = .returned (.string ⟨(PitotMath.be m n).toArray⟩) ∧ Below w.heap.size w w' := by
  go_enter Try.func17, Try.ntmps17
  go_wp2
  go_loopw [0, 5, 6] (fun v0 v5 v6 wr => ∃ (k j : Nat) (s : ByteArray), k ≤ m ∧ v6 = .int .i64 k ∧ v0 = .int .i64 j ∧ j ≤ n ∧ Hid (j = n / 256 ^ k) ∧ v5 = .string s ∧ s.size ≤ 8 ∧ Hid (s = ⟨(PitotMath.be k n).toArray⟩) ∧ Below w.heap.size w wr) (fun _ _ v6 _ => m - (intOf v6).toNat)
  case atStart => exact ⟨0, n, ⟨#[]⟩, Nat.zero_le _, rfl, rfl, Nat.le_refl _, by show n = n / 256 ^ 0; simp, rfl, by decide, rfl, Below.refl _ _⟩
  case round =>
    obtain ⟨k, j, s, hk, rfl, rfl, hj, Hj, rfl, hs, Hs, hb⟩ := hrel
    by_cases hlt : k < m
    · have hc := Bi.conv_one wr (UInt8.ofNat (j % 256)) ((j : Int) % 256) (by simp)
      have hsz : s.size + 1 ≤ 8 := by rw [Hs.out]; show (PitotMath.be k n).toArray.size + 1 ≤ 8; simp [PitotMath.be_length]; omega
      go_wp2
      go_roundw
      case rel =>
        refine ⟨k + 1, j / 256, (⟨#[UInt8.ofNat (j % 256)]⟩ : ByteArray) ++ s, by omega, by go_num, by go_num, by omega, ?_, rfl, ?_, ?_, ?_⟩
        · show _ = _
          rw [Hj.out, Nat.pow_succ, Nat.div_div_eq_div_mul]
        · rw [ByteArray.size_append]; show 1 + s.size ≤ 8; omega
        · show _ = _
          rw [Hs.out, Bi.cat_one, Bi.be_cons, Hj.out]
        · exact hb.alloc hb.size _
      case measure => simp [intOf]; omega
    · go_wp2
      go_returns
      refine ⟨?_, hb⟩
      show Ending.returned (.string s) = _
      rw [Hs.out, show k = m by omega]
theorem rnum_any (m : Nat) (v : Int) (w : World) (hm : m ≤ 8) (h : 0 ≤ v ∧ v ≤ 4611686018427387904) :
    Calls Try.prog 17 #[.int .i64 v, .int .i64 m] w fun e w' => e = .returned (.string (str (PitotImg.w m v))) ∧ Below w.heap.size w w' := by
  have h1 := num8_any v.toNat m w hm (by omega)
  rw [show ((v.toNat : Nat) : Int) = v by omega] at h1
  exact h1
theorem two_any (v : Int) (w : World) (h : PitotImg.fits 2 v) : Calls Try.prog 15 #[.int .i64 v] w fun e w' => e = .returned (.string (str (PitotImg.w 2 v))) ∧ Below w.heap.size w w' := by
  have H : Hid (Calls Try.prog 17 #[.int .i64 v, .int .i64 2] w fun e w' => e = .returned (.string (str (PitotImg.w 2 v))) ∧ Below w.heap.size w w') := rnum_any 2 v w (by omega) ⟨h.1, by have : v < 65536 := h.2; omega⟩
  clear h
  go_enter Try.func15, Try.ntmps15
  go_wp2_with (go_at_call 17; (with_reducible refine (H.out).mono ?_); rintro e w2 ⟨rfl, hb2⟩)
  go_returns
  exact ⟨rfl, hb2⟩
theorem four_any (v : Int) (w : World) (h : PitotImg.fits 4 v) : Calls Try.prog 16 #[.int .i64 v] w fun e w' => e = .returned (.string (str (PitotImg.w 4 v))) ∧ Below w.heap.size w w' := by
  have H : Hid (Calls Try.prog 17 #[.int .i64 v, .int .i64 4] w fun e w' => e = .returned (.string (str (PitotImg.w 4 v))) ∧ Below w.heap.size w w') := rnum_any 4 v w (by omega) ⟨h.1, by have : v < 4294967296 := h.2; omega⟩
  clear h
  go_enter Try.func16, Try.ntmps16
  go_wp2_with (go_at_call 17; (with_reducible refine (H.out).mono ?_); rintro e w2 ⟨rfl, hb2⟩)
  go_returns
  exact ⟨rfl, hb2⟩
theorem flag_any (h : Bool) (k : Int) (w : World) : Calls Try.prog 18 #[.bool h, .int .i64 k] w fun e w' => e = .returned (.int .i64 (if h = true then k else 0)) ∧ Below w.heap.size w w' := by
  cases h
  · go_enter Try.func18, Try.ntmps18
    go_wp2
    go_returns
    exact ⟨rfl, Below.refl _ _⟩
  · go_enter Try.func18, Try.ntmps18
    go_wp2
    go_returns
    exact ⟨rfl, Below.refl _ _⟩
set_option maxHeartbeats 4000000 in
theorem renc9 {W : World} {cb : Nat} {hosts major : Int} {pA wA vA qA : Option Addr} {pl pc wl wk vl vc ql qc : Nat} {B1 B2 B3 : ByteArray} (zB1 : B1.size ≤ 8) (zB2 : B2.size ≤ 8) (zB3 : B3.size ≤ 8) (HC : Hid (W.heap[cb]? = some (.cells #[.int .i64 hosts, .slice pA pl pc, .int .i64 major, .slice wA wl wk, .slice vA vl vc, .slice qA ql qc] 27))) (H0 : Hid (∀ w, Calls Try.prog 15 #[.int .i64 1] w fun e w' => e = .returned (.string B1) ∧ Below w.heap.size w w')) (H1 : Hid (∀ w, Calls Try.prog 15 #[.int .i64 hosts] w fun e w' => e = .returned (.string B2) ∧ Below w.heap.size w w')) (H2 : Hid (∀ w, Calls Try.prog 15 #[.int .i64 (pl : Int)] w fun e w' => e = .returned (.string B3) ∧ Below w.heap.size w w')) {u0 u2 u3 u4 u5 u6 u7 u8 u9 u10 u11 u12 u13 u14 u15 u16 u17 u18 u19 u20 u21 u22 u23 u24 u25 u26 u27 u28 u29 u30 u31 u32 u33 u34 u35 u36 u37 u38 u39 u40 u41 u42 u43 u44 u45 u46 u47 u48 u49 u50 u51 u52 u53 u54 u55 u56 u57 u58 u59 u60 u61 u62 u63 u64 u65 u66 u67 u68 u69 u70 u71 u72 u73 u74 u75 u76 u77 u78 u79 u80 u81 u82 u83 u84 u85 u86 u87 u88 u89 u90 u91 u92 u93 u94 u95 u96 u97 u98 u99 u100 u101 u102 u103 u104 u105 u106 u107 u108 u109 u110 u111 u112 u113 u114 u115 u116 u117 u118 u119 u120 u121 u122 u123 u124 u125 u126 u127 u128 u129 u130 u131 u132 u133 u134 u135 u136 u137 u138 u139 u140 u141 u142 u143 u144 u145 u146 u147 u148 u149 u150 u151 u152 u153 u154 u155 u156 u157 u158 u159 u160 u161 u162 u163 u164 u165 u166 u167 u168 u169 u170 u171 u172 u173 u174 u175 u176 u177 u178 u179 u180 u181 u182 u183 u184 u185 u186 u187 u188 u189 u190 u191 u192 u193 u194 u195 u196 u197 u198 u199 u200 u201 u202 u203 u204 u205 u206 u207 u208 u209 u210 u211 u212 u213 u214 u215 u216 u217 u218 u219 u220 u221 u222 u223 u224 u225 u226 u227 u228 u229 u230 u231 u232 u233 u234 u235 u236 u237 u238 : Value} {Q : Exit → Act → World → Prop} (HPN : ∀ (p : List PanicEntry) (a : Act) (dd : Nat) (vv : Value) (w : World), Q (.panic p) (a.put (some dd) vv) w → Q (.panic p) a w) (hQ : ∀ (wc : World), Below W.heap.size W wc → ∀ x39 x40 x41 x42 x43 x44 x45 x46 x47 x48 x49 : Value, Q .normal ⟨#[u0, (.pointer (some ⟨cb, 0, none⟩)), u2, u3, u4, u5, u6, u7, (.string (({ data := #[65, 70, 68, 88] } : ByteArray) ++ B1 ++ B2 ++ B3)), u9, u10, u11, u12, u13, u14, u15, u16, u17, u18, u19, u20, u21, u22, u23, u24, u25, u26, u27, u28, u29, u30, u31, u32, u33, u34, u35, u36, u37, u38, x39, x40, x41, x42, x43, x44, x45, x46, x47, x48, x49, u50, u51, u52, u53, u54, u55, u56, u57, u58, u59, u60, u61, u62, u63, u64, u65, u66, u67, u68, u69, u70, u71, u72, u73, u74, u75, u76, u77, u78, u79, u80, u81, u82, u83, u84, u85, u86, u87, u88, u89, u90, u91, u92, u93, u94, u95, u96, u97, u98, u99, u100, u101, u102, u103, u104, u105, u106, u107, u108, u109, u110, u111, u112, u113, u114, u115, u116, u117, u118, u119, u120, u121, u122, u123, u124, u125, u126, u127, u128, u129, u130, u131, u132, u133, u134, u135, u136, u137, u138, u139, u140, u141, u142, u143, u144, u145, u146, u147, u148, u149, u150, u151, u152, u153, u154, u155, u156, u157, u158, u159, u160, u161, u162, u163, u164, u165, u166, u167, u168, u169, u170, u171, u172, u173, u174, u175, u176, u177, u178, u179, u180, u181, u182, u183, u184, u185, u186, u187, u188, u189, u190, u191, u192, u193, u194, u195, u196, u197, u198, u199, u200, u201, u202, u203, u204, u205, u206, u207, u208, u209, u210, u211, u212, u213, u214, u215, u216, u217, u218, u219, u220, u221, u222, u223, u224, u225, u226, u227, u228, u229, u230, u231, u232, u233, u234, u235, u236, u237, u238], []⟩ wc) :
    Code.wp Try.prog (Code.region 9 #[{ dst := some 39, op := Go.Op.call { callee := Go.Callee.value (Go.Operand.func 15), args := #[Go.Operand.const (Go.Value.int Go.IntKind.i64 1)], argTypes := #[3] }, type := 9, pos := "ref.go:34", after := #[], guard := none }, { dst := some 40, op := Go.Op.binOp Go.BinOp.add 9 (Go.Operand.const (Go.Value.string { data := #[65, 70, 68, 88] })) (Go.Operand.tmp 39) 9, type := 9, pos := "ref.go:34", after := #[{ on := 0, ground := Go.Ground.data }], guard := none }, { dst := some 41, op := Go.Op.fieldAddr 27 (Go.Operand.tmp 1) 0, type := 0, pos := "ref.go:34", after := #[], guard := none }, { dst := some 42, op := Go.Op.load 3 (Go.Operand.tmp 41), type := 3, pos := "ref.go:34", after := #[{ on := 2, ground := Go.Ground.data }], guard := none }, { dst := some 43, op := Go.Op.call { callee := Go.Callee.value (Go.Operand.func 15), args := #[Go.Operand.tmp 42], argTypes := #[3] }, type := 9, pos := "ref.go:34", after := #[{ on := 3, ground := Go.Ground.data }, { on := 0, ground := Go.Ground.chain }], guard := none }, { dst := some 44, op := Go.Op.binOp Go.BinOp.add 9 (Go.Operand.tmp 40) (Go.Operand.tmp 43) 9, type := 9, pos := "ref.go:34", after := #[{ on := 1, ground := Go.Ground.data }, { on := 4, ground := Go.Ground.data }], guard := none }, { dst := some 45, op := Go.Op.fieldAddr 27 (Go.Operand.tmp 1) 1, type := 0, pos := "ref.go:34", after := #[], guard := none }, { dst := some 46, op := Go.Op.load 22 (Go.Operand.tmp 45), type := 22, pos := "ref.go:34", after := #[{ on := 6, ground := Go.Ground.data }], guard := none }, { dst := some 47, op := Go.Op.call { callee := Go.Callee.builtin Go.Builtin.len, args := #[Go.Operand.tmp 46], argTypes := #[22] }, type := 3, pos := "ref.go:34", after := #[{ on := 7, ground := Go.Ground.data }], guard := none }, { dst := some 48, op := Go.Op.call { callee := Go.Callee.value (Go.Operand.func 15), args := #[Go.Operand.tmp 47], argTypes := #[3] }, type := 9, pos := "ref.go:34", after := #[{ on := 8, ground := Go.Ground.data }, { on := 4, ground := Go.Ground.chain }], guard := none }, { dst := some 49, op := Go.Op.binOp Go.BinOp.add 9 (Go.Operand.tmp 44) (Go.Operand.tmp 48) 9, type := 9, pos := "ref.go:34", after := #[{ on := 5, ground := Go.Ground.data }, { on := 9, ground := Go.Ground.data }], guard := none }, { dst := some 8, op := Go.Op.assign (Go.Operand.tmp 49), type := 9, pos := "ref.go:34", after := #[{ on := 10, ground := Go.Ground.data }, { on := 9, ground := Go.Ground.chain }, { on := 0, ground := Go.Ground.phase }, { on := 1, ground := Go.Ground.phase }, { on := 2, ground := Go.Ground.phase }, { on := 3, ground := Go.Ground.phase }, { on := 4, ground := Go.Ground.phase }, { on := 5, ground := Go.Ground.phase }, { on := 6, ground := Go.Ground.phase }, { on := 7, ground := Go.Ground.phase }, { on := 8, ground := Go.Ground.phase }, { on := 9, ground := Go.Ground.phase }, { on := 10, ground := Go.Ground.phase }], guard := none }] true) Q ⟨#[u0, (.pointer (some ⟨cb, 0, none⟩)), u2, u3, u4, u5, u6, u7, u8, u9, u10, u11, u12, u13, u14, u15, u16, u17, u18, u19, u20, u21, u22, u23, u24, u25, u26, u27, u28, u29, u30, u31, u32, u33, u34, u35, u36, u37, u38, u39, u40, u41, u42, u43, u44, u45, u46, u47, u48, u49, u50, u51, u52, u53, u54, u55, u56, u57, u58, u59, u60, u61, u62, u63, u64, u65, u66, u67, u68, u69, u70, u71, u72, u73, u74, u75, u76, u77, u78, u79, u80, u81, u82, u83, u84, u85, u86, u87, u88, u89, u90, u91, u92, u93, u94, u95, u96, u97, u98, u99, u100, u101, u102, u103, u104, u105, u106, u107, u108, u109, u110, u111, u112, u113, u114, u115, u116, u117, u118, u119, u120, u121, u122, u123, u124, u125, u126, u127, u128, u129, u130, u131, u132, u133, u134, u135, u136, u137, u138, u139, u140, u141, u142, u143, u144, u145, u146, u147, u148, u149, u150, u151, u152, u153, u154, u155, u156, u157, u158, u159, u160, u161, u162, u163, u164, u165, u166, u167, u168, u169, u170, u171, u172, u173, u174, u175, u176, u177, u178, u179, u180, u181, u182, u183, u184, u185, u186, u187, u188, u189, u190, u191, u192, u193, u194, u195, u196, u197, u198, u199, u200, u201, u202, u203, u204, u205, u206, u207, u208, u209, u210, u211, u212, u213, u214, u215, u216, u217, u218, u219, u220, u221, u222, u223, u224, u225, u226, u227, u228, u229, u230, u231, u232, u233, u234, u235, u236, u237, u238], []⟩ W := by
  have z0 : ({ data := #[65, 70, 68, 88] } : ByteArray).size = 4 := rfl
  have gB1 : ¬ 9223372036854775807 < ({ data := #[65, 70, 68, 88] } : ByteArray).size + B1.size := by omega
  have gB2 : ¬ 9223372036854775807 < ({ data := #[65, 70, 68, 88] } : ByteArray).size + B1.size + B2.size := by omega
  have gB3 : ¬ 9223372036854775807 < ({ data := #[65, 70, 68, 88] } : ByteArray).size + B1.size + B2.size + B3.size := by omega
  have gB1' : ¬ 9223372036854775807 < 4 + B1.size := by omega
  have gB2' : ¬ 9223372036854775807 < 4 + B1.size + B2.size := by omega
  have gB3' : ¬ 9223372036854775807 < 4 + B1.size + B2.size + B3.size := by omega
  refine wp_region_held_drew (S := fun w' => Below W.heap.size W w') (by kernel_rfl) ?_ (fun hHeld => ?_)
  · exact (Below.refl _ W).drew
  refine wpAnyH_take (i := 2) (oi := { dst := some 41, op := Go.Op.fieldAddr 27 (Go.Operand.tmp 1) 0, type := 0, pos := "ref.go:34", after := #[], guard := none }) (v := ?_) rfl (by kernel_rfl) (by kernel_rfl) (by kernel_rfl) (fun _ _ _ h => HPN _ _ _ _ _ h) (Or.inl ⟨by rfl, ?_⟩) (by assumption) ?_
  rotate_left
  focus ((intro w hSw; (try dsimp only at hSw); clear hSw; go_simp) <;> (with_reducible rfl))
  try simp only [Act.put, List.setIfInBounds_toArray, List.set_cons_zero, List.set_cons_succ]
  refine wpAnyH_take (i := 3) (oi := { dst := some 42, op := Go.Op.load 3 (Go.Operand.tmp 41), type := 3, pos := "ref.go:34", after := #[{ on := 2, ground := Go.Ground.data }], guard := none }) (v := ?_) rfl (by kernel_rfl) (by kernel_rfl) (by kernel_rfl) (fun _ _ _ h => HPN _ _ _ _ _ h) (Or.inl ⟨by rfl, ?_⟩) (by assumption) ?_
  rotate_left
  focus ((intro w hSw; (try dsimp only at hSw); obtain ⟨c0, c1, c2, c3, c4, c5⟩ := cells_6 (lies_below HC.out hSw (lies_lt HC.out)); clear hSw; go_simp) <;> (with_reducible rfl))
  try simp only [Act.put, List.setIfInBounds_toArray, List.set_cons_zero, List.set_cons_succ]
  refine wpAnyH_take (i := 6) (oi := { dst := some 45, op := Go.Op.fieldAddr 27 (Go.Operand.tmp 1) 1, type := 0, pos := "ref.go:34", after := #[], guard := none }) (v := ?_) rfl (by kernel_rfl) (by kernel_rfl) (by kernel_rfl) (fun _ _ _ h => HPN _ _ _ _ _ h) (Or.inl ⟨by rfl, ?_⟩) (by assumption) ?_
  rotate_left
  focus ((intro w hSw; (try dsimp only at hSw); clear hSw; go_simp) <;> (with_reducible rfl))
  try simp only [Act.put, List.setIfInBounds_toArray, List.set_cons_zero, List.set_cons_succ]
  refine wpAnyH_take (i := 7) (oi := { dst := some 46, op := Go.Op.load 22 (Go.Operand.tmp 45), type := 22, pos := "ref.go:34", after := #[{ on := 6, ground := Go.Ground.data }], guard := none }) (v := ?_) rfl (by kernel_rfl) (by kernel_rfl) (by kernel_rfl) (fun _ _ _ h => HPN _ _ _ _ _ h) (Or.inl ⟨by rfl, ?_⟩) (by assumption) ?_
  rotate_left
  focus ((intro w hSw; (try dsimp only at hSw); obtain ⟨c0, c1, c2, c3, c4, c5⟩ := cells_6 (lies_below HC.out hSw (lies_lt HC.out)); clear hSw; go_simp) <;> (with_reducible rfl))
  try simp only [Act.put, List.setIfInBounds_toArray, List.set_cons_zero, List.set_cons_succ]
  refine wpAnyH_take (i := 8) (oi := { dst := some 47, op := Go.Op.call { callee := Go.Callee.builtin Go.Builtin.len, args := #[Go.Operand.tmp 46], argTypes := #[22] }, type := 3, pos := "ref.go:34", after := #[{ on := 7, ground := Go.Ground.data }], guard := none }) (v := ?_) rfl (by kernel_rfl) (by kernel_rfl) (by kernel_rfl) (fun _ _ _ h => HPN _ _ _ _ _ h) (Or.inl ⟨by rfl, ?_⟩) (by assumption) ?_
  rotate_left
  focus ((intro w hSw; (try dsimp only at hSw); clear hSw; go_simp) <;> (with_reducible rfl))
  try simp only [Act.put, List.setIfInBounds_toArray, List.set_cons_zero, List.set_cons_succ]
  refine wpAnyH_ready (rs := [0]) (by kernel_rfl) (by simp) ?_
  refine AllReadyH.cons (o := { dst := some 39, op := Go.Op.call { callee := Go.Callee.value (Go.Operand.func 15), args := #[Go.Operand.const (Go.Value.int Go.IntKind.i64 1)], argTypes := #[3] }, type := 9, pos := "ref.go:34", after := #[], guard := none }) rfl (fun K hK => ?_) AllReadyH.nil
  go_simp
  (go_at_call 15; (with_reducible refine (H0.out _).mono ?_); rintro e V0 ⟨rfl, hb⟩; go_wp2_with fail)
  have Brenc90 : Hid (Below W.heap.size W V0) := (show Below W.heap.size W W.drew from (Below.refl _ W).drew).trans (hb.mono (show Below W.heap.size W W.drew from (Below.refl _ W).drew).size)
  clear hb
  refine hK.out _ _ ?_ (fun hHeld => ?_)
  · exact Brenc90.out
  clear hK K
  try simp only [Act.put, List.setIfInBounds_toArray, List.set_cons_zero, List.set_cons_succ]
  refine wpAnyH_take (i := 1) (oi := { dst := some 40, op := Go.Op.binOp Go.BinOp.add 9 (Go.Operand.const (Go.Value.string { data := #[65, 70, 68, 88] })) (Go.Operand.tmp 39) 9, type := 9, pos := "ref.go:34", after := #[{ on := 0, ground := Go.Ground.data }], guard := none }) (v := ?_) rfl (by kernel_rfl) (by kernel_rfl) (by kernel_rfl) (fun _ _ _ h => HPN _ _ _ _ _ h) (Or.inl ⟨by rfl, ?_⟩) (by assumption) ?_
  rotate_left
  focus ((intro w hSw; (try dsimp only at hSw); clear hSw; go_simp) <;> (with_reducible rfl))
  try simp only [Act.put, List.setIfInBounds_toArray, List.set_cons_zero, List.set_cons_succ]
  refine wpAnyH_ready (rs := [4]) (by kernel_rfl) (by simp) ?_
  refine AllReadyH.cons (o := { dst := some 43, op := Go.Op.call { callee := Go.Callee.value (Go.Operand.func 15), args := #[Go.Operand.tmp 42], argTypes := #[3] }, type := 9, pos := "ref.go:34", after := #[{ on := 3, ground := Go.Ground.data }, { on := 0, ground := Go.Ground.chain }], guard := none }) rfl (fun K hK => ?_) AllReadyH.nil
  go_simp
  (go_at_call 15; (with_reducible refine (H1.out _).mono ?_); rintro e V1 ⟨rfl, hb⟩; go_wp2_with fail)
  have Brenc91 : Hid (Below W.heap.size W V1) := Brenc90.out.trans (hb.mono Brenc90.out.size)
  clear hb
  refine hK.out _ _ ?_ (fun hHeld => ?_)
  · exact Brenc91.out
  clear hK K
  try simp only [Act.put, List.setIfInBounds_toArray, List.set_cons_zero, List.set_cons_succ]
  refine wpAnyH_take (i := 5) (oi := { dst := some 44, op := Go.Op.binOp Go.BinOp.add 9 (Go.Operand.tmp 40) (Go.Operand.tmp 43) 9, type := 9, pos := "ref.go:34", after := #[{ on := 1, ground := Go.Ground.data }, { on := 4, ground := Go.Ground.data }], guard := none }) (v := ?_) rfl (by kernel_rfl) (by kernel_rfl) (by kernel_rfl) (fun _ _ _ h => HPN _ _ _ _ _ h) (Or.inl ⟨by rfl, ?_⟩) (by assumption) ?_
  rotate_left
  focus ((intro w hSw; (try dsimp only at hSw); clear hSw; go_simp) <;> (with_reducible rfl))
  try simp only [Act.put, List.setIfInBounds_toArray, List.set_cons_zero, List.set_cons_succ]
  refine wpAnyH_ready (rs := [9]) (by kernel_rfl) (by simp) ?_
  refine AllReadyH.cons (o := { dst := some 48, op := Go.Op.call { callee := Go.Callee.value (Go.Operand.func 15), args := #[Go.Operand.tmp 47], argTypes := #[3] }, type := 9, pos := "ref.go:34", after := #[{ on := 8, ground := Go.Ground.data }, { on := 4, ground := Go.Ground.chain }], guard := none }) rfl (fun K hK => ?_) AllReadyH.nil
  go_simp
  (go_at_call 15; (with_reducible refine (H2.out _).mono ?_); rintro e V2 ⟨rfl, hb⟩; go_wp2_with fail)
  have Brenc92 : Hid (Below W.heap.size W V2) := Brenc91.out.trans (hb.mono Brenc91.out.size)
  clear hb
  refine hK.out _ _ ?_ (fun hHeld => ?_)
  · exact Brenc92.out
  clear hK K
  try simp only [Act.put, List.setIfInBounds_toArray, List.set_cons_zero, List.set_cons_succ]
  refine wpAnyH_take (i := 10) (oi := { dst := some 49, op := Go.Op.binOp Go.BinOp.add 9 (Go.Operand.tmp 44) (Go.Operand.tmp 48) 9, type := 9, pos := "ref.go:34", after := #[{ on := 5, ground := Go.Ground.data }, { on := 9, ground := Go.Ground.data }], guard := none }) (v := ?_) rfl (by kernel_rfl) (by kernel_rfl) (by kernel_rfl) (fun _ _ _ h => HPN _ _ _ _ _ h) (Or.inl ⟨by rfl, ?_⟩) (by assumption) ?_
  rotate_left
  focus ((intro w hSw; (try dsimp only at hSw); clear hSw; go_simp) <;> (with_reducible rfl))
  try simp only [Act.put, List.setIfInBounds_toArray, List.set_cons_zero, List.set_cons_succ]
  refine wpAnyH_take (i := 11) (oi := { dst := some 8, op := Go.Op.assign (Go.Operand.tmp 49), type := 9, pos := "ref.go:34", after := #[{ on := 10, ground := Go.Ground.data }, { on := 9, ground := Go.Ground.chain }, { on := 0, ground := Go.Ground.phase }, { on := 1, ground := Go.Ground.phase }, { on := 2, ground := Go.Ground.phase }, { on := 3, ground := Go.Ground.phase }, { on := 4, ground := Go.Ground.phase }, { on := 5, ground := Go.Ground.phase }, { on := 6, ground := Go.Ground.phase }, { on := 7, ground := Go.Ground.phase }, { on := 8, ground := Go.Ground.phase }, { on := 9, ground := Go.Ground.phase }, { on := 10, ground := Go.Ground.phase }], guard := none }) (v := ?_) rfl (by kernel_rfl) (by kernel_rfl) (by kernel_rfl) (fun _ _ _ h => HPN _ _ _ _ _ h) (Or.inl ⟨by rfl, ?_⟩) (by assumption) ?_
  rotate_left
  focus ((intro w hSw; (try dsimp only at hSw); clear hSw; go_simp) <;> (with_reducible rfl))
  try simp only [Act.put, List.setIfInBounds_toArray, List.set_cons_zero, List.set_cons_succ]
  refine wpAnyH_done (by kernel_rfl) ?_ _
  clear hHeld
  exact hQ _ Brenc92.out _ _ _ _ _ _ _ _ _ _ _
set_option maxHeartbeats 4000000 in
theorem renc14 {W : World} {cb : Nat} {hosts major : Int} {pA wA vA qA : Option Addr} {pl pc wl wk vl vc ql qc : Nat} {S B1 B2 : ByteArray} (zS : S.size ≤ 100000000) (zB1 : B1.size ≤ 8) (zB2 : B2.size ≤ 8) (HC : Hid (W.heap[cb]? = some (.cells #[.int .i64 hosts, .slice pA pl pc, .int .i64 major, .slice wA wl wk, .slice vA vl vc, .slice qA ql qc] 27))) (H0 : Hid (∀ w, Calls Try.prog 16 #[.int .i64 major] w fun e w' => e = .returned (.string B1) ∧ Below w.heap.size w w')) (H1 : Hid (∀ w, Calls Try.prog 15 #[.int .i64 (wl : Int)] w fun e w' => e = .returned (.string B2) ∧ Below w.heap.size w w')) {u0 u2 u3 u4 u5 u6 u7 u9 u10 u11 u12 u13 u14 u15 u16 u17 u18 u19 u20 u21 u22 u23 u24 u25 u26 u27 u28 u29 u30 u31 u32 u33 u34 u35 u36 u37 u38 u39 u40 u41 u42 u43 u44 u45 u46 u47 u48 u49 u50 u51 u52 u53 u54 u55 u56 u57 u58 u59 u60 u61 u62 u63 u64 u65 u66 u67 u68 u69 u70 u71 u72 u73 u74 u75 u76 u77 u78 u79 u80 u81 u82 u83 u84 u85 u86 u87 u88 u89 u90 u91 u92 u93 u94 u95 u96 u97 u98 u99 u100 u101 u102 u103 u104 u105 u106 u107 u108 u109 u110 u111 u112 u113 u114 u115 u116 u117 u118 u119 u120 u121 u122 u123 u124 u125 u126 u127 u128 u129 u130 u131 u132 u133 u134 u135 u136 u137 u138 u139 u140 u141 u142 u143 u144 u145 u146 u147 u148 u149 u150 u151 u152 u153 u154 u155 u156 u157 u158 u159 u160 u161 u162 u163 u164 u165 u166 u167 u168 u169 u170 u171 u172 u173 u174 u175 u176 u177 u178 u179 u180 u181 u182 u183 u184 u185 u186 u187 u188 u189 u190 u191 u192 u193 u194 u195 u196 u197 u198 u199 u200 u201 u202 u203 u204 u205 u206 u207 u208 u209 u210 u211 u212 u213 u214 u215 u216 u217 u218 u219 u220 u221 u222 u223 u224 u225 u226 u227 u228 u229 u230 u231 u232 u233 u234 u235 u236 u237 u238 : Value} {Q : Exit → Act → World → Prop} (HPN : ∀ (p : List PanicEntry) (a : Act) (dd : Nat) (vv : Value) (w : World), Q (.panic p) (a.put (some dd) vv) w → Q (.panic p) a w) (hQ : ∀ (wc : World), Below W.heap.size W wc → ∀ x65 x66 x67 x68 x69 x70 x71 x72 x73 x74 : Value, Q .normal ⟨#[u0, (.pointer (some ⟨cb, 0, none⟩)), u2, u3, u4, u5, u6, u7, (.string (S ++ B1 ++ B2)), u9, u10, u11, u12, u13, u14, u15, u16, u17, u18, u19, u20, u21, u22, u23, u24, u25, u26, u27, u28, u29, u30, u31, u32, u33, u34, u35, u36, u37, u38, u39, u40, u41, u42, u43, u44, u45, u46, u47, u48, u49, u50, u51, u52, u53, u54, u55, u56, u57, u58, u59, u60, u61, u62, u63, u64, x65, x66, x67, x68, x69, x70, x71, x72, x73, x74, u75, u76, u77, u78, u79, u80, u81, u82, u83, u84, u85, u86, u87, u88, u89, u90, u91, u92, u93, u94, u95, u96, u97, u98, u99, u100, u101, u102, u103, u104, u105, u106, u107, u108, u109, u110, u111, u112, u113, u114, u115, u116, u117, u118, u119, u120, u121, u122, u123, u124, u125, u126, u127, u128, u129, u130, u131, u132, u133, u134, u135, u136, u137, u138, u139, u140, u141, u142, u143, u144, u145, u146, u147, u148, u149, u150, u151, u152, u153, u154, u155, u156, u157, u158, u159, u160, u161, u162, u163, u164, u165, u166, u167, u168, u169, u170, u171, u172, u173, u174, u175, u176, u177, u178, u179, u180, u181, u182, u183, u184, u185, u186, u187, u188, u189, u190, u191, u192, u193, u194, u195, u196, u197, u198, u199, u200, u201, u202, u203, u204, u205, u206, u207, u208, u209, u210, u211, u212, u213, u214, u215, u216, u217, u218, u219, u220, u221, u222, u223, u224, u225, u226, u227, u228, u229, u230, u231, u232, u233, u234, u235, u236, u237, u238], []⟩ wc) :
    Code.wp Try.prog (Code.region 14 #[{ dst := some 65, op := Go.Op.move (Go.Operand.tmp 8), type := 9, pos := "ref.go:38", after := #[], guard := none }, { dst := some 66, op := Go.Op.fieldAddr 27 (Go.Operand.tmp 1) 2, type := 0, pos := "ref.go:38", after := #[], guard := none }, { dst := some 67, op := Go.Op.load 3 (Go.Operand.tmp 66), type := 3, pos := "ref.go:38", after := #[{ on := 1, ground := Go.Ground.data }], guard := none }, { dst := some 68, op := Go.Op.call { callee := Go.Callee.value (Go.Operand.func 16), args := #[Go.Operand.tmp 67], argTypes := #[3] }, type := 9, pos := "ref.go:38", after := #[{ on := 2, ground := Go.Ground.data }], guard := none }, { dst := some 69, op := Go.Op.binOp Go.BinOp.add 9 (Go.Operand.tmp 65) (Go.Operand.tmp 68) 9, type := 9, pos := "ref.go:38", after := #[{ on := 0, ground := Go.Ground.data }, { on := 3, ground := Go.Ground.data }], guard := none }, { dst := some 70, op := Go.Op.fieldAddr 27 (Go.Operand.tmp 1) 3, type := 0, pos := "ref.go:38", after := #[], guard := none }, { dst := some 71, op := Go.Op.load 23 (Go.Operand.tmp 70), type := 23, pos := "ref.go:38", after := #[{ on := 5, ground := Go.Ground.data }], guard := none }, { dst := some 72, op := Go.Op.call { callee := Go.Callee.builtin Go.Builtin.len, args := #[Go.Operand.tmp 71], argTypes := #[23] }, type := 3, pos := "ref.go:38", after := #[{ on := 6, ground := Go.Ground.data }], guard := none }, { dst := some 73, op := Go.Op.call { callee := Go.Callee.value (Go.Operand.func 15), args := #[Go.Operand.tmp 72], argTypes := #[3] }, type := 9, pos := "ref.go:38", after := #[{ on := 7, ground := Go.Ground.data }, { on := 3, ground := Go.Ground.chain }], guard := none }, { dst := some 74, op := Go.Op.binOp Go.BinOp.add 9 (Go.Operand.tmp 69) (Go.Operand.tmp 73) 9, type := 9, pos := "ref.go:38", after := #[{ on := 4, ground := Go.Ground.data }, { on := 8, ground := Go.Ground.data }], guard := none }, { dst := some 8, op := Go.Op.assign (Go.Operand.tmp 74), type := 9, pos := "ref.go:38", after := #[{ on := 9, ground := Go.Ground.data }, { on := 8, ground := Go.Ground.chain }, { on := 0, ground := Go.Ground.phase }, { on := 1, ground := Go.Ground.phase }, { on := 2, ground := Go.Ground.phase }, { on := 3, ground := Go.Ground.phase }, { on := 4, ground := Go.Ground.phase }, { on := 5, ground := Go.Ground.phase }, { on := 6, ground := Go.Ground.phase }, { on := 7, ground := Go.Ground.phase }, { on := 8, ground := Go.Ground.phase }, { on := 9, ground := Go.Ground.phase }], guard := none }] true) Q ⟨#[u0, (.pointer (some ⟨cb, 0, none⟩)), u2, u3, u4, u5, u6, u7, (.string S), u9, u10, u11, u12, u13, u14, u15, u16, u17, u18, u19, u20, u21, u22, u23, u24, u25, u26, u27, u28, u29, u30, u31, u32, u33, u34, u35, u36, u37, u38, u39, u40, u41, u42, u43, u44, u45, u46, u47, u48, u49, u50, u51, u52, u53, u54, u55, u56, u57, u58, u59, u60, u61, u62, u63, u64, u65, u66, u67, u68, u69, u70, u71, u72, u73, u74, u75, u76, u77, u78, u79, u80, u81, u82, u83, u84, u85, u86, u87, u88, u89, u90, u91, u92, u93, u94, u95, u96, u97, u98, u99, u100, u101, u102, u103, u104, u105, u106, u107, u108, u109, u110, u111, u112, u113, u114, u115, u116, u117, u118, u119, u120, u121, u122, u123, u124, u125, u126, u127, u128, u129, u130, u131, u132, u133, u134, u135, u136, u137, u138, u139, u140, u141, u142, u143, u144, u145, u146, u147, u148, u149, u150, u151, u152, u153, u154, u155, u156, u157, u158, u159, u160, u161, u162, u163, u164, u165, u166, u167, u168, u169, u170, u171, u172, u173, u174, u175, u176, u177, u178, u179, u180, u181, u182, u183, u184, u185, u186, u187, u188, u189, u190, u191, u192, u193, u194, u195, u196, u197, u198, u199, u200, u201, u202, u203, u204, u205, u206, u207, u208, u209, u210, u211, u212, u213, u214, u215, u216, u217, u218, u219, u220, u221, u222, u223, u224, u225, u226, u227, u228, u229, u230, u231, u232, u233, u234, u235, u236, u237, u238], []⟩ W := by
  have gB1 : ¬ 9223372036854775807 < S.size + B1.size := by omega
  have gB2 : ¬ 9223372036854775807 < S.size + B1.size + B2.size := by omega
  refine wp_region_held_drew (S := fun w' => Below W.heap.size W w') (by kernel_rfl) ?_ (fun hHeld => ?_)
  · exact (Below.refl _ W).drew
  refine wpAnyH_take (i := 0) (oi := { dst := some 65, op := Go.Op.move (Go.Operand.tmp 8), type := 9, pos := "ref.go:38", after := #[], guard := none }) (v := ?_) rfl (by kernel_rfl) (by kernel_rfl) (by kernel_rfl) (fun _ _ _ h => HPN _ _ _ _ _ h) (Or.inl ⟨by rfl, ?_⟩) (by assumption) ?_
  rotate_left
  focus ((intro w hSw; (try dsimp only at hSw); clear hSw; go_simp) <;> (with_reducible rfl))
  try simp only [Act.put, List.setIfInBounds_toArray, List.set_cons_zero, List.set_cons_succ]
  refine wpAnyH_take (i := 1) (oi := { dst := some 66, op := Go.Op.fieldAddr 27 (Go.Operand.tmp 1) 2, type := 0, pos := "ref.go:38", after := #[], guard := none }) (v := ?_) rfl (by kernel_rfl) (by kernel_rfl) (by kernel_rfl) (fun _ _ _ h => HPN _ _ _ _ _ h) (Or.inl ⟨by rfl, ?_⟩) (by assumption) ?_
  rotate_left
  focus ((intro w hSw; (try dsimp only at hSw); clear hSw; go_simp) <;> (with_reducible rfl))
  try simp only [Act.put, List.setIfInBounds_toArray, List.set_cons_zero, List.set_cons_succ]
  refine wpAnyH_take (i := 2) (oi := { dst := some 67, op := Go.Op.load 3 (Go.Operand.tmp 66), type := 3, pos := "ref.go:38", after := #[{ on := 1, ground := Go.Ground.data }], guard := none }) (v := ?_) rfl (by kernel_rfl) (by kernel_rfl) (by kernel_rfl) (fun _ _ _ h => HPN _ _ _ _ _ h) (Or.inl ⟨by rfl, ?_⟩) (by assumption) ?_
  rotate_left
  focus ((intro w hSw; (try dsimp only at hSw); obtain ⟨c0, c1, c2, c3, c4, c5⟩ := cells_6 (lies_below HC.out hSw (lies_lt HC.out)); clear hSw; go_simp) <;> (with_reducible rfl))
  try simp only [Act.put, List.setIfInBounds_toArray, List.set_cons_zero, List.set_cons_succ]
  refine wpAnyH_take (i := 5) (oi := { dst := some 70, op := Go.Op.fieldAddr 27 (Go.Operand.tmp 1) 3, type := 0, pos := "ref.go:38", after := #[], guard := none }) (v := ?_) rfl (by kernel_rfl) (by kernel_rfl) (by kernel_rfl) (fun _ _ _ h => HPN _ _ _ _ _ h) (Or.inl ⟨by rfl, ?_⟩) (by assumption) ?_
  rotate_left
  focus ((intro w hSw; (try dsimp only at hSw); clear hSw; go_simp) <;> (with_reducible rfl))
  try simp only [Act.put, List.setIfInBounds_toArray, List.set_cons_zero, List.set_cons_succ]
  refine wpAnyH_take (i := 6) (oi := { dst := some 71, op := Go.Op.load 23 (Go.Operand.tmp 70), type := 23, pos := "ref.go:38", after := #[{ on := 5, ground := Go.Ground.data }], guard := none }) (v := ?_) rfl (by kernel_rfl) (by kernel_rfl) (by kernel_rfl) (fun _ _ _ h => HPN _ _ _ _ _ h) (Or.inl ⟨by rfl, ?_⟩) (by assumption) ?_
  rotate_left
  focus ((intro w hSw; (try dsimp only at hSw); obtain ⟨c0, c1, c2, c3, c4, c5⟩ := cells_6 (lies_below HC.out hSw (lies_lt HC.out)); clear hSw; go_simp) <;> (with_reducible rfl))
  try simp only [Act.put, List.setIfInBounds_toArray, List.set_cons_zero, List.set_cons_succ]
  refine wpAnyH_take (i := 7) (oi := { dst := some 72, op := Go.Op.call { callee := Go.Callee.builtin Go.Builtin.len, args := #[Go.Operand.tmp 71], argTypes := #[23] }, type := 3, pos := "ref.go:38", after := #[{ on := 6, ground := Go.Ground.data }], guard := none }) (v := ?_) rfl (by kernel_rfl) (by kernel_rfl) (by kernel_rfl) (fun _ _ _ h => HPN _ _ _ _ _ h) (Or.inl ⟨by rfl, ?_⟩) (by assumption) ?_
  rotate_left
  focus ((intro w hSw; (try dsimp only at hSw); clear hSw; go_simp) <;> (with_reducible rfl))
  try simp only [Act.put, List.setIfInBounds_toArray, List.set_cons_zero, List.set_cons_succ]
  refine wpAnyH_ready (rs := [3]) (by kernel_rfl) (by simp) ?_
  refine AllReadyH.cons (o := { dst := some 68, op := Go.Op.call { callee := Go.Callee.value (Go.Operand.func 16), args := #[Go.Operand.tmp 67], argTypes := #[3] }, type := 9, pos := "ref.go:38", after := #[{ on := 2, ground := Go.Ground.data }], guard := none }) rfl (fun K hK => ?_) AllReadyH.nil
  go_simp
  (go_at_call 16; (with_reducible refine (H0.out _).mono ?_); rintro e V0 ⟨rfl, hb⟩; go_wp2_with fail)
  have Brenc140 : Hid (Below W.heap.size W V0) := (show Below W.heap.size W W.drew from (Below.refl _ W).drew).trans (hb.mono (show Below W.heap.size W W.drew from (Below.refl _ W).drew).size)
  clear hb
  refine hK.out _ _ ?_ (fun hHeld => ?_)
  · exact Brenc140.out
  clear hK K
  try simp only [Act.put, List.setIfInBounds_toArray, List.set_cons_zero, List.set_cons_succ]
  refine wpAnyH_take (i := 4) (oi := { dst := some 69, op := Go.Op.binOp Go.BinOp.add 9 (Go.Operand.tmp 65) (Go.Operand.tmp 68) 9, type := 9, pos := "ref.go:38", after := #[{ on := 0, ground := Go.Ground.data }, { on := 3, ground := Go.Ground.data }], guard := none }) (v := ?_) rfl (by kernel_rfl) (by kernel_rfl) (by kernel_rfl) (fun _ _ _ h => HPN _ _ _ _ _ h) (Or.inl ⟨by rfl, ?_⟩) (by assumption) ?_
  rotate_left
  focus ((intro w hSw; (try dsimp only at hSw); clear hSw; go_simp) <;> (with_reducible rfl))
  try simp only [Act.put, List.setIfInBounds_toArray, List.set_cons_zero, List.set_cons_succ]
  refine wpAnyH_ready (rs := [8]) (by kernel_rfl) (by simp) ?_
  refine AllReadyH.cons (o := { dst := some 73, op := Go.Op.call { callee := Go.Callee.value (Go.Operand.func 15), args := #[Go.Operand.tmp 72], argTypes := #[3] }, type := 9, pos := "ref.go:38", after := #[{ on := 7, ground := Go.Ground.data }, { on := 3, ground := Go.Ground.chain }], guard := none }) rfl (fun K hK => ?_) AllReadyH.nil
  go_simp
  (go_at_call 15; (with_reducible refine (H1.out _).mono ?_); rintro e V1 ⟨rfl, hb⟩; go_wp2_with fail)
  have Brenc141 : Hid (Below W.heap.size W V1) := Brenc140.out.trans (hb.mono Brenc140.out.size)
  clear hb
  refine hK.out _ _ ?_ (fun hHeld => ?_)
  · exact Brenc141.out
  clear hK K
  try simp only [Act.put, List.setIfInBounds_toArray, List.set_cons_zero, List.set_cons_succ]
  refine wpAnyH_take (i := 9) (oi := { dst := some 74, op := Go.Op.binOp Go.BinOp.add 9 (Go.Operand.tmp 69) (Go.Operand.tmp 73) 9, type := 9, pos := "ref.go:38", after := #[{ on := 4, ground := Go.Ground.data }, { on := 8, ground := Go.Ground.data }], guard := none }) (v := ?_) rfl (by kernel_rfl) (by kernel_rfl) (by kernel_rfl) (fun _ _ _ h => HPN _ _ _ _ _ h) (Or.inl ⟨by rfl, ?_⟩) (by assumption) ?_
  rotate_left
  focus ((intro w hSw; (try dsimp only at hSw); clear hSw; go_simp) <;> (with_reducible rfl))
  try simp only [Act.put, List.setIfInBounds_toArray, List.set_cons_zero, List.set_cons_succ]
  refine wpAnyH_take (i := 10) (oi := { dst := some 8, op := Go.Op.assign (Go.Operand.tmp 74), type := 9, pos := "ref.go:38", after := #[{ on := 9, ground := Go.Ground.data }, { on := 8, ground := Go.Ground.chain }, { on := 0, ground := Go.Ground.phase }, { on := 1, ground := Go.Ground.phase }, { on := 2, ground := Go.Ground.phase }, { on := 3, ground := Go.Ground.phase }, { on := 4, ground := Go.Ground.phase }, { on := 5, ground := Go.Ground.phase }, { on := 6, ground := Go.Ground.phase }, { on := 7, ground := Go.Ground.phase }, { on := 8, ground := Go.Ground.phase }, { on := 9, ground := Go.Ground.phase }], guard := none }) (v := ?_) rfl (by kernel_rfl) (by kernel_rfl) (by kernel_rfl) (fun _ _ _ h => HPN _ _ _ _ _ h) (Or.inl ⟨by rfl, ?_⟩) (by assumption) ?_
  rotate_left
  focus ((intro w hSw; (try dsimp only at hSw); clear hSw; go_simp) <;> (with_reducible rfl))
  try simp only [Act.put, List.setIfInBounds_toArray, List.set_cons_zero, List.set_cons_succ]
  refine wpAnyH_done (by kernel_rfl) ?_ _
  clear hHeld
  exact hQ _ Brenc141.out _ _ _ _ _ _ _ _ _ _
set_option maxHeartbeats 4000000 in
theorem renc18 {W : World} {cb sb so k : Nat} {x : Wn} {hosts major : Int} {pA vA qA : Option Addr} {pl pc wl wk vl vc ql qc : Nat} {S B1 B2 B3 : ByteArray} (zS : S.size ≤ 100000000) (zB1 : B1.size ≤ 8) (zB2 : B2.size ≤ 8) (zB3 : B3.size ≤ 8) (hk : k < wl) (HC : Hid (W.heap[cb]? = some (.cells #[.int .i64 hosts, .slice pA pl pc, .int .i64 major, .slice (some ⟨sb, so, none⟩) wl wk, .slice vA vl vc, .slice qA ql qc] 27))) (HX : Hid (WnAt W sb (so + k * 3) x)) (HLT : Hid (sb < W.heap.size)) (H0 : Hid (∀ w, Calls Try.prog 15 #[.int .i64 x.part] w fun e w' => e = .returned (.string B1) ∧ Below w.heap.size w w')) (H1 : Hid (∀ w, Calls Try.prog 16 #[.int .i64 x.beg] w fun e w' => e = .returned (.string B2) ∧ Below w.heap.size w w')) (H2 : Hid (∀ w, Calls Try.prog 16 #[.int .i64 x.long] w fun e w' => e = .returned (.string B3) ∧ Below w.heap.size w w')) {u0 u2 u3 u4 u5 u6 u7 u9 u11 u12 u13 u14 u15 u16 u17 u18 u19 u20 u21 u22 u23 u24 u25 u26 u27 u28 u29 u30 u31 u32 u33 u34 u35 u36 u37 u38 u39 u40 u41 u42 u43 u44 u45 u46 u47 u48 u49 u50 u51 u52 u53 u54 u55 u56 u57 u58 u59 u60 u61 u62 u63 u64 u65 u66 u67 u68 u69 u70 u71 u72 u73 u74 u75 u76 u77 u78 u79 u80 u81 u82 u83 u84 u85 u86 u87 u88 u89 u90 u91 u92 u93 u94 u95 u96 u97 u98 u99 u100 u101 u102 u103 u104 u105 u106 u107 u108 u109 u110 u111 u112 u113 u114 u115 u116 u117 u118 u119 u120 u121 u122 u123 u124 u125 u126 u127 u128 u129 u130 u131 u132 u133 u134 u135 u136 u137 u138 u139 u140 u141 u142 u143 u144 u145 u146 u147 u148 u149 u150 u151 u152 u153 u154 u155 u156 u157 u158 u159 u160 u161 u162 u163 u164 u165 u166 u167 u168 u169 u170 u171 u172 u173 u174 u175 u176 u177 u178 u179 u180 u181 u182 u183 u184 u185 u186 u187 u188 u189 u190 u191 u192 u193 u194 u195 u196 u197 u198 u199 u200 u201 u202 u203 u204 u205 u206 u207 u208 u209 u210 u211 u212 u213 u214 u215 u216 u217 u218 u219 u220 u221 u222 u223 u224 u225 u226 u227 u228 u229 u230 u231 u232 u233 u234 u235 u236 u237 u238 : Value} {Q : Exit → Act → World → Prop} (HPN : ∀ (p : List PanicEntry) (a : Act) (dd : Nat) (vv : Value) (w : World), Q (.panic p) (a.put (some dd) vv) w → Q (.panic p) a w) (hQ : ∀ (wc : World), Below W.heap.size W wc → ∀ x82 x83 x84 x85 x86 x87 x88 x89 x90 x91 x92 x93 x94 x95 x96 x97 x98 x99 x100 x101 x102 x103 x104 x105 x106 : Value, Q .normal ⟨#[u0, (.pointer (some ⟨cb, 0, none⟩)), u2, u3, u4, u5, u6, u7, (.string (S ++ B1 ++ B2 ++ B3)), u9, (.int .i64 k), u11, u12, u13, u14, u15, u16, u17, u18, u19, u20, u21, u22, u23, u24, u25, u26, u27, u28, u29, u30, u31, u32, u33, u34, u35, u36, u37, u38, u39, u40, u41, u42, u43, u44, u45, u46, u47, u48, u49, u50, u51, u52, u53, u54, u55, u56, u57, u58, u59, u60, u61, u62, u63, u64, u65, u66, u67, u68, u69, u70, u71, u72, u73, u74, u75, u76, u77, u78, u79, u80, u81, x82, x83, x84, x85, x86, x87, x88, x89, x90, x91, x92, x93, x94, x95, x96, x97, x98, x99, x100, x101, x102, x103, x104, x105, x106, u107, u108, u109, u110, u111, u112, u113, u114, u115, u116, u117, u118, u119, u120, u121, u122, u123, u124, u125, u126, u127, u128, u129, u130, u131, u132, u133, u134, u135, u136, u137, u138, u139, u140, u141, u142, u143, u144, u145, u146, u147, u148, u149, u150, u151, u152, u153, u154, u155, u156, u157, u158, u159, u160, u161, u162, u163, u164, u165, u166, u167, u168, u169, u170, u171, u172, u173, u174, u175, u176, u177, u178, u179, u180, u181, u182, u183, u184, u185, u186, u187, u188, u189, u190, u191, u192, u193, u194, u195, u196, u197, u198, u199, u200, u201, u202, u203, u204, u205, u206, u207, u208, u209, u210, u211, u212, u213, u214, u215, u216, u217, u218, u219, u220, u221, u222, u223, u224, u225, u226, u227, u228, u229, u230, u231, u232, u233, u234, u235, u236, u237, u238], []⟩ wc) :
    Code.wp Try.prog (Code.region 18 #[{ dst := some 82, op := Go.Op.move (Go.Operand.tmp 8), type := 9, pos := "ref.go:40", after := #[], guard := none }, { dst := some 83, op := Go.Op.fieldAddr 27 (Go.Operand.tmp 1) 3, type := 0, pos := "ref.go:40", after := #[], guard := none }, { dst := some 84, op := Go.Op.load 23 (Go.Operand.tmp 83), type := 23, pos := "ref.go:40", after := #[{ on := 1, ground := Go.Ground.data }], guard := none }, { dst := some 85, op := Go.Op.move (Go.Operand.tmp 10), type := 3, pos := "ref.go:40", after := #[], guard := none }, { dst := some 86, op := Go.Op.indexAddr 23 (Go.Operand.tmp 84) (Go.Operand.tmp 85), type := 0, pos := "ref.go:40", after := #[{ on := 2, ground := Go.Ground.data }, { on := 3, ground := Go.Ground.data }], guard := none }, { dst := some 87, op := Go.Op.fieldAddr 54 (Go.Operand.tmp 86) 0, type := 0, pos := "ref.go:40", after := #[{ on := 4, ground := Go.Ground.data }], guard := none }, { dst := some 88, op := Go.Op.load 3 (Go.Operand.tmp 87), type := 3, pos := "ref.go:40", after := #[{ on := 5, ground := Go.Ground.data }], guard := none }, { dst := some 89, op := Go.Op.call { callee := Go.Callee.value (Go.Operand.func 15), args := #[Go.Operand.tmp 88], argTypes := #[3] }, type := 9, pos := "ref.go:40", after := #[{ on := 6, ground := Go.Ground.data }], guard := none }, { dst := some 90, op := Go.Op.binOp Go.BinOp.add 9 (Go.Operand.tmp 82) (Go.Operand.tmp 89) 9, type := 9, pos := "ref.go:40", after := #[{ on := 0, ground := Go.Ground.data }, { on := 7, ground := Go.Ground.data }], guard := none }, { dst := some 91, op := Go.Op.fieldAddr 27 (Go.Operand.tmp 1) 3, type := 0, pos := "ref.go:40", after := #[], guard := none }, { dst := some 92, op := Go.Op.load 23 (Go.Operand.tmp 91), type := 23, pos := "ref.go:40", after := #[{ on := 9, ground := Go.Ground.data }], guard := none }, { dst := some 93, op := Go.Op.move (Go.Operand.tmp 10), type := 3, pos := "ref.go:40", after := #[], guard := none }, { dst := some 94, op := Go.Op.indexAddr 23 (Go.Operand.tmp 92) (Go.Operand.tmp 93), type := 0, pos := "ref.go:40", after := #[{ on := 10, ground := Go.Ground.data }, { on := 11, ground := Go.Ground.data }], guard := none }, { dst := some 95, op := Go.Op.fieldAddr 54 (Go.Operand.tmp 94) 1, type := 0, pos := "ref.go:40", after := #[{ on := 12, ground := Go.Ground.data }], guard := none }, { dst := some 96, op := Go.Op.load 3 (Go.Operand.tmp 95), type := 3, pos := "ref.go:40", after := #[{ on := 13, ground := Go.Ground.data }], guard := none }, { dst := some 97, op := Go.Op.call { callee := Go.Callee.value (Go.Operand.func 16), args := #[Go.Operand.tmp 96], argTypes := #[3] }, type := 9, pos := "ref.go:40", after := #[{ on := 14, ground := Go.Ground.data }, { on := 7, ground := Go.Ground.chain }], guard := none }, { dst := some 98, op := Go.Op.binOp Go.BinOp.add 9 (Go.Operand.tmp 90) (Go.Operand.tmp 97) 9, type := 9, pos := "ref.go:40", after := #[{ on := 8, ground := Go.Ground.data }, { on := 15, ground := Go.Ground.data }], guard := none }, { dst := some 99, op := Go.Op.fieldAddr 27 (Go.Operand.tmp 1) 3, type := 0, pos := "ref.go:40", after := #[], guard := none }, { dst := some 100, op := Go.Op.load 23 (Go.Operand.tmp 99), type := 23, pos := "ref.go:40", after := #[{ on := 17, ground := Go.Ground.data }], guard := none }, { dst := some 101, op := Go.Op.move (Go.Operand.tmp 10), type := 3, pos := "ref.go:40", after := #[], guard := none }, { dst := some 102, op := Go.Op.indexAddr 23 (Go.Operand.tmp 100) (Go.Operand.tmp 101), type := 0, pos := "ref.go:40", after := #[{ on := 18, ground := Go.Ground.data }, { on := 19, ground := Go.Ground.data }], guard := none }, { dst := some 103, op := Go.Op.fieldAddr 54 (Go.Operand.tmp 102) 2, type := 0, pos := "ref.go:40", after := #[{ on := 20, ground := Go.Ground.data }], guard := none }, { dst := some 104, op := Go.Op.load 3 (Go.Operand.tmp 103), type := 3, pos := "ref.go:40", after := #[{ on := 21, ground := Go.Ground.data }], guard := none }, { dst := some 105, op := Go.Op.call { callee := Go.Callee.value (Go.Operand.func 16), args := #[Go.Operand.tmp 104], argTypes := #[3] }, type := 9, pos := "ref.go:40", after := #[{ on := 22, ground := Go.Ground.data }, { on := 15, ground := Go.Ground.chain }], guard := none }, { dst := some 106, op := Go.Op.binOp Go.BinOp.add 9 (Go.Operand.tmp 98) (Go.Operand.tmp 105) 9, type := 9, pos := "ref.go:40", after := #[{ on := 16, ground := Go.Ground.data }, { on := 23, ground := Go.Ground.data }], guard := none }, { dst := some 8, op := Go.Op.assign (Go.Operand.tmp 106), type := 9, pos := "ref.go:40", after := #[{ on := 24, ground := Go.Ground.data }, { on := 23, ground := Go.Ground.chain }, { on := 0, ground := Go.Ground.phase }, { on := 1, ground := Go.Ground.phase }, { on := 2, ground := Go.Ground.phase }, { on := 3, ground := Go.Ground.phase }, { on := 4, ground := Go.Ground.phase }, { on := 5, ground := Go.Ground.phase }, { on := 6, ground := Go.Ground.phase }, { on := 7, ground := Go.Ground.phase }, { on := 8, ground := Go.Ground.phase }, { on := 9, ground := Go.Ground.phase }, { on := 10, ground := Go.Ground.phase }, { on := 11, ground := Go.Ground.phase }, { on := 12, ground := Go.Ground.phase }, { on := 13, ground := Go.Ground.phase }, { on := 14, ground := Go.Ground.phase }, { on := 15, ground := Go.Ground.phase }, { on := 16, ground := Go.Ground.phase }, { on := 17, ground := Go.Ground.phase }, { on := 18, ground := Go.Ground.phase }, { on := 19, ground := Go.Ground.phase }, { on := 20, ground := Go.Ground.phase }, { on := 21, ground := Go.Ground.phase }, { on := 22, ground := Go.Ground.phase }, { on := 23, ground := Go.Ground.phase }, { on := 24, ground := Go.Ground.phase }], guard := none }] true) Q ⟨#[u0, (.pointer (some ⟨cb, 0, none⟩)), u2, u3, u4, u5, u6, u7, (.string S), u9, (.int .i64 k), u11, u12, u13, u14, u15, u16, u17, u18, u19, u20, u21, u22, u23, u24, u25, u26, u27, u28, u29, u30, u31, u32, u33, u34, u35, u36, u37, u38, u39, u40, u41, u42, u43, u44, u45, u46, u47, u48, u49, u50, u51, u52, u53, u54, u55, u56, u57, u58, u59, u60, u61, u62, u63, u64, u65, u66, u67, u68, u69, u70, u71, u72, u73, u74, u75, u76, u77, u78, u79, u80, u81, u82, u83, u84, u85, u86, u87, u88, u89, u90, u91, u92, u93, u94, u95, u96, u97, u98, u99, u100, u101, u102, u103, u104, u105, u106, u107, u108, u109, u110, u111, u112, u113, u114, u115, u116, u117, u118, u119, u120, u121, u122, u123, u124, u125, u126, u127, u128, u129, u130, u131, u132, u133, u134, u135, u136, u137, u138, u139, u140, u141, u142, u143, u144, u145, u146, u147, u148, u149, u150, u151, u152, u153, u154, u155, u156, u157, u158, u159, u160, u161, u162, u163, u164, u165, u166, u167, u168, u169, u170, u171, u172, u173, u174, u175, u176, u177, u178, u179, u180, u181, u182, u183, u184, u185, u186, u187, u188, u189, u190, u191, u192, u193, u194, u195, u196, u197, u198, u199, u200, u201, u202, u203, u204, u205, u206, u207, u208, u209, u210, u211, u212, u213, u214, u215, u216, u217, u218, u219, u220, u221, u222, u223, u224, u225, u226, u227, u228, u229, u230, u231, u232, u233, u234, u235, u236, u237, u238], []⟩ W := by
  have gB1 : ¬ 9223372036854775807 < S.size + B1.size := by omega
  have gB2 : ¬ 9223372036854775807 < S.size + B1.size + B2.size := by omega
  have gB3 : ¬ 9223372036854775807 < S.size + B1.size + B2.size + B3.size := by omega
  have q2 : (k : Int) < (wl : Int) := by omega
  have q3 : 0 ≤ (k : Int) := by omega
  refine wp_region_held_drew (S := fun w' => Below W.heap.size W w') (by kernel_rfl) ?_ (fun hHeld => ?_)
  · exact (Below.refl _ W).drew
  refine wpAnyH_take (i := 0) (oi := { dst := some 82, op := Go.Op.move (Go.Operand.tmp 8), type := 9, pos := "ref.go:40", after := #[], guard := none }) (v := ?_) rfl (by kernel_rfl) (by kernel_rfl) (by kernel_rfl) (fun _ _ _ h => HPN _ _ _ _ _ h) (Or.inl ⟨by rfl, ?_⟩) (by assumption) ?_
  rotate_left
  focus ((intro w hSw; (try dsimp only at hSw); clear hSw; go_simp) <;> (with_reducible rfl))
  try simp only [Act.put, List.setIfInBounds_toArray, List.set_cons_zero, List.set_cons_succ]
  refine wpAnyH_take (i := 1) (oi := { dst := some 83, op := Go.Op.fieldAddr 27 (Go.Operand.tmp 1) 3, type := 0, pos := "ref.go:40", after := #[], guard := none }) (v := ?_) rfl (by kernel_rfl) (by kernel_rfl) (by kernel_rfl) (fun _ _ _ h => HPN _ _ _ _ _ h) (Or.inl ⟨by rfl, ?_⟩) (by assumption) ?_
  rotate_left
  focus ((intro w hSw; (try dsimp only at hSw); clear hSw; go_simp) <;> (with_reducible rfl))
  try simp only [Act.put, List.setIfInBounds_toArray, List.set_cons_zero, List.set_cons_succ]
  refine wpAnyH_take (i := 2) (oi := { dst := some 84, op := Go.Op.load 23 (Go.Operand.tmp 83), type := 23, pos := "ref.go:40", after := #[{ on := 1, ground := Go.Ground.data }], guard := none }) (v := ?_) rfl (by kernel_rfl) (by kernel_rfl) (by kernel_rfl) (fun _ _ _ h => HPN _ _ _ _ _ h) (Or.inl ⟨by rfl, ?_⟩) (by assumption) ?_
  rotate_left
  focus ((intro w hSw; (try dsimp only at hSw); obtain ⟨c0, c1, c2, c3, c4, c5⟩ := cells_6 (lies_below HC.out hSw (lies_lt HC.out)); clear hSw; go_simp) <;> (with_reducible rfl))
  try simp only [Act.put, List.setIfInBounds_toArray, List.set_cons_zero, List.set_cons_succ]
  refine wpAnyH_take (i := 3) (oi := { dst := some 85, op := Go.Op.move (Go.Operand.tmp 10), type := 3, pos := "ref.go:40", after := #[], guard := none }) (v := ?_) rfl (by kernel_rfl) (by kernel_rfl) (by kernel_rfl) (fun _ _ _ h => HPN _ _ _ _ _ h) (Or.inl ⟨by rfl, ?_⟩) (by assumption) ?_
  rotate_left
  focus ((intro w hSw; (try dsimp only at hSw); clear hSw; go_simp) <;> (with_reducible rfl))
  try simp only [Act.put, List.setIfInBounds_toArray, List.set_cons_zero, List.set_cons_succ]
  refine wpAnyH_take (i := 4) (oi := { dst := some 86, op := Go.Op.indexAddr 23 (Go.Operand.tmp 84) (Go.Operand.tmp 85), type := 0, pos := "ref.go:40", after := #[{ on := 2, ground := Go.Ground.data }, { on := 3, ground := Go.Ground.data }], guard := none }) (v := ?_) rfl (by kernel_rfl) (by kernel_rfl) (by kernel_rfl) (fun _ _ _ h => HPN _ _ _ _ _ h) (Or.inl ⟨by rfl, ?_⟩) (by assumption) ?_
  rotate_left
  focus ((intro w hSw; (try dsimp only at hSw); clear hSw; go_simp) <;> (with_reducible rfl))
  try simp only [Act.put, List.setIfInBounds_toArray, List.set_cons_zero, List.set_cons_succ]
  refine wpAnyH_take (i := 5) (oi := { dst := some 87, op := Go.Op.fieldAddr 54 (Go.Operand.tmp 86) 0, type := 0, pos := "ref.go:40", after := #[{ on := 4, ground := Go.Ground.data }], guard := none }) (v := ?_) rfl (by kernel_rfl) (by kernel_rfl) (by kernel_rfl) (fun _ _ _ h => HPN _ _ _ _ _ h) (Or.inl ⟨by rfl, ?_⟩) (by assumption) ?_
  rotate_left
  focus ((intro w hSw; (try dsimp only at hSw); clear hSw; go_simp) <;> (with_reducible rfl))
  try simp only [Act.put, List.setIfInBounds_toArray, List.set_cons_zero, List.set_cons_succ]
  refine wpAnyH_take (i := 6) (oi := { dst := some 88, op := Go.Op.load 3 (Go.Operand.tmp 87), type := 3, pos := "ref.go:40", after := #[{ on := 5, ground := Go.Ground.data }], guard := none }) (v := ?_) rfl (by kernel_rfl) (by kernel_rfl) (by kernel_rfl) (fun _ _ _ h => HPN _ _ _ _ _ h) (Or.inl ⟨by rfl, ?_⟩) (by assumption) ?_
  rotate_left
  focus ((intro w hSw; (try dsimp only at hSw); obtain ⟨x0, x1, x2⟩ := HX.out.below hSw HLT.out; clear hSw; go_simp) <;> (with_reducible rfl))
  try simp only [Act.put, List.setIfInBounds_toArray, List.set_cons_zero, List.set_cons_succ]
  refine wpAnyH_take (i := 9) (oi := { dst := some 91, op := Go.Op.fieldAddr 27 (Go.Operand.tmp 1) 3, type := 0, pos := "ref.go:40", after := #[], guard := none }) (v := ?_) rfl (by kernel_rfl) (by kernel_rfl) (by kernel_rfl) (fun _ _ _ h => HPN _ _ _ _ _ h) (Or.inl ⟨by rfl, ?_⟩) (by assumption) ?_
  rotate_left
  focus ((intro w hSw; (try dsimp only at hSw); clear hSw; go_simp) <;> (with_reducible rfl))
  try simp only [Act.put, List.setIfInBounds_toArray, List.set_cons_zero, List.set_cons_succ]
  refine wpAnyH_take (i := 10) (oi := { dst := some 92, op := Go.Op.load 23 (Go.Operand.tmp 91), type := 23, pos := "ref.go:40", after := #[{ on := 9, ground := Go.Ground.data }], guard := none }) (v := ?_) rfl (by kernel_rfl) (by kernel_rfl) (by kernel_rfl) (fun _ _ _ h => HPN _ _ _ _ _ h) (Or.inl ⟨by rfl, ?_⟩) (by assumption) ?_
  rotate_left
  focus ((intro w hSw; (try dsimp only at hSw); obtain ⟨c0, c1, c2, c3, c4, c5⟩ := cells_6 (lies_below HC.out hSw (lies_lt HC.out)); clear hSw; go_simp) <;> (with_reducible rfl))
  try simp only [Act.put, List.setIfInBounds_toArray, List.set_cons_zero, List.set_cons_succ]
  refine wpAnyH_take (i := 11) (oi := { dst := some 93, op := Go.Op.move (Go.Operand.tmp 10), type := 3, pos := "ref.go:40", after := #[], guard := none }) (v := ?_) rfl (by kernel_rfl) (by kernel_rfl) (by kernel_rfl) (fun _ _ _ h => HPN _ _ _ _ _ h) (Or.inl ⟨by rfl, ?_⟩) (by assumption) ?_
  rotate_left
  focus ((intro w hSw; (try dsimp only at hSw); clear hSw; go_simp) <;> (with_reducible rfl))
  try simp only [Act.put, List.setIfInBounds_toArray, List.set_cons_zero, List.set_cons_succ]
  refine wpAnyH_take (i := 12) (oi := { dst := some 94, op := Go.Op.indexAddr 23 (Go.Operand.tmp 92) (Go.Operand.tmp 93), type := 0, pos := "ref.go:40", after := #[{ on := 10, ground := Go.Ground.data }, { on := 11, ground := Go.Ground.data }], guard := none }) (v := ?_) rfl (by kernel_rfl) (by kernel_rfl) (by kernel_rfl) (fun _ _ _ h => HPN _ _ _ _ _ h) (Or.inl ⟨by rfl, ?_⟩) (by assumption) ?_
  rotate_left
  focus ((intro w hSw; (try dsimp only at hSw); clear hSw; go_simp) <;> (with_reducible rfl))
  try simp only [Act.put, List.setIfInBounds_toArray, List.set_cons_zero, List.set_cons_succ]
  refine wpAnyH_take (i := 13) (oi := { dst := some 95, op := Go.Op.fieldAddr 54 (Go.Operand.tmp 94) 1, type := 0, pos := "ref.go:40", after := #[{ on := 12, ground := Go.Ground.data }], guard := none }) (v := ?_) rfl (by kernel_rfl) (by kernel_rfl) (by kernel_rfl) (fun _ _ _ h => HPN _ _ _ _ _ h) (Or.inl ⟨by rfl, ?_⟩) (by assumption) ?_
  rotate_left
  focus ((intro w hSw; (try dsimp only at hSw); clear hSw; go_simp) <;> (with_reducible rfl))
  try simp only [Act.put, List.setIfInBounds_toArray, List.set_cons_zero, List.set_cons_succ]
  refine wpAnyH_take (i := 14) (oi := { dst := some 96, op := Go.Op.load 3 (Go.Operand.tmp 95), type := 3, pos := "ref.go:40", after := #[{ on := 13, ground := Go.Ground.data }], guard := none }) (v := ?_) rfl (by kernel_rfl) (by kernel_rfl) (by kernel_rfl) (fun _ _ _ h => HPN _ _ _ _ _ h) (Or.inl ⟨by rfl, ?_⟩) (by assumption) ?_
  rotate_left
  focus ((intro w hSw; (try dsimp only at hSw); obtain ⟨x0, x1, x2⟩ := HX.out.below hSw HLT.out; clear hSw; go_simp) <;> (with_reducible rfl))
  try simp only [Act.put, List.setIfInBounds_toArray, List.set_cons_zero, List.set_cons_succ]
  refine wpAnyH_take (i := 17) (oi := { dst := some 99, op := Go.Op.fieldAddr 27 (Go.Operand.tmp 1) 3, type := 0, pos := "ref.go:40", after := #[], guard := none }) (v := ?_) rfl (by kernel_rfl) (by kernel_rfl) (by kernel_rfl) (fun _ _ _ h => HPN _ _ _ _ _ h) (Or.inl ⟨by rfl, ?_⟩) (by assumption) ?_
  rotate_left
  focus ((intro w hSw; (try dsimp only at hSw); clear hSw; go_simp) <;> (with_reducible rfl))
  try simp only [Act.put, List.setIfInBounds_toArray, List.set_cons_zero, List.set_cons_succ]
  refine wpAnyH_take (i := 18) (oi := { dst := some 100, op := Go.Op.load 23 (Go.Operand.tmp 99), type := 23, pos := "ref.go:40", after := #[{ on := 17, ground := Go.Ground.data }], guard := none }) (v := ?_) rfl (by kernel_rfl) (by kernel_rfl) (by kernel_rfl) (fun _ _ _ h => HPN _ _ _ _ _ h) (Or.inl ⟨by rfl, ?_⟩) (by assumption) ?_
  rotate_left
  focus ((intro w hSw; (try dsimp only at hSw); obtain ⟨c0, c1, c2, c3, c4, c5⟩ := cells_6 (lies_below HC.out hSw (lies_lt HC.out)); clear hSw; go_simp) <;> (with_reducible rfl))
  try simp only [Act.put, List.setIfInBounds_toArray, List.set_cons_zero, List.set_cons_succ]
  refine wpAnyH_take (i := 19) (oi := { dst := some 101, op := Go.Op.move (Go.Operand.tmp 10), type := 3, pos := "ref.go:40", after := #[], guard := none }) (v := ?_) rfl (by kernel_rfl) (by kernel_rfl) (by kernel_rfl) (fun _ _ _ h => HPN _ _ _ _ _ h) (Or.inl ⟨by rfl, ?_⟩) (by assumption) ?_
  rotate_left
  focus ((intro w hSw; (try dsimp only at hSw); clear hSw; go_simp) <;> (with_reducible rfl))
  try simp only [Act.put, List.setIfInBounds_toArray, List.set_cons_zero, List.set_cons_succ]
  refine wpAnyH_take (i := 20) (oi := { dst := some 102, op := Go.Op.indexAddr 23 (Go.Operand.tmp 100) (Go.Operand.tmp 101), type := 0, pos := "ref.go:40", after := #[{ on := 18, ground := Go.Ground.data }, { on := 19, ground := Go.Ground.data }], guard := none }) (v := ?_) rfl (by kernel_rfl) (by kernel_rfl) (by kernel_rfl) (fun _ _ _ h => HPN _ _ _ _ _ h) (Or.inl ⟨by rfl, ?_⟩) (by assumption) ?_
  rotate_left
  focus ((intro w hSw; (try dsimp only at hSw); clear hSw; go_simp) <;> (with_reducible rfl))
  try simp only [Act.put, List.setIfInBounds_toArray, List.set_cons_zero, List.set_cons_succ]
  refine wpAnyH_take (i := 21) (oi := { dst := some 103, op := Go.Op.fieldAddr 54 (Go.Operand.tmp 102) 2, type := 0, pos := "ref.go:40", after := #[{ on := 20, ground := Go.Ground.data }], guard := none }) (v := ?_) rfl (by kernel_rfl) (by kernel_rfl) (by kernel_rfl) (fun _ _ _ h => HPN _ _ _ _ _ h) (Or.inl ⟨by rfl, ?_⟩) (by assumption) ?_
  rotate_left
  focus ((intro w hSw; (try dsimp only at hSw); clear hSw; go_simp) <;> (with_reducible rfl))
  try simp only [Act.put, List.setIfInBounds_toArray, List.set_cons_zero, List.set_cons_succ]
  refine wpAnyH_take (i := 22) (oi := { dst := some 104, op := Go.Op.load 3 (Go.Operand.tmp 103), type := 3, pos := "ref.go:40", after := #[{ on := 21, ground := Go.Ground.data }], guard := none }) (v := ?_) rfl (by kernel_rfl) (by kernel_rfl) (by kernel_rfl) (fun _ _ _ h => HPN _ _ _ _ _ h) (Or.inl ⟨by rfl, ?_⟩) (by assumption) ?_
  rotate_left
  focus ((intro w hSw; (try dsimp only at hSw); obtain ⟨x0, x1, x2⟩ := HX.out.below hSw HLT.out; clear hSw; go_simp) <;> (with_reducible rfl))
  try simp only [Act.put, List.setIfInBounds_toArray, List.set_cons_zero, List.set_cons_succ]
  refine wpAnyH_ready (rs := [7]) (by kernel_rfl) (by simp) ?_
  refine AllReadyH.cons (o := { dst := some 89, op := Go.Op.call { callee := Go.Callee.value (Go.Operand.func 15), args := #[Go.Operand.tmp 88], argTypes := #[3] }, type := 9, pos := "ref.go:40", after := #[{ on := 6, ground := Go.Ground.data }], guard := none }) rfl (fun K hK => ?_) AllReadyH.nil
  go_simp
  (go_at_call 15; (with_reducible refine (H0.out _).mono ?_); rintro e V0 ⟨rfl, hb⟩; go_wp2_with fail)
  have Brenc180 : Hid (Below W.heap.size W V0) := (show Below W.heap.size W W.drew from (Below.refl _ W).drew).trans (hb.mono (show Below W.heap.size W W.drew from (Below.refl _ W).drew).size)
  clear hb
  refine hK.out _ _ ?_ (fun hHeld => ?_)
  · exact Brenc180.out
  clear hK K
  try simp only [Act.put, List.setIfInBounds_toArray, List.set_cons_zero, List.set_cons_succ]
  refine wpAnyH_take (i := 8) (oi := { dst := some 90, op := Go.Op.binOp Go.BinOp.add 9 (Go.Operand.tmp 82) (Go.Operand.tmp 89) 9, type := 9, pos := "ref.go:40", after := #[{ on := 0, ground := Go.Ground.data }, { on := 7, ground := Go.Ground.data }], guard := none }) (v := ?_) rfl (by kernel_rfl) (by kernel_rfl) (by kernel_rfl) (fun _ _ _ h => HPN _ _ _ _ _ h) (Or.inl ⟨by rfl, ?_⟩) (by assumption) ?_
  rotate_left
  focus ((intro w hSw; (try dsimp only at hSw); clear hSw; go_simp) <;> (with_reducible rfl))
  try simp only [Act.put, List.setIfInBounds_toArray, List.set_cons_zero, List.set_cons_succ]
  refine wpAnyH_ready (rs := [15]) (by kernel_rfl) (by simp) ?_
  refine AllReadyH.cons (o := { dst := some 97, op := Go.Op.call { callee := Go.Callee.value (Go.Operand.func 16), args := #[Go.Operand.tmp 96], argTypes := #[3] }, type := 9, pos := "ref.go:40", after := #[{ on := 14, ground := Go.Ground.data }, { on := 7, ground := Go.Ground.chain }], guard := none }) rfl (fun K hK => ?_) AllReadyH.nil
  go_simp
  (go_at_call 16; (with_reducible refine (H1.out _).mono ?_); rintro e V1 ⟨rfl, hb⟩; go_wp2_with fail)
  have Brenc181 : Hid (Below W.heap.size W V1) := Brenc180.out.trans (hb.mono Brenc180.out.size)
  clear hb
  refine hK.out _ _ ?_ (fun hHeld => ?_)
  · exact Brenc181.out
  clear hK K
  try simp only [Act.put, List.setIfInBounds_toArray, List.set_cons_zero, List.set_cons_succ]
  refine wpAnyH_take (i := 16) (oi := { dst := some 98, op := Go.Op.binOp Go.BinOp.add 9 (Go.Operand.tmp 90) (Go.Operand.tmp 97) 9, type := 9, pos := "ref.go:40", after := #[{ on := 8, ground := Go.Ground.data }, { on := 15, ground := Go.Ground.data }], guard := none }) (v := ?_) rfl (by kernel_rfl) (by kernel_rfl) (by kernel_rfl) (fun _ _ _ h => HPN _ _ _ _ _ h) (Or.inl ⟨by rfl, ?_⟩) (by assumption) ?_
  rotate_left
  focus ((intro w hSw; (try dsimp only at hSw); clear hSw; go_simp) <;> (with_reducible rfl))
  try simp only [Act.put, List.setIfInBounds_toArray, List.set_cons_zero, List.set_cons_succ]
  refine wpAnyH_ready (rs := [23]) (by kernel_rfl) (by simp) ?_
  refine AllReadyH.cons (o := { dst := some 105, op := Go.Op.call { callee := Go.Callee.value (Go.Operand.func 16), args := #[Go.Operand.tmp 104], argTypes := #[3] }, type := 9, pos := "ref.go:40", after := #[{ on := 22, ground := Go.Ground.data }, { on := 15, ground := Go.Ground.chain }], guard := none }) rfl (fun K hK => ?_) AllReadyH.nil
  go_simp
  (go_at_call 16; (with_reducible refine (H2.out _).mono ?_); rintro e V2 ⟨rfl, hb⟩; go_wp2_with fail)
  have Brenc182 : Hid (Below W.heap.size W V2) := Brenc181.out.trans (hb.mono Brenc181.out.size)
  clear hb
  refine hK.out _ _ ?_ (fun hHeld => ?_)
  · exact Brenc182.out
  clear hK K
  try simp only [Act.put, List.setIfInBounds_toArray, List.set_cons_zero, List.set_cons_succ]
  refine wpAnyH_take (i := 24) (oi := { dst := some 106, op := Go.Op.binOp Go.BinOp.add 9 (Go.Operand.tmp 98) (Go.Operand.tmp 105) 9, type := 9, pos := "ref.go:40", after := #[{ on := 16, ground := Go.Ground.data }, { on := 23, ground := Go.Ground.data }], guard := none }) (v := ?_) rfl (by kernel_rfl) (by kernel_rfl) (by kernel_rfl) (fun _ _ _ h => HPN _ _ _ _ _ h) (Or.inl ⟨by rfl, ?_⟩) (by assumption) ?_
  rotate_left
  focus ((intro w hSw; (try dsimp only at hSw); clear hSw; go_simp) <;> (with_reducible rfl))
  try simp only [Act.put, List.setIfInBounds_toArray, List.set_cons_zero, List.set_cons_succ]
  refine wpAnyH_take (i := 25) (oi := { dst := some 8, op := Go.Op.assign (Go.Operand.tmp 106), type := 9, pos := "ref.go:40", after := #[{ on := 24, ground := Go.Ground.data }, { on := 23, ground := Go.Ground.chain }, { on := 0, ground := Go.Ground.phase }, { on := 1, ground := Go.Ground.phase }, { on := 2, ground := Go.Ground.phase }, { on := 3, ground := Go.Ground.phase }, { on := 4, ground := Go.Ground.phase }, { on := 5, ground := Go.Ground.phase }, { on := 6, ground := Go.Ground.phase }, { on := 7, ground := Go.Ground.phase }, { on := 8, ground := Go.Ground.phase }, { on := 9, ground := Go.Ground.phase }, { on := 10, ground := Go.Ground.phase }, { on := 11, ground := Go.Ground.phase }, { on := 12, ground := Go.Ground.phase }, { on := 13, ground := Go.Ground.phase }, { on := 14, ground := Go.Ground.phase }, { on := 15, ground := Go.Ground.phase }, { on := 16, ground := Go.Ground.phase }, { on := 17, ground := Go.Ground.phase }, { on := 18, ground := Go.Ground.phase }, { on := 19, ground := Go.Ground.phase }, { on := 20, ground := Go.Ground.phase }, { on := 21, ground := Go.Ground.phase }, { on := 22, ground := Go.Ground.phase }, { on := 23, ground := Go.Ground.phase }, { on := 24, ground := Go.Ground.phase }], guard := none }) (v := ?_) rfl (by kernel_rfl) (by kernel_rfl) (by kernel_rfl) (fun _ _ _ h => HPN _ _ _ _ _ h) (Or.inl ⟨by rfl, ?_⟩) (by assumption) ?_
  rotate_left
  focus ((intro w hSw; (try dsimp only at hSw); clear hSw; go_simp) <;> (with_reducible rfl))
  try simp only [Act.put, List.setIfInBounds_toArray, List.set_cons_zero, List.set_cons_succ]
  refine wpAnyH_done (by kernel_rfl) ?_ _
  clear hHeld
  exact hQ _ Brenc182.out _ _ _ _ _ _ _ _ _ _ _ _ _ _ _ _ _ _ _ _ _ _ _ _ _
set_option maxHeartbeats 4000000 in
theorem renc24 {W : World} {vb : Nat} {vid vhost vbag vsmax vsubs vskew : Int} {vhigh : Bool} {tA : Option Addr} {tl tc : Nat} {S B1 B2 B3 B4 B5 B6 : ByteArray} {g y : Int} (zS : S.size ≤ 100000000) (zB1 : B1.size ≤ 8) (zB2 : B2.size ≤ 8) (zB3 : B3.size ≤ 8) (zB4 : B4.size ≤ 8) (zB5 : B5.size ≤ 8) (zB6 : B6.size ≤ 8) (hb : 0 ≤ vbag ∧ vbag ≤ 15) (hg : 0 ≤ g ∧ g ≤ 8) (hs : 0 ≤ vsubs ∧ vsubs ≤ 7) (hy : 16 * vbag + g + vsubs = y) (HV : Hid (W.heap[vb]? = some (.cells #[.int .i64 vid, .int .i64 vhost, .int .i64 vbag, .int .i64 vsmax, .bool vhigh, .int .i64 vsubs, .int .i64 vskew, .slice tA tl tc] 34))) (H0 : Hid (∀ w, Calls Try.prog 15 #[.int .i64 vid] w fun e w' => e = .returned (.string B1) ∧ Below w.heap.size w w')) (H1 : Hid (∀ w, Calls Try.prog 15 #[.int .i64 vhost] w fun e w' => e = .returned (.string B2) ∧ Below w.heap.size w w')) (H2 : Hid (∀ w, Calls Try.prog 18 #[.bool vhigh, .int .i64 8] w fun e w' => e = .returned (.int .i64 g) ∧ Below w.heap.size w w')) (H3 : Hid (∀ w, Calls Try.prog 17 #[.int .i64 y, .int .i64 1] w fun e w' => e = .returned (.string B3) ∧ Below w.heap.size w w')) (H4 : Hid (∀ w, Calls Try.prog 15 #[.int .i64 vsmax] w fun e w' => e = .returned (.string B4) ∧ Below w.heap.size w w')) (H5 : Hid (∀ w, Calls Try.prog 16 #[.int .i64 vskew] w fun e w' => e = .returned (.string B5) ∧ Below w.heap.size w w')) (H6 : Hid (∀ w, Calls Try.prog 15 #[.int .i64 (tl : Int)] w fun e w' => e = .returned (.string B6) ∧ Below w.heap.size w w')) {u0 u1 u2 u3 u4 u5 u6 u7 u9 u10 u11 u13 u14 u15 u16 u17 u18 u19 u20 u21 u22 u23 u24 u25 u26 u27 u28 u29 u30 u31 u32 u33 u34 u35 u36 u37 u38 u39 u40 u41 u42 u43 u44 u45 u46 u47 u48 u49 u50 u51 u52 u53 u54 u55 u56 u57 u58 u59 u60 u61 u62 u63 u64 u65 u66 u67 u68 u69 u70 u71 u72 u73 u74 u75 u76 u77 u78 u79 u80 u81 u82 u83 u84 u85 u86 u87 u88 u89 u90 u91 u92 u93 u94 u95 u96 u97 u98 u99 u100 u101 u102 u103 u104 u105 u106 u107 u108 u109 u110 u111 u112 u113 u114 u115 u116 u117 u118 u119 u120 u121 u122 u123 u124 u125 u126 u127 u128 u129 u130 u131 u132 u133 u134 u135 u136 u137 u138 u139 u140 u141 u142 u143 u144 u145 u146 u147 u148 u149 u150 u151 u152 u153 u154 u155 u156 u157 u158 u159 u160 u161 u162 u163 u164 u165 u166 u167 u168 u169 u170 u171 u172 u173 u174 u175 u176 u177 u178 u179 u180 u181 u182 u183 u184 u185 u186 u187 u188 u189 u190 u191 u192 u193 u194 u195 u196 u197 u198 u199 u200 u201 u202 u203 u204 u205 u206 u207 u208 u209 u210 u211 u212 u213 u214 u215 u216 u217 u218 u219 u220 u221 u222 u223 u224 u225 u226 u227 u228 u229 u230 u231 u232 u233 u234 u235 u236 u237 u238 : Value} {Q : Exit → Act → World → Prop} (HPN : ∀ (p : List PanicEntry) (a : Act) (dd : Nat) (vv : Value) (w : World), Q (.panic p) (a.put (some dd) vv) w → Q (.panic p) a w) (hQ : ∀ (wc : World), Below W.heap.size W wc → ∀ x125 x126 x127 x128 x129 x130 x131 x132 x133 x134 x135 x136 x137 x138 x139 x140 x141 x142 x143 x144 x145 x146 x147 x148 x149 x150 x151 x152 x153 x154 x155 x156 x157 x158 : Value, Q .normal ⟨#[u0, u1, u2, u3, u4, u5, u6, u7, (.string (S ++ B1 ++ B2 ++ B3 ++ B4 ++ B5 ++ B6)), u9, u10, u11, (.pointer (some ⟨vb, 0, none⟩)), u13, u14, u15, u16, u17, u18, u19, u20, u21, u22, u23, u24, u25, u26, u27, u28, u29, u30, u31, u32, u33, u34, u35, u36, u37, u38, u39, u40, u41, u42, u43, u44, u45, u46, u47, u48, u49, u50, u51, u52, u53, u54, u55, u56, u57, u58, u59, u60, u61, u62, u63, u64, u65, u66, u67, u68, u69, u70, u71, u72, u73, u74, u75, u76, u77, u78, u79, u80, u81, u82, u83, u84, u85, u86, u87, u88, u89, u90, u91, u92, u93, u94, u95, u96, u97, u98, u99, u100, u101, u102, u103, u104, u105, u106, u107, u108, u109, u110, u111, u112, u113, u114, u115, u116, u117, u118, u119, u120, u121, u122, u123, u124, x125, x126, x127, x128, x129, x130, x131, x132, x133, x134, x135, x136, x137, x138, x139, x140, x141, x142, x143, x144, x145, x146, x147, x148, x149, x150, x151, x152, x153, x154, x155, x156, x157, x158, u159, u160, u161, u162, u163, u164, u165, u166, u167, u168, u169, u170, u171, u172, u173, u174, u175, u176, u177, u178, u179, u180, u181, u182, u183, u184, u185, u186, u187, u188, u189, u190, u191, u192, u193, u194, u195, u196, u197, u198, u199, u200, u201, u202, u203, u204, u205, u206, u207, u208, u209, u210, u211, u212, u213, u214, u215, u216, u217, u218, u219, u220, u221, u222, u223, u224, u225, u226, u227, u228, u229, u230, u231, u232, u233, u234, u235, u236, u237, u238], []⟩ wc) :
    Code.wp Try.prog (Code.region 24 #[{ dst := some 125, op := Go.Op.move (Go.Operand.tmp 8), type := 9, pos := "ref.go:45", after := #[], guard := none }, { dst := some 126, op := Go.Op.fieldAddr 34 (Go.Operand.tmp 12) 0, type := 0, pos := "ref.go:45", after := #[], guard := none }, { dst := some 127, op := Go.Op.load 3 (Go.Operand.tmp 126), type := 3, pos := "ref.go:45", after := #[{ on := 1, ground := Go.Ground.data }], guard := none }, { dst := some 128, op := Go.Op.call { callee := Go.Callee.value (Go.Operand.func 15), args := #[Go.Operand.tmp 127], argTypes := #[3] }, type := 9, pos := "ref.go:45", after := #[{ on := 2, ground := Go.Ground.data }], guard := none }, { dst := some 129, op := Go.Op.binOp Go.BinOp.add 9 (Go.Operand.tmp 125) (Go.Operand.tmp 128) 9, type := 9, pos := "ref.go:45", after := #[{ on := 0, ground := Go.Ground.data }, { on := 3, ground := Go.Ground.data }], guard := none }, { dst := some 130, op := Go.Op.fieldAddr 34 (Go.Operand.tmp 12) 1, type := 0, pos := "ref.go:45", after := #[], guard := none }, { dst := some 131, op := Go.Op.load 3 (Go.Operand.tmp 130), type := 3, pos := "ref.go:45", after := #[{ on := 5, ground := Go.Ground.data }], guard := none }, { dst := some 132, op := Go.Op.call { callee := Go.Callee.value (Go.Operand.func 15), args := #[Go.Operand.tmp 131], argTypes := #[3] }, type := 9, pos := "ref.go:45", after := #[{ on := 6, ground := Go.Ground.data }, { on := 3, ground := Go.Ground.chain }], guard := none }, { dst := some 133, op := Go.Op.binOp Go.BinOp.add 9 (Go.Operand.tmp 129) (Go.Operand.tmp 132) 9, type := 9, pos := "ref.go:45", after := #[{ on := 4, ground := Go.Ground.data }, { on := 7, ground := Go.Ground.data }], guard := none }, { dst := some 134, op := Go.Op.fieldAddr 34 (Go.Operand.tmp 12) 2, type := 0, pos := "ref.go:45", after := #[], guard := none }, { dst := some 135, op := Go.Op.load 3 (Go.Operand.tmp 134), type := 3, pos := "ref.go:45", after := #[{ on := 9, ground := Go.Ground.data }], guard := none }, { dst := some 136, op := Go.Op.binOp Go.BinOp.mul 3 (Go.Operand.const (Go.Value.int Go.IntKind.i64 16)) (Go.Operand.tmp 135) 3, type := 3, pos := "ref.go:45", after := #[{ on := 10, ground := Go.Ground.data }], guard := none }, { dst := some 137, op := Go.Op.fieldAddr 34 (Go.Operand.tmp 12) 4, type := 0, pos := "ref.go:45", after := #[], guard := none }, { dst := some 138, op := Go.Op.load 4 (Go.Operand.tmp 137), type := 4, pos := "ref.go:45", after := #[{ on := 12, ground := Go.Ground.data }], guard := none }, { dst := some 139, op := Go.Op.call { callee := Go.Callee.value (Go.Operand.func 18), args := #[Go.Operand.tmp 138, Go.Operand.const (Go.Value.int Go.IntKind.i64 8)], argTypes := #[4, 3] }, type := 3, pos := "ref.go:45", after := #[{ on := 13, ground := Go.Ground.data }, { on := 7, ground := Go.Ground.chain }], guard := none }, { dst := some 140, op := Go.Op.binOp Go.BinOp.add 3 (Go.Operand.tmp 136) (Go.Operand.tmp 139) 3, type := 3, pos := "ref.go:45", after := #[{ on := 11, ground := Go.Ground.data }, { on := 14, ground := Go.Ground.data }], guard := none }, { dst := some 141, op := Go.Op.fieldAddr 34 (Go.Operand.tmp 12) 5, type := 0, pos := "ref.go:45", after := #[], guard := none }, { dst := some 142, op := Go.Op.load 3 (Go.Operand.tmp 141), type := 3, pos := "ref.go:45", after := #[{ on := 16, ground := Go.Ground.data }], guard := none }, { dst := some 143, op := Go.Op.binOp Go.BinOp.add 3 (Go.Operand.tmp 140) (Go.Operand.tmp 142) 3, type := 3, pos := "ref.go:45", after := #[{ on := 15, ground := Go.Ground.data }, { on := 17, ground := Go.Ground.data }], guard := none }, { dst := some 144, op := Go.Op.call { callee := Go.Callee.value (Go.Operand.func 17), args := #[Go.Operand.tmp 143, Go.Operand.const (Go.Value.int Go.IntKind.i64 1)], argTypes := #[3, 3] }, type := 9, pos := "ref.go:45", after := #[{ on := 18, ground := Go.Ground.data }, { on := 14, ground := Go.Ground.chain }], guard := none }, { dst := some 145, op := Go.Op.binOp Go.BinOp.add 9 (Go.Operand.tmp 133) (Go.Operand.tmp 144) 9, type := 9, pos := "ref.go:45", after := #[{ on := 8, ground := Go.Ground.data }, { on := 19, ground := Go.Ground.data }], guard := none }, { dst := some 146, op := Go.Op.fieldAddr 34 (Go.Operand.tmp 12) 3, type := 0, pos := "ref.go:45", after := #[], guard := none }, { dst := some 147, op := Go.Op.load 3 (Go.Operand.tmp 146), type := 3, pos := "ref.go:45", after := #[{ on := 21, ground := Go.Ground.data }], guard := none }, { dst := some 148, op := Go.Op.call { callee := Go.Callee.value (Go.Operand.func 15), args := #[Go.Operand.tmp 147], argTypes := #[3] }, type := 9, pos := "ref.go:45", after := #[{ on := 22, ground := Go.Ground.data }, { on := 19, ground := Go.Ground.chain }], guard := none }, { dst := some 149, op := Go.Op.binOp Go.BinOp.add 9 (Go.Operand.tmp 145) (Go.Operand.tmp 148) 9, type := 9, pos := "ref.go:45", after := #[{ on := 20, ground := Go.Ground.data }, { on := 23, ground := Go.Ground.data }], guard := none }, { dst := some 150, op := Go.Op.fieldAddr 34 (Go.Operand.tmp 12) 6, type := 0, pos := "ref.go:45", after := #[], guard := none }, { dst := some 151, op := Go.Op.load 3 (Go.Operand.tmp 150), type := 3, pos := "ref.go:45", after := #[{ on := 25, ground := Go.Ground.data }], guard := none }, { dst := some 152, op := Go.Op.call { callee := Go.Callee.value (Go.Operand.func 16), args := #[Go.Operand.tmp 151], argTypes := #[3] }, type := 9, pos := "ref.go:45", after := #[{ on := 26, ground := Go.Ground.data }, { on := 23, ground := Go.Ground.chain }], guard := none }, { dst := some 153, op := Go.Op.binOp Go.BinOp.add 9 (Go.Operand.tmp 149) (Go.Operand.tmp 152) 9, type := 9, pos := "ref.go:45", after := #[{ on := 24, ground := Go.Ground.data }, { on := 27, ground := Go.Ground.data }], guard := none }, { dst := some 154, op := Go.Op.fieldAddr 34 (Go.Operand.tmp 12) 7, type := 0, pos := "ref.go:45", after := #[], guard := none }, { dst := some 155, op := Go.Op.load 22 (Go.Operand.tmp 154), type := 22, pos := "ref.go:45", after := #[{ on := 29, ground := Go.Ground.data }], guard := none }, { dst := some 156, op := Go.Op.call { callee := Go.Callee.builtin Go.Builtin.len, args := #[Go.Operand.tmp 155], argTypes := #[22] }, type := 3, pos := "ref.go:45", after := #[{ on := 30, ground := Go.Ground.data }], guard := none }, { dst := some 157, op := Go.Op.call { callee := Go.Callee.value (Go.Operand.func 15), args := #[Go.Operand.tmp 156], argTypes := #[3] }, type := 9, pos := "ref.go:45", after := #[{ on := 31, ground := Go.Ground.data }, { on := 27, ground := Go.Ground.chain }], guard := none }, { dst := some 158, op := Go.Op.binOp Go.BinOp.add 9 (Go.Operand.tmp 153) (Go.Operand.tmp 157) 9, type := 9, pos := "ref.go:45", after := #[{ on := 28, ground := Go.Ground.data }, { on := 32, ground := Go.Ground.data }], guard := none }, { dst := some 8, op := Go.Op.assign (Go.Operand.tmp 158), type := 9, pos := "ref.go:45", after := #[{ on := 33, ground := Go.Ground.data }, { on := 32, ground := Go.Ground.chain }, { on := 0, ground := Go.Ground.phase }, { on := 1, ground := Go.Ground.phase }, { on := 2, ground := Go.Ground.phase }, { on := 3, ground := Go.Ground.phase }, { on := 4, ground := Go.Ground.phase }, { on := 5, ground := Go.Ground.phase }, { on := 6, ground := Go.Ground.phase }, { on := 7, ground := Go.Ground.phase }, { on := 8, ground := Go.Ground.phase }, { on := 9, ground := Go.Ground.phase }, { on := 10, ground := Go.Ground.phase }, { on := 11, ground := Go.Ground.phase }, { on := 12, ground := Go.Ground.phase }, { on := 13, ground := Go.Ground.phase }, { on := 14, ground := Go.Ground.phase }, { on := 15, ground := Go.Ground.phase }, { on := 16, ground := Go.Ground.phase }, { on := 17, ground := Go.Ground.phase }, { on := 18, ground := Go.Ground.phase }, { on := 19, ground := Go.Ground.phase }, { on := 20, ground := Go.Ground.phase }, { on := 21, ground := Go.Ground.phase }, { on := 22, ground := Go.Ground.phase }, { on := 23, ground := Go.Ground.phase }, { on := 24, ground := Go.Ground.phase }, { on := 25, ground := Go.Ground.phase }, { on := 26, ground := Go.Ground.phase }, { on := 27, ground := Go.Ground.phase }, { on := 28, ground := Go.Ground.phase }, { on := 29, ground := Go.Ground.phase }, { on := 30, ground := Go.Ground.phase }, { on := 31, ground := Go.Ground.phase }, { on := 32, ground := Go.Ground.phase }, { on := 33, ground := Go.Ground.phase }], guard := none }] true) Q ⟨#[u0, u1, u2, u3, u4, u5, u6, u7, (.string S), u9, u10, u11, (.pointer (some ⟨vb, 0, none⟩)), u13, u14, u15, u16, u17, u18, u19, u20, u21, u22, u23, u24, u25, u26, u27, u28, u29, u30, u31, u32, u33, u34, u35, u36, u37, u38, u39, u40, u41, u42, u43, u44, u45, u46, u47, u48, u49, u50, u51, u52, u53, u54, u55, u56, u57, u58, u59, u60, u61, u62, u63, u64, u65, u66, u67, u68, u69, u70, u71, u72, u73, u74, u75, u76, u77, u78, u79, u80, u81, u82, u83, u84, u85, u86, u87, u88, u89, u90, u91, u92, u93, u94, u95, u96, u97, u98, u99, u100, u101, u102, u103, u104, u105, u106, u107, u108, u109, u110, u111, u112, u113, u114, u115, u116, u117, u118, u119, u120, u121, u122, u123, u124, u125, u126, u127, u128, u129, u130, u131, u132, u133, u134, u135, u136, u137, u138, u139, u140, u141, u142, u143, u144, u145, u146, u147, u148, u149, u150, u151, u152, u153, u154, u155, u156, u157, u158, u159, u160, u161, u162, u163, u164, u165, u166, u167, u168, u169, u170, u171, u172, u173, u174, u175, u176, u177, u178, u179, u180, u181, u182, u183, u184, u185, u186, u187, u188, u189, u190, u191, u192, u193, u194, u195, u196, u197, u198, u199, u200, u201, u202, u203, u204, u205, u206, u207, u208, u209, u210, u211, u212, u213, u214, u215, u216, u217, u218, u219, u220, u221, u222, u223, u224, u225, u226, u227, u228, u229, u230, u231, u232, u233, u234, u235, u236, u237, u238], []⟩ W := by
  have gB1 : ¬ 9223372036854775807 < S.size + B1.size := by omega
  have gB2 : ¬ 9223372036854775807 < S.size + B1.size + B2.size := by omega
  have gB3 : ¬ 9223372036854775807 < S.size + B1.size + B2.size + B3.size := by omega
  have gB4 : ¬ 9223372036854775807 < S.size + B1.size + B2.size + B3.size + B4.size := by omega
  have gB5 : ¬ 9223372036854775807 < S.size + B1.size + B2.size + B3.size + B4.size + B5.size := by omega
  have gB6 : ¬ 9223372036854775807 < S.size + B1.size + B2.size + B3.size + B4.size + B5.size + B6.size := by omega
  have w1 : IntKind.i64.wrap (16 * vbag) = 16 * vbag := IntWalk.i64_in _ (by omega)
  have w2 : IntKind.i64.wrap (16 * vbag + g) = 16 * vbag + g := IntWalk.i64_in _ (by omega)
  have w3 : IntKind.i64.wrap (16 * vbag + g + vsubs) = y := by rw [hy]; exact IntWalk.i64_in _ (by omega)
  have w4 : IntKind.i64.wrap y = y := IntWalk.i64_in _ (by omega)
  refine wp_region_held_drew (S := fun w' => Below W.heap.size W w') (by kernel_rfl) ?_ (fun hHeld => ?_)
  · exact (Below.refl _ W).drew
  refine wpAnyH_take (i := 0) (oi := { dst := some 125, op := Go.Op.move (Go.Operand.tmp 8), type := 9, pos := "ref.go:45", after := #[], guard := none }) (v := ?_) rfl (by kernel_rfl) (by kernel_rfl) (by kernel_rfl) (fun _ _ _ h => HPN _ _ _ _ _ h) (Or.inl ⟨by rfl, ?_⟩) (by assumption) ?_
  rotate_left
  focus ((intro w hSw; (try dsimp only at hSw); clear hSw; go_simp) <;> (with_reducible rfl))
  try simp only [Act.put, List.setIfInBounds_toArray, List.set_cons_zero, List.set_cons_succ]
  refine wpAnyH_take (i := 1) (oi := { dst := some 126, op := Go.Op.fieldAddr 34 (Go.Operand.tmp 12) 0, type := 0, pos := "ref.go:45", after := #[], guard := none }) (v := ?_) rfl (by kernel_rfl) (by kernel_rfl) (by kernel_rfl) (fun _ _ _ h => HPN _ _ _ _ _ h) (Or.inl ⟨by rfl, ?_⟩) (by assumption) ?_
  rotate_left
  focus ((intro w hSw; (try dsimp only at hSw); clear hSw; go_simp) <;> (with_reducible rfl))
  try simp only [Act.put, List.setIfInBounds_toArray, List.set_cons_zero, List.set_cons_succ]
  refine wpAnyH_take (i := 2) (oi := { dst := some 127, op := Go.Op.load 3 (Go.Operand.tmp 126), type := 3, pos := "ref.go:45", after := #[{ on := 1, ground := Go.Ground.data }], guard := none }) (v := ?_) rfl (by kernel_rfl) (by kernel_rfl) (by kernel_rfl) (fun _ _ _ h => HPN _ _ _ _ _ h) (Or.inl ⟨by rfl, ?_⟩) (by assumption) ?_
  rotate_left
  focus ((intro w hSw; (try dsimp only at hSw); obtain ⟨x0, x1, x2, x3, x4, x5, x6, x7⟩ := cells_8 (lies_below HV.out hSw (lies_lt HV.out)); clear hSw; go_simp) <;> (with_reducible rfl))
  try simp only [Act.put, List.setIfInBounds_toArray, List.set_cons_zero, List.set_cons_succ]
  refine wpAnyH_take (i := 5) (oi := { dst := some 130, op := Go.Op.fieldAddr 34 (Go.Operand.tmp 12) 1, type := 0, pos := "ref.go:45", after := #[], guard := none }) (v := ?_) rfl (by kernel_rfl) (by kernel_rfl) (by kernel_rfl) (fun _ _ _ h => HPN _ _ _ _ _ h) (Or.inl ⟨by rfl, ?_⟩) (by assumption) ?_
  rotate_left
  focus ((intro w hSw; (try dsimp only at hSw); clear hSw; go_simp) <;> (with_reducible rfl))
  try simp only [Act.put, List.setIfInBounds_toArray, List.set_cons_zero, List.set_cons_succ]
  refine wpAnyH_take (i := 6) (oi := { dst := some 131, op := Go.Op.load 3 (Go.Operand.tmp 130), type := 3, pos := "ref.go:45", after := #[{ on := 5, ground := Go.Ground.data }], guard := none }) (v := ?_) rfl (by kernel_rfl) (by kernel_rfl) (by kernel_rfl) (fun _ _ _ h => HPN _ _ _ _ _ h) (Or.inl ⟨by rfl, ?_⟩) (by assumption) ?_
  rotate_left
  focus ((intro w hSw; (try dsimp only at hSw); obtain ⟨x0, x1, x2, x3, x4, x5, x6, x7⟩ := cells_8 (lies_below HV.out hSw (lies_lt HV.out)); clear hSw; go_simp) <;> (with_reducible rfl))
  try simp only [Act.put, List.setIfInBounds_toArray, List.set_cons_zero, List.set_cons_succ]
  refine wpAnyH_take (i := 9) (oi := { dst := some 134, op := Go.Op.fieldAddr 34 (Go.Operand.tmp 12) 2, type := 0, pos := "ref.go:45", after := #[], guard := none }) (v := ?_) rfl (by kernel_rfl) (by kernel_rfl) (by kernel_rfl) (fun _ _ _ h => HPN _ _ _ _ _ h) (Or.inl ⟨by rfl, ?_⟩) (by assumption) ?_
  rotate_left
  focus ((intro w hSw; (try dsimp only at hSw); clear hSw; go_simp) <;> (with_reducible rfl))
  try simp only [Act.put, List.setIfInBounds_toArray, List.set_cons_zero, List.set_cons_succ]
  refine wpAnyH_take (i := 10) (oi := { dst := some 135, op := Go.Op.load 3 (Go.Operand.tmp 134), type := 3, pos := "ref.go:45", after := #[{ on := 9, ground := Go.Ground.data }], guard := none }) (v := ?_) rfl (by kernel_rfl) (by kernel_rfl) (by kernel_rfl) (fun _ _ _ h => HPN _ _ _ _ _ h) (Or.inl ⟨by rfl, ?_⟩) (by assumption) ?_
  rotate_left
  focus ((intro w hSw; (try dsimp only at hSw); obtain ⟨x0, x1, x2, x3, x4, x5, x6, x7⟩ := cells_8 (lies_below HV.out hSw (lies_lt HV.out)); clear hSw; go_simp) <;> (with_reducible rfl))
  try simp only [Act.put, List.setIfInBounds_toArray, List.set_cons_zero, List.set_cons_succ]
  refine wpAnyH_take (i := 11) (oi := { dst := some 136, op := Go.Op.binOp Go.BinOp.mul 3 (Go.Operand.const (Go.Value.int Go.IntKind.i64 16)) (Go.Operand.tmp 135) 3, type := 3, pos := "ref.go:45", after := #[{ on := 10, ground := Go.Ground.data }], guard := none }) (v := ?_) rfl (by kernel_rfl) (by kernel_rfl) (by kernel_rfl) (fun _ _ _ h => HPN _ _ _ _ _ h) (Or.inl ⟨by rfl, ?_⟩) (by assumption) ?_
  rotate_left
  focus ((intro w hSw; (try dsimp only at hSw); clear hSw; go_simp) <;> (with_reducible rfl))
  try simp only [Act.put, List.setIfInBounds_toArray, List.set_cons_zero, List.set_cons_succ]
  refine wpAnyH_take (i := 12) (oi := { dst := some 137, op := Go.Op.fieldAddr 34 (Go.Operand.tmp 12) 4, type := 0, pos := "ref.go:45", after := #[], guard := none }) (v := ?_) rfl (by kernel_rfl) (by kernel_rfl) (by kernel_rfl) (fun _ _ _ h => HPN _ _ _ _ _ h) (Or.inl ⟨by rfl, ?_⟩) (by assumption) ?_
  rotate_left
  focus ((intro w hSw; (try dsimp only at hSw); clear hSw; go_simp) <;> (with_reducible rfl))
  try simp only [Act.put, List.setIfInBounds_toArray, List.set_cons_zero, List.set_cons_succ]
  refine wpAnyH_take (i := 13) (oi := { dst := some 138, op := Go.Op.load 4 (Go.Operand.tmp 137), type := 4, pos := "ref.go:45", after := #[{ on := 12, ground := Go.Ground.data }], guard := none }) (v := ?_) rfl (by kernel_rfl) (by kernel_rfl) (by kernel_rfl) (fun _ _ _ h => HPN _ _ _ _ _ h) (Or.inl ⟨by rfl, ?_⟩) (by assumption) ?_
  rotate_left
  focus ((intro w hSw; (try dsimp only at hSw); obtain ⟨x0, x1, x2, x3, x4, x5, x6, x7⟩ := cells_8 (lies_below HV.out hSw (lies_lt HV.out)); clear hSw; go_simp) <;> (with_reducible rfl))
  try simp only [Act.put, List.setIfInBounds_toArray, List.set_cons_zero, List.set_cons_succ]
  refine wpAnyH_take (i := 16) (oi := { dst := some 141, op := Go.Op.fieldAddr 34 (Go.Operand.tmp 12) 5, type := 0, pos := "ref.go:45", after := #[], guard := none }) (v := ?_) rfl (by kernel_rfl) (by kernel_rfl) (by kernel_rfl) (fun _ _ _ h => HPN _ _ _ _ _ h) (Or.inl ⟨by rfl, ?_⟩) (by assumption) ?_
  rotate_left
  focus ((intro w hSw; (try dsimp only at hSw); clear hSw; go_simp) <;> (with_reducible rfl))
  try simp only [Act.put, List.setIfInBounds_toArray, List.set_cons_zero, List.set_cons_succ]
  refine wpAnyH_take (i := 17) (oi := { dst := some 142, op := Go.Op.load 3 (Go.Operand.tmp 141), type := 3, pos := "ref.go:45", after := #[{ on := 16, ground := Go.Ground.data }], guard := none }) (v := ?_) rfl (by kernel_rfl) (by kernel_rfl) (by kernel_rfl) (fun _ _ _ h => HPN _ _ _ _ _ h) (Or.inl ⟨by rfl, ?_⟩) (by assumption) ?_
  rotate_left
  focus ((intro w hSw; (try dsimp only at hSw); obtain ⟨x0, x1, x2, x3, x4, x5, x6, x7⟩ := cells_8 (lies_below HV.out hSw (lies_lt HV.out)); clear hSw; go_simp) <;> (with_reducible rfl))
  try simp only [Act.put, List.setIfInBounds_toArray, List.set_cons_zero, List.set_cons_succ]
  refine wpAnyH_take (i := 21) (oi := { dst := some 146, op := Go.Op.fieldAddr 34 (Go.Operand.tmp 12) 3, type := 0, pos := "ref.go:45", after := #[], guard := none }) (v := ?_) rfl (by kernel_rfl) (by kernel_rfl) (by kernel_rfl) (fun _ _ _ h => HPN _ _ _ _ _ h) (Or.inl ⟨by rfl, ?_⟩) (by assumption) ?_
  rotate_left
  focus ((intro w hSw; (try dsimp only at hSw); clear hSw; go_simp) <;> (with_reducible rfl))
  try simp only [Act.put, List.setIfInBounds_toArray, List.set_cons_zero, List.set_cons_succ]
  refine wpAnyH_take (i := 22) (oi := { dst := some 147, op := Go.Op.load 3 (Go.Operand.tmp 146), type := 3, pos := "ref.go:45", after := #[{ on := 21, ground := Go.Ground.data }], guard := none }) (v := ?_) rfl (by kernel_rfl) (by kernel_rfl) (by kernel_rfl) (fun _ _ _ h => HPN _ _ _ _ _ h) (Or.inl ⟨by rfl, ?_⟩) (by assumption) ?_
  rotate_left
  focus ((intro w hSw; (try dsimp only at hSw); obtain ⟨x0, x1, x2, x3, x4, x5, x6, x7⟩ := cells_8 (lies_below HV.out hSw (lies_lt HV.out)); clear hSw; go_simp) <;> (with_reducible rfl))
  try simp only [Act.put, List.setIfInBounds_toArray, List.set_cons_zero, List.set_cons_succ]
  refine wpAnyH_take (i := 25) (oi := { dst := some 150, op := Go.Op.fieldAddr 34 (Go.Operand.tmp 12) 6, type := 0, pos := "ref.go:45", after := #[], guard := none }) (v := ?_) rfl (by kernel_rfl) (by kernel_rfl) (by kernel_rfl) (fun _ _ _ h => HPN _ _ _ _ _ h) (Or.inl ⟨by rfl, ?_⟩) (by assumption) ?_
  rotate_left
  focus ((intro w hSw; (try dsimp only at hSw); clear hSw; go_simp) <;> (with_reducible rfl))
  try simp only [Act.put, List.setIfInBounds_toArray, List.set_cons_zero, List.set_cons_succ]
  refine wpAnyH_take (i := 26) (oi := { dst := some 151, op := Go.Op.load 3 (Go.Operand.tmp 150), type := 3, pos := "ref.go:45", after := #[{ on := 25, ground := Go.Ground.data }], guard := none }) (v := ?_) rfl (by kernel_rfl) (by kernel_rfl) (by kernel_rfl) (fun _ _ _ h => HPN _ _ _ _ _ h) (Or.inl ⟨by rfl, ?_⟩) (by assumption) ?_
  rotate_left
  focus ((intro w hSw; (try dsimp only at hSw); obtain ⟨x0, x1, x2, x3, x4, x5, x6, x7⟩ := cells_8 (lies_below HV.out hSw (lies_lt HV.out)); clear hSw; go_simp) <;> (with_reducible rfl))
  try simp only [Act.put, List.setIfInBounds_toArray, List.set_cons_zero, List.set_cons_succ]
  refine wpAnyH_take (i := 29) (oi := { dst := some 154, op := Go.Op.fieldAddr 34 (Go.Operand.tmp 12) 7, type := 0, pos := "ref.go:45", after := #[], guard := none }) (v := ?_) rfl (by kernel_rfl) (by kernel_rfl) (by kernel_rfl) (fun _ _ _ h => HPN _ _ _ _ _ h) (Or.inl ⟨by rfl, ?_⟩) (by assumption) ?_
  rotate_left
  focus ((intro w hSw; (try dsimp only at hSw); clear hSw; go_simp) <;> (with_reducible rfl))
  try simp only [Act.put, List.setIfInBounds_toArray, List.set_cons_zero, List.set_cons_succ]
  refine wpAnyH_take (i := 30) (oi := { dst := some 155, op := Go.Op.load 22 (Go.Operand.tmp 154), type := 22, pos := "ref.go:45", after := #[{ on := 29, ground := Go.Ground.data }], guard := none }) (v := ?_) rfl (by kernel_rfl) (by kernel_rfl) (by kernel_rfl) (fun _ _ _ h => HPN _ _ _ _ _ h) (Or.inl ⟨by rfl, ?_⟩) (by assumption) ?_
  rotate_left
  focus ((intro w hSw; (try dsimp only at hSw); obtain ⟨x0, x1, x2, x3, x4, x5, x6, x7⟩ := cells_8 (lies_below HV.out hSw (lies_lt HV.out)); clear hSw; go_simp) <;> (with_reducible rfl))
  try simp only [Act.put, List.setIfInBounds_toArray, List.set_cons_zero, List.set_cons_succ]
  refine wpAnyH_take (i := 31) (oi := { dst := some 156, op := Go.Op.call { callee := Go.Callee.builtin Go.Builtin.len, args := #[Go.Operand.tmp 155], argTypes := #[22] }, type := 3, pos := "ref.go:45", after := #[{ on := 30, ground := Go.Ground.data }], guard := none }) (v := ?_) rfl (by kernel_rfl) (by kernel_rfl) (by kernel_rfl) (fun _ _ _ h => HPN _ _ _ _ _ h) (Or.inl ⟨by rfl, ?_⟩) (by assumption) ?_
  rotate_left
  focus ((intro w hSw; (try dsimp only at hSw); clear hSw; go_simp) <;> (with_reducible rfl))
  try simp only [Act.put, List.setIfInBounds_toArray, List.set_cons_zero, List.set_cons_succ]
  refine wpAnyH_ready (rs := [3]) (by kernel_rfl) (by simp) ?_
  refine AllReadyH.cons (o := { dst := some 128, op := Go.Op.call { callee := Go.Callee.value (Go.Operand.func 15), args := #[Go.Operand.tmp 127], argTypes := #[3] }, type := 9, pos := "ref.go:45", after := #[{ on := 2, ground := Go.Ground.data }], guard := none }) rfl (fun K hK => ?_) AllReadyH.nil
  go_simp
  (go_at_call 15; (with_reducible refine (H0.out _).mono ?_); rintro e V0 ⟨rfl, hb⟩; go_wp2_with fail)
  have Brenc240 : Hid (Below W.heap.size W V0) := (show Below W.heap.size W W.drew from (Below.refl _ W).drew).trans (hb.mono (show Below W.heap.size W W.drew from (Below.refl _ W).drew).size)
  clear hb
  refine hK.out _ _ ?_ (fun hHeld => ?_)
  · exact Brenc240.out
  clear hK K
  try simp only [Act.put, List.setIfInBounds_toArray, List.set_cons_zero, List.set_cons_succ]
  refine wpAnyH_take (i := 4) (oi := { dst := some 129, op := Go.Op.binOp Go.BinOp.add 9 (Go.Operand.tmp 125) (Go.Operand.tmp 128) 9, type := 9, pos := "ref.go:45", after := #[{ on := 0, ground := Go.Ground.data }, { on := 3, ground := Go.Ground.data }], guard := none }) (v := ?_) rfl (by kernel_rfl) (by kernel_rfl) (by kernel_rfl) (fun _ _ _ h => HPN _ _ _ _ _ h) (Or.inl ⟨by rfl, ?_⟩) (by assumption) ?_
  rotate_left
  focus ((intro w hSw; (try dsimp only at hSw); clear hSw; go_simp) <;> (with_reducible rfl))
  try simp only [Act.put, List.setIfInBounds_toArray, List.set_cons_zero, List.set_cons_succ]
  refine wpAnyH_ready (rs := [7]) (by kernel_rfl) (by simp) ?_
  refine AllReadyH.cons (o := { dst := some 132, op := Go.Op.call { callee := Go.Callee.value (Go.Operand.func 15), args := #[Go.Operand.tmp 131], argTypes := #[3] }, type := 9, pos := "ref.go:45", after := #[{ on := 6, ground := Go.Ground.data }, { on := 3, ground := Go.Ground.chain }], guard := none }) rfl (fun K hK => ?_) AllReadyH.nil
  go_simp
  (go_at_call 15; (with_reducible refine (H1.out _).mono ?_); rintro e V1 ⟨rfl, hb⟩; go_wp2_with fail)
  have Brenc241 : Hid (Below W.heap.size W V1) := Brenc240.out.trans (hb.mono Brenc240.out.size)
  clear hb
  refine hK.out _ _ ?_ (fun hHeld => ?_)
  · exact Brenc241.out
  clear hK K
  try simp only [Act.put, List.setIfInBounds_toArray, List.set_cons_zero, List.set_cons_succ]
  refine wpAnyH_take (i := 8) (oi := { dst := some 133, op := Go.Op.binOp Go.BinOp.add 9 (Go.Operand.tmp 129) (Go.Operand.tmp 132) 9, type := 9, pos := "ref.go:45", after := #[{ on := 4, ground := Go.Ground.data }, { on := 7, ground := Go.Ground.data }], guard := none }) (v := ?_) rfl (by kernel_rfl) (by kernel_rfl) (by kernel_rfl) (fun _ _ _ h => HPN _ _ _ _ _ h) (Or.inl ⟨by rfl, ?_⟩) (by assumption) ?_
  rotate_left
  focus ((intro w hSw; (try dsimp only at hSw); clear hSw; go_simp) <;> (with_reducible rfl))
  try simp only [Act.put, List.setIfInBounds_toArray, List.set_cons_zero, List.set_cons_succ]
  refine wpAnyH_ready (rs := [14]) (by kernel_rfl) (by simp) ?_
  refine AllReadyH.cons (o := { dst := some 139, op := Go.Op.call { callee := Go.Callee.value (Go.Operand.func 18), args := #[Go.Operand.tmp 138, Go.Operand.const (Go.Value.int Go.IntKind.i64 8)], argTypes := #[4, 3] }, type := 3, pos := "ref.go:45", after := #[{ on := 13, ground := Go.Ground.data }, { on := 7, ground := Go.Ground.chain }], guard := none }) rfl (fun K hK => ?_) AllReadyH.nil
  go_simp
  (go_at_call 18; (with_reducible refine (H2.out _).mono ?_); rintro e V2 ⟨rfl, hb⟩; go_wp2_with fail)
  have Brenc242 : Hid (Below W.heap.size W V2) := Brenc241.out.trans (hb.mono Brenc241.out.size)
  clear hb
  refine hK.out _ _ ?_ (fun hHeld => ?_)
  · exact Brenc242.out
  clear hK K
  try simp only [Act.put, List.setIfInBounds_toArray, List.set_cons_zero, List.set_cons_succ]
  refine wpAnyH_take (i := 15) (oi := { dst := some 140, op := Go.Op.binOp Go.BinOp.add 3 (Go.Operand.tmp 136) (Go.Operand.tmp 139) 3, type := 3, pos := "ref.go:45", after := #[{ on := 11, ground := Go.Ground.data }, { on := 14, ground := Go.Ground.data }], guard := none }) (v := ?_) rfl (by kernel_rfl) (by kernel_rfl) (by kernel_rfl) (fun _ _ _ h => HPN _ _ _ _ _ h) (Or.inl ⟨by rfl, ?_⟩) (by assumption) ?_
  rotate_left
  focus ((intro w hSw; (try dsimp only at hSw); clear hSw; go_simp) <;> (with_reducible rfl))
  try simp only [Act.put, List.setIfInBounds_toArray, List.set_cons_zero, List.set_cons_succ]
  refine wpAnyH_take (i := 18) (oi := { dst := some 143, op := Go.Op.binOp Go.BinOp.add 3 (Go.Operand.tmp 140) (Go.Operand.tmp 142) 3, type := 3, pos := "ref.go:45", after := #[{ on := 15, ground := Go.Ground.data }, { on := 17, ground := Go.Ground.data }], guard := none }) (v := ?_) rfl (by kernel_rfl) (by kernel_rfl) (by kernel_rfl) (fun _ _ _ h => HPN _ _ _ _ _ h) (Or.inl ⟨by rfl, ?_⟩) (by assumption) ?_
  rotate_left
  focus ((intro w hSw; (try dsimp only at hSw); clear hSw; go_simp) <;> (with_reducible rfl))
  try simp only [Act.put, List.setIfInBounds_toArray, List.set_cons_zero, List.set_cons_succ]
  refine wpAnyH_ready (rs := [19]) (by kernel_rfl) (by simp) ?_
  refine AllReadyH.cons (o := { dst := some 144, op := Go.Op.call { callee := Go.Callee.value (Go.Operand.func 17), args := #[Go.Operand.tmp 143, Go.Operand.const (Go.Value.int Go.IntKind.i64 1)], argTypes := #[3, 3] }, type := 9, pos := "ref.go:45", after := #[{ on := 18, ground := Go.Ground.data }, { on := 14, ground := Go.Ground.chain }], guard := none }) rfl (fun K hK => ?_) AllReadyH.nil
  go_simp
  (go_at_call 17; (with_reducible refine (H3.out _).mono ?_); rintro e V3 ⟨rfl, hb⟩; go_wp2_with fail)
  have Brenc243 : Hid (Below W.heap.size W V3) := Brenc242.out.trans (hb.mono Brenc242.out.size)
  clear hb
  refine hK.out _ _ ?_ (fun hHeld => ?_)
  · exact Brenc243.out
  clear hK K
  try simp only [Act.put, List.setIfInBounds_toArray, List.set_cons_zero, List.set_cons_succ]
  refine wpAnyH_take (i := 20) (oi := { dst := some 145, op := Go.Op.binOp Go.BinOp.add 9 (Go.Operand.tmp 133) (Go.Operand.tmp 144) 9, type := 9, pos := "ref.go:45", after := #[{ on := 8, ground := Go.Ground.data }, { on := 19, ground := Go.Ground.data }], guard := none }) (v := ?_) rfl (by kernel_rfl) (by kernel_rfl) (by kernel_rfl) (fun _ _ _ h => HPN _ _ _ _ _ h) (Or.inl ⟨by rfl, ?_⟩) (by assumption) ?_
  rotate_left
  focus ((intro w hSw; (try dsimp only at hSw); clear hSw; go_simp) <;> (with_reducible rfl))
  try simp only [Act.put, List.setIfInBounds_toArray, List.set_cons_zero, List.set_cons_succ]
  refine wpAnyH_ready (rs := [23]) (by kernel_rfl) (by simp) ?_
  refine AllReadyH.cons (o := { dst := some 148, op := Go.Op.call { callee := Go.Callee.value (Go.Operand.func 15), args := #[Go.Operand.tmp 147], argTypes := #[3] }, type := 9, pos := "ref.go:45", after := #[{ on := 22, ground := Go.Ground.data }, { on := 19, ground := Go.Ground.chain }], guard := none }) rfl (fun K hK => ?_) AllReadyH.nil
  go_simp
  (go_at_call 15; (with_reducible refine (H4.out _).mono ?_); rintro e V4 ⟨rfl, hb⟩; go_wp2_with fail)
  have Brenc244 : Hid (Below W.heap.size W V4) := Brenc243.out.trans (hb.mono Brenc243.out.size)
  clear hb
  refine hK.out _ _ ?_ (fun hHeld => ?_)
  · exact Brenc244.out
  clear hK K
  try simp only [Act.put, List.setIfInBounds_toArray, List.set_cons_zero, List.set_cons_succ]
  refine wpAnyH_take (i := 24) (oi := { dst := some 149, op := Go.Op.binOp Go.BinOp.add 9 (Go.Operand.tmp 145) (Go.Operand.tmp 148) 9, type := 9, pos := "ref.go:45", after := #[{ on := 20, ground := Go.Ground.data }, { on := 23, ground := Go.Ground.data }], guard := none }) (v := ?_) rfl (by kernel_rfl) (by kernel_rfl) (by kernel_rfl) (fun _ _ _ h => HPN _ _ _ _ _ h) (Or.inl ⟨by rfl, ?_⟩) (by assumption) ?_
  rotate_left
  focus ((intro w hSw; (try dsimp only at hSw); clear hSw; go_simp) <;> (with_reducible rfl))
  try simp only [Act.put, List.setIfInBounds_toArray, List.set_cons_zero, List.set_cons_succ]
  refine wpAnyH_ready (rs := [27]) (by kernel_rfl) (by simp) ?_
  refine AllReadyH.cons (o := { dst := some 152, op := Go.Op.call { callee := Go.Callee.value (Go.Operand.func 16), args := #[Go.Operand.tmp 151], argTypes := #[3] }, type := 9, pos := "ref.go:45", after := #[{ on := 26, ground := Go.Ground.data }, { on := 23, ground := Go.Ground.chain }], guard := none }) rfl (fun K hK => ?_) AllReadyH.nil
  go_simp
  (go_at_call 16; (with_reducible refine (H5.out _).mono ?_); rintro e V5 ⟨rfl, hb⟩; go_wp2_with fail)
  have Brenc245 : Hid (Below W.heap.size W V5) := Brenc244.out.trans (hb.mono Brenc244.out.size)
  clear hb
  refine hK.out _ _ ?_ (fun hHeld => ?_)
  · exact Brenc245.out
  clear hK K
  try simp only [Act.put, List.setIfInBounds_toArray, List.set_cons_zero, List.set_cons_succ]
  refine wpAnyH_take (i := 28) (oi := { dst := some 153, op := Go.Op.binOp Go.BinOp.add 9 (Go.Operand.tmp 149) (Go.Operand.tmp 152) 9, type := 9, pos := "ref.go:45", after := #[{ on := 24, ground := Go.Ground.data }, { on := 27, ground := Go.Ground.data }], guard := none }) (v := ?_) rfl (by kernel_rfl) (by kernel_rfl) (by kernel_rfl) (fun _ _ _ h => HPN _ _ _ _ _ h) (Or.inl ⟨by rfl, ?_⟩) (by assumption) ?_
  rotate_left
  focus ((intro w hSw; (try dsimp only at hSw); clear hSw; go_simp) <;> (with_reducible rfl))
  try simp only [Act.put, List.setIfInBounds_toArray, List.set_cons_zero, List.set_cons_succ]
  refine wpAnyH_ready (rs := [32]) (by kernel_rfl) (by simp) ?_
  refine AllReadyH.cons (o := { dst := some 157, op := Go.Op.call { callee := Go.Callee.value (Go.Operand.func 15), args := #[Go.Operand.tmp 156], argTypes := #[3] }, type := 9, pos := "ref.go:45", after := #[{ on := 31, ground := Go.Ground.data }, { on := 27, ground := Go.Ground.chain }], guard := none }) rfl (fun K hK => ?_) AllReadyH.nil
  go_simp
  (go_at_call 15; (with_reducible refine (H6.out _).mono ?_); rintro e V6 ⟨rfl, hb⟩; go_wp2_with fail)
  have Brenc246 : Hid (Below W.heap.size W V6) := Brenc245.out.trans (hb.mono Brenc245.out.size)
  clear hb
  refine hK.out _ _ ?_ (fun hHeld => ?_)
  · exact Brenc246.out
  clear hK K
  try simp only [Act.put, List.setIfInBounds_toArray, List.set_cons_zero, List.set_cons_succ]
  refine wpAnyH_take (i := 33) (oi := { dst := some 158, op := Go.Op.binOp Go.BinOp.add 9 (Go.Operand.tmp 153) (Go.Operand.tmp 157) 9, type := 9, pos := "ref.go:45", after := #[{ on := 28, ground := Go.Ground.data }, { on := 32, ground := Go.Ground.data }], guard := none }) (v := ?_) rfl (by kernel_rfl) (by kernel_rfl) (by kernel_rfl) (fun _ _ _ h => HPN _ _ _ _ _ h) (Or.inl ⟨by rfl, ?_⟩) (by assumption) ?_
  rotate_left
  focus ((intro w hSw; (try dsimp only at hSw); clear hSw; go_simp) <;> (with_reducible rfl))
  try simp only [Act.put, List.setIfInBounds_toArray, List.set_cons_zero, List.set_cons_succ]
  refine wpAnyH_take (i := 34) (oi := { dst := some 8, op := Go.Op.assign (Go.Operand.tmp 158), type := 9, pos := "ref.go:45", after := #[{ on := 33, ground := Go.Ground.data }, { on := 32, ground := Go.Ground.chain }, { on := 0, ground := Go.Ground.phase }, { on := 1, ground := Go.Ground.phase }, { on := 2, ground := Go.Ground.phase }, { on := 3, ground := Go.Ground.phase }, { on := 4, ground := Go.Ground.phase }, { on := 5, ground := Go.Ground.phase }, { on := 6, ground := Go.Ground.phase }, { on := 7, ground := Go.Ground.phase }, { on := 8, ground := Go.Ground.phase }, { on := 9, ground := Go.Ground.phase }, { on := 10, ground := Go.Ground.phase }, { on := 11, ground := Go.Ground.phase }, { on := 12, ground := Go.Ground.phase }, { on := 13, ground := Go.Ground.phase }, { on := 14, ground := Go.Ground.phase }, { on := 15, ground := Go.Ground.phase }, { on := 16, ground := Go.Ground.phase }, { on := 17, ground := Go.Ground.phase }, { on := 18, ground := Go.Ground.phase }, { on := 19, ground := Go.Ground.phase }, { on := 20, ground := Go.Ground.phase }, { on := 21, ground := Go.Ground.phase }, { on := 22, ground := Go.Ground.phase }, { on := 23, ground := Go.Ground.phase }, { on := 24, ground := Go.Ground.phase }, { on := 25, ground := Go.Ground.phase }, { on := 26, ground := Go.Ground.phase }, { on := 27, ground := Go.Ground.phase }, { on := 28, ground := Go.Ground.phase }, { on := 29, ground := Go.Ground.phase }, { on := 30, ground := Go.Ground.phase }, { on := 31, ground := Go.Ground.phase }, { on := 32, ground := Go.Ground.phase }, { on := 33, ground := Go.Ground.phase }], guard := none }) (v := ?_) rfl (by kernel_rfl) (by kernel_rfl) (by kernel_rfl) (fun _ _ _ h => HPN _ _ _ _ _ h) (Or.inl ⟨by rfl, ?_⟩) (by assumption) ?_
  rotate_left
  focus ((intro w hSw; (try dsimp only at hSw); clear hSw; go_simp) <;> (with_reducible rfl))
  try simp only [Act.put, List.setIfInBounds_toArray, List.set_cons_zero, List.set_cons_succ]
  refine wpAnyH_done (by kernel_rfl) ?_ _
  clear hHeld
  exact hQ _ Brenc246.out _ _ _ _ _ _ _ _ _ _ _ _ _ _ _ _ _ _ _ _ _ _ _ _ _ _ _ _ _ _ _ _ _ _
set_option maxHeartbeats 4000000 in
theorem renc34 {W : World} {qb : Nat} {qid qhost qpart qkind qvl qsub qudp qsize qdepth qfresh : Int} {qout : Bool} {S B1 B2 B3 B4 B5 B6 B7 B8 B9 : ByteArray} {g y : Int} (zS : S.size ≤ 100000000) (zB1 : B1.size ≤ 8) (zB2 : B2.size ≤ 8) (zB3 : B3.size ≤ 8) (zB4 : B4.size ≤ 8) (zB5 : B5.size ≤ 8) (zB6 : B6.size ≤ 8) (zB7 : B7.size ≤ 8) (zB8 : B8.size ≤ 8) (zB9 : B9.size ≤ 8) (hb : 0 ≤ qkind ∧ qkind ≤ 3) (hg : 0 ≤ g ∧ g ≤ 32) (hs : 0 ≤ qsub ∧ qsub ≤ 31) (hy : 64 * qkind + g + qsub = y) (HP : Hid (W.heap[qb]? = some (.cells #[.int .i64 qid, .int .i64 qhost, .int .i64 qpart, .int .i64 qkind, .bool qout, .int .i64 qvl, .int .i64 qsub, .int .i64 qudp, .int .i64 qsize, .int .i64 qdepth, .int .i64 qfresh] 41))) (H0 : Hid (∀ w, Calls Try.prog 16 #[.int .i64 qid] w fun e w' => e = .returned (.string B1) ∧ Below w.heap.size w w')) (H1 : Hid (∀ w, Calls Try.prog 15 #[.int .i64 qhost] w fun e w' => e = .returned (.string B2) ∧ Below w.heap.size w w')) (H2 : Hid (∀ w, Calls Try.prog 15 #[.int .i64 qpart] w fun e w' => e = .returned (.string B3) ∧ Below w.heap.size w w')) (H3 : Hid (∀ w, Calls Try.prog 18 #[.bool qout, .int .i64 32] w fun e w' => e = .returned (.int .i64 g) ∧ Below w.heap.size w w')) (H4 : Hid (∀ w, Calls Try.prog 17 #[.int .i64 y, .int .i64 1] w fun e w' => e = .returned (.string B4) ∧ Below w.heap.size w w')) (H5 : Hid (∀ w, Calls Try.prog 15 #[.int .i64 qvl] w fun e w' => e = .returned (.string B5) ∧ Below w.heap.size w w')) (H6 : Hid (∀ w, Calls Try.prog 15 #[.int .i64 qudp] w fun e w' => e = .returned (.string B6) ∧ Below w.heap.size w w')) (H7 : Hid (∀ w, Calls Try.prog 15 #[.int .i64 qsize] w fun e w' => e = .returned (.string B7) ∧ Below w.heap.size w w')) (H8 : Hid (∀ w, Calls Try.prog 15 #[.int .i64 qdepth] w fun e w' => e = .returned (.string B8) ∧ Below w.heap.size w w')) (H9 : Hid (∀ w, Calls Try.prog 17 #[.int .i64 qfresh, .int .i64 8] w fun e w' => e = .returned (.string B9) ∧ Below w.heap.size w w')) {u0 u1 u2 u3 u4 u5 u6 u7 u9 u10 u11 u12 u13 u14 u16 u17 u18 u19 u20 u21 u22 u23 u24 u25 u26 u27 u28 u29 u30 u31 u32 u33 u34 u35 u36 u37 u38 u39 u40 u41 u42 u43 u44 u45 u46 u47 u48 u49 u50 u51 u52 u53 u54 u55 u56 u57 u58 u59 u60 u61 u62 u63 u64 u65 u66 u67 u68 u69 u70 u71 u72 u73 u74 u75 u76 u77 u78 u79 u80 u81 u82 u83 u84 u85 u86 u87 u88 u89 u90 u91 u92 u93 u94 u95 u96 u97 u98 u99 u100 u101 u102 u103 u104 u105 u106 u107 u108 u109 u110 u111 u112 u113 u114 u115 u116 u117 u118 u119 u120 u121 u122 u123 u124 u125 u126 u127 u128 u129 u130 u131 u132 u133 u134 u135 u136 u137 u138 u139 u140 u141 u142 u143 u144 u145 u146 u147 u148 u149 u150 u151 u152 u153 u154 u155 u156 u157 u158 u159 u160 u161 u162 u163 u164 u165 u166 u167 u168 u169 u170 u171 u172 u173 u174 u175 u176 u177 u178 u179 u180 u181 u182 u183 u184 u185 u186 u187 u188 u189 u190 u191 u192 u193 u194 u195 u196 u197 u198 u199 u200 u201 u202 u203 u204 u205 u206 u207 u208 u209 u210 u211 u212 u213 u214 u215 u216 u217 u218 u219 u220 u221 u222 u223 u224 u225 u226 u227 u228 u229 u230 u231 u232 u233 u234 u235 u236 u237 u238 : Value} {Q : Exit → Act → World → Prop} (HPN : ∀ (p : List PanicEntry) (a : Act) (dd : Nat) (vv : Value) (w : World), Q (.panic p) (a.put (some dd) vv) w → Q (.panic p) a w) (hQ : ∀ (wc : World), Below W.heap.size W wc → ∀ x192 x193 x194 x195 x196 x197 x198 x199 x200 x201 x202 x203 x204 x205 x206 x207 x208 x209 x210 x211 x212 x213 x214 x215 x216 x217 x218 x219 x220 x221 x222 x223 x224 x225 x226 x227 x228 x229 x230 x231 x232 x233 x234 x235 x236 : Value, Q .normal ⟨#[u0, u1, u2, u3, u4, u5, u6, u7, (.string (S ++ B1 ++ B2 ++ B3 ++ B4 ++ B5 ++ B6 ++ B7 ++ B8 ++ B9)), u9, u10, u11, u12, u13, u14, (.pointer (some ⟨qb, 0, none⟩)), u16, u17, u18, u19, u20, u21, u22, u23, u24, u25, u26, u27, u28, u29, u30, u31, u32, u33, u34, u35, u36, u37, u38, u39, u40, u41, u42, u43, u44, u45, u46, u47, u48, u49, u50, u51, u52, u53, u54, u55, u56, u57, u58, u59, u60, u61, u62, u63, u64, u65, u66, u67, u68, u69, u70, u71, u72, u73, u74, u75, u76, u77, u78, u79, u80, u81, u82, u83, u84, u85, u86, u87, u88, u89, u90, u91, u92, u93, u94, u95, u96, u97, u98, u99, u100, u101, u102, u103, u104, u105, u106, u107, u108, u109, u110, u111, u112, u113, u114, u115, u116, u117, u118, u119, u120, u121, u122, u123, u124, u125, u126, u127, u128, u129, u130, u131, u132, u133, u134, u135, u136, u137, u138, u139, u140, u141, u142, u143, u144, u145, u146, u147, u148, u149, u150, u151, u152, u153, u154, u155, u156, u157, u158, u159, u160, u161, u162, u163, u164, u165, u166, u167, u168, u169, u170, u171, u172, u173, u174, u175, u176, u177, u178, u179, u180, u181, u182, u183, u184, u185, u186, u187, u188, u189, u190, u191, x192, x193, x194, x195, x196, x197, x198, x199, x200, x201, x202, x203, x204, x205, x206, x207, x208, x209, x210, x211, x212, x213, x214, x215, x216, x217, x218, x219, x220, x221, x222, x223, x224, x225, x226, x227, x228, x229, x230, x231, x232, x233, x234, x235, x236, u237, u238], []⟩ wc) :
    Code.wp Try.prog (Code.region 34 #[{ dst := some 192, op := Go.Op.move (Go.Operand.tmp 8), type := 9, pos := "ref.go:53", after := #[], guard := none }, { dst := some 193, op := Go.Op.fieldAddr 41 (Go.Operand.tmp 15) 0, type := 0, pos := "ref.go:53", after := #[], guard := none }, { dst := some 194, op := Go.Op.load 3 (Go.Operand.tmp 193), type := 3, pos := "ref.go:53", after := #[{ on := 1, ground := Go.Ground.data }], guard := none }, { dst := some 195, op := Go.Op.call { callee := Go.Callee.value (Go.Operand.func 16), args := #[Go.Operand.tmp 194], argTypes := #[3] }, type := 9, pos := "ref.go:53", after := #[{ on := 2, ground := Go.Ground.data }], guard := none }, { dst := some 196, op := Go.Op.binOp Go.BinOp.add 9 (Go.Operand.tmp 192) (Go.Operand.tmp 195) 9, type := 9, pos := "ref.go:53", after := #[{ on := 0, ground := Go.Ground.data }, { on := 3, ground := Go.Ground.data }], guard := none }, { dst := some 197, op := Go.Op.fieldAddr 41 (Go.Operand.tmp 15) 1, type := 0, pos := "ref.go:53", after := #[], guard := none }, { dst := some 198, op := Go.Op.load 3 (Go.Operand.tmp 197), type := 3, pos := "ref.go:53", after := #[{ on := 5, ground := Go.Ground.data }], guard := none }, { dst := some 199, op := Go.Op.call { callee := Go.Callee.value (Go.Operand.func 15), args := #[Go.Operand.tmp 198], argTypes := #[3] }, type := 9, pos := "ref.go:53", after := #[{ on := 6, ground := Go.Ground.data }, { on := 3, ground := Go.Ground.chain }], guard := none }, { dst := some 200, op := Go.Op.binOp Go.BinOp.add 9 (Go.Operand.tmp 196) (Go.Operand.tmp 199) 9, type := 9, pos := "ref.go:53", after := #[{ on := 4, ground := Go.Ground.data }, { on := 7, ground := Go.Ground.data }], guard := none }, { dst := some 201, op := Go.Op.fieldAddr 41 (Go.Operand.tmp 15) 2, type := 0, pos := "ref.go:53", after := #[], guard := none }, { dst := some 202, op := Go.Op.load 3 (Go.Operand.tmp 201), type := 3, pos := "ref.go:53", after := #[{ on := 9, ground := Go.Ground.data }], guard := none }, { dst := some 203, op := Go.Op.call { callee := Go.Callee.value (Go.Operand.func 15), args := #[Go.Operand.tmp 202], argTypes := #[3] }, type := 9, pos := "ref.go:53", after := #[{ on := 10, ground := Go.Ground.data }, { on := 7, ground := Go.Ground.chain }], guard := none }, { dst := some 204, op := Go.Op.binOp Go.BinOp.add 9 (Go.Operand.tmp 200) (Go.Operand.tmp 203) 9, type := 9, pos := "ref.go:53", after := #[{ on := 8, ground := Go.Ground.data }, { on := 11, ground := Go.Ground.data }], guard := none }, { dst := some 205, op := Go.Op.fieldAddr 41 (Go.Operand.tmp 15) 3, type := 0, pos := "ref.go:53", after := #[], guard := none }, { dst := some 206, op := Go.Op.load 3 (Go.Operand.tmp 205), type := 3, pos := "ref.go:53", after := #[{ on := 13, ground := Go.Ground.data }], guard := none }, { dst := some 207, op := Go.Op.binOp Go.BinOp.mul 3 (Go.Operand.const (Go.Value.int Go.IntKind.i64 64)) (Go.Operand.tmp 206) 3, type := 3, pos := "ref.go:53", after := #[{ on := 14, ground := Go.Ground.data }], guard := none }, { dst := some 208, op := Go.Op.fieldAddr 41 (Go.Operand.tmp 15) 4, type := 0, pos := "ref.go:53", after := #[], guard := none }, { dst := some 209, op := Go.Op.load 4 (Go.Operand.tmp 208), type := 4, pos := "ref.go:53", after := #[{ on := 16, ground := Go.Ground.data }], guard := none }, { dst := some 210, op := Go.Op.call { callee := Go.Callee.value (Go.Operand.func 18), args := #[Go.Operand.tmp 209, Go.Operand.const (Go.Value.int Go.IntKind.i64 32)], argTypes := #[4, 3] }, type := 3, pos := "ref.go:53", after := #[{ on := 17, ground := Go.Ground.data }, { on := 11, ground := Go.Ground.chain }], guard := none }, { dst := some 211, op := Go.Op.binOp Go.BinOp.add 3 (Go.Operand.tmp 207) (Go.Operand.tmp 210) 3, type := 3, pos := "ref.go:53", after := #[{ on := 15, ground := Go.Ground.data }, { on := 18, ground := Go.Ground.data }], guard := none }, { dst := some 212, op := Go.Op.fieldAddr 41 (Go.Operand.tmp 15) 6, type := 0, pos := "ref.go:53", after := #[], guard := none }, { dst := some 213, op := Go.Op.load 3 (Go.Operand.tmp 212), type := 3, pos := "ref.go:53", after := #[{ on := 20, ground := Go.Ground.data }], guard := none }, { dst := some 214, op := Go.Op.binOp Go.BinOp.add 3 (Go.Operand.tmp 211) (Go.Operand.tmp 213) 3, type := 3, pos := "ref.go:53", after := #[{ on := 19, ground := Go.Ground.data }, { on := 21, ground := Go.Ground.data }], guard := none }, { dst := some 215, op := Go.Op.call { callee := Go.Callee.value (Go.Operand.func 17), args := #[Go.Operand.tmp 214, Go.Operand.const (Go.Value.int Go.IntKind.i64 1)], argTypes := #[3, 3] }, type := 9, pos := "ref.go:53", after := #[{ on := 22, ground := Go.Ground.data }, { on := 18, ground := Go.Ground.chain }], guard := none }, { dst := some 216, op := Go.Op.binOp Go.BinOp.add 9 (Go.Operand.tmp 204) (Go.Operand.tmp 215) 9, type := 9, pos := "ref.go:53", after := #[{ on := 12, ground := Go.Ground.data }, { on := 23, ground := Go.Ground.data }], guard := none }, { dst := some 217, op := Go.Op.fieldAddr 41 (Go.Operand.tmp 15) 5, type := 0, pos := "ref.go:53", after := #[], guard := none }, { dst := some 218, op := Go.Op.load 3 (Go.Operand.tmp 217), type := 3, pos := "ref.go:53", after := #[{ on := 25, ground := Go.Ground.data }], guard := none }, { dst := some 219, op := Go.Op.call { callee := Go.Callee.value (Go.Operand.func 15), args := #[Go.Operand.tmp 218], argTypes := #[3] }, type := 9, pos := "ref.go:53", after := #[{ on := 26, ground := Go.Ground.data }, { on := 23, ground := Go.Ground.chain }], guard := none }, { dst := some 220, op := Go.Op.binOp Go.BinOp.add 9 (Go.Operand.tmp 216) (Go.Operand.tmp 219) 9, type := 9, pos := "ref.go:53", after := #[{ on := 24, ground := Go.Ground.data }, { on := 27, ground := Go.Ground.data }], guard := none }, { dst := some 221, op := Go.Op.fieldAddr 41 (Go.Operand.tmp 15) 7, type := 0, pos := "ref.go:53", after := #[], guard := none }, { dst := some 222, op := Go.Op.load 3 (Go.Operand.tmp 221), type := 3, pos := "ref.go:53", after := #[{ on := 29, ground := Go.Ground.data }], guard := none }, { dst := some 223, op := Go.Op.call { callee := Go.Callee.value (Go.Operand.func 15), args := #[Go.Operand.tmp 222], argTypes := #[3] }, type := 9, pos := "ref.go:53", after := #[{ on := 30, ground := Go.Ground.data }, { on := 27, ground := Go.Ground.chain }], guard := none }, { dst := some 224, op := Go.Op.binOp Go.BinOp.add 9 (Go.Operand.tmp 220) (Go.Operand.tmp 223) 9, type := 9, pos := "ref.go:53", after := #[{ on := 28, ground := Go.Ground.data }, { on := 31, ground := Go.Ground.data }], guard := none }, { dst := some 225, op := Go.Op.fieldAddr 41 (Go.Operand.tmp 15) 8, type := 0, pos := "ref.go:53", after := #[], guard := none }, { dst := some 226, op := Go.Op.load 3 (Go.Operand.tmp 225), type := 3, pos := "ref.go:53", after := #[{ on := 33, ground := Go.Ground.data }], guard := none }, { dst := some 227, op := Go.Op.call { callee := Go.Callee.value (Go.Operand.func 15), args := #[Go.Operand.tmp 226], argTypes := #[3] }, type := 9, pos := "ref.go:53", after := #[{ on := 34, ground := Go.Ground.data }, { on := 31, ground := Go.Ground.chain }], guard := none }, { dst := some 228, op := Go.Op.binOp Go.BinOp.add 9 (Go.Operand.tmp 224) (Go.Operand.tmp 227) 9, type := 9, pos := "ref.go:53", after := #[{ on := 32, ground := Go.Ground.data }, { on := 35, ground := Go.Ground.data }], guard := none }, { dst := some 229, op := Go.Op.fieldAddr 41 (Go.Operand.tmp 15) 9, type := 0, pos := "ref.go:53", after := #[], guard := none }, { dst := some 230, op := Go.Op.load 3 (Go.Operand.tmp 229), type := 3, pos := "ref.go:53", after := #[{ on := 37, ground := Go.Ground.data }], guard := none }, { dst := some 231, op := Go.Op.call { callee := Go.Callee.value (Go.Operand.func 15), args := #[Go.Operand.tmp 230], argTypes := #[3] }, type := 9, pos := "ref.go:53", after := #[{ on := 38, ground := Go.Ground.data }, { on := 35, ground := Go.Ground.chain }], guard := none }, { dst := some 232, op := Go.Op.binOp Go.BinOp.add 9 (Go.Operand.tmp 228) (Go.Operand.tmp 231) 9, type := 9, pos := "ref.go:53", after := #[{ on := 36, ground := Go.Ground.data }, { on := 39, ground := Go.Ground.data }], guard := none }, { dst := some 233, op := Go.Op.fieldAddr 41 (Go.Operand.tmp 15) 10, type := 0, pos := "ref.go:53", after := #[], guard := none }, { dst := some 234, op := Go.Op.load 3 (Go.Operand.tmp 233), type := 3, pos := "ref.go:53", after := #[{ on := 41, ground := Go.Ground.data }], guard := none }, { dst := some 235, op := Go.Op.call { callee := Go.Callee.value (Go.Operand.func 17), args := #[Go.Operand.tmp 234, Go.Operand.const (Go.Value.int Go.IntKind.i64 8)], argTypes := #[3, 3] }, type := 9, pos := "ref.go:53", after := #[{ on := 42, ground := Go.Ground.data }, { on := 39, ground := Go.Ground.chain }], guard := none }, { dst := some 236, op := Go.Op.binOp Go.BinOp.add 9 (Go.Operand.tmp 232) (Go.Operand.tmp 235) 9, type := 9, pos := "ref.go:53", after := #[{ on := 40, ground := Go.Ground.data }, { on := 43, ground := Go.Ground.data }], guard := none }, { dst := some 8, op := Go.Op.assign (Go.Operand.tmp 236), type := 9, pos := "ref.go:53", after := #[{ on := 44, ground := Go.Ground.data }, { on := 43, ground := Go.Ground.chain }, { on := 0, ground := Go.Ground.phase }, { on := 1, ground := Go.Ground.phase }, { on := 2, ground := Go.Ground.phase }, { on := 3, ground := Go.Ground.phase }, { on := 4, ground := Go.Ground.phase }, { on := 5, ground := Go.Ground.phase }, { on := 6, ground := Go.Ground.phase }, { on := 7, ground := Go.Ground.phase }, { on := 8, ground := Go.Ground.phase }, { on := 9, ground := Go.Ground.phase }, { on := 10, ground := Go.Ground.phase }, { on := 11, ground := Go.Ground.phase }, { on := 12, ground := Go.Ground.phase }, { on := 13, ground := Go.Ground.phase }, { on := 14, ground := Go.Ground.phase }, { on := 15, ground := Go.Ground.phase }, { on := 16, ground := Go.Ground.phase }, { on := 17, ground := Go.Ground.phase }, { on := 18, ground := Go.Ground.phase }, { on := 19, ground := Go.Ground.phase }, { on := 20, ground := Go.Ground.phase }, { on := 21, ground := Go.Ground.phase }, { on := 22, ground := Go.Ground.phase }, { on := 23, ground := Go.Ground.phase }, { on := 24, ground := Go.Ground.phase }, { on := 25, ground := Go.Ground.phase }, { on := 26, ground := Go.Ground.phase }, { on := 27, ground := Go.Ground.phase }, { on := 28, ground := Go.Ground.phase }, { on := 29, ground := Go.Ground.phase }, { on := 30, ground := Go.Ground.phase }, { on := 31, ground := Go.Ground.phase }, { on := 32, ground := Go.Ground.phase }, { on := 33, ground := Go.Ground.phase }, { on := 34, ground := Go.Ground.phase }, { on := 35, ground := Go.Ground.phase }, { on := 36, ground := Go.Ground.phase }, { on := 37, ground := Go.Ground.phase }, { on := 38, ground := Go.Ground.phase }, { on := 39, ground := Go.Ground.phase }, { on := 40, ground := Go.Ground.phase }, { on := 41, ground := Go.Ground.phase }, { on := 42, ground := Go.Ground.phase }, { on := 43, ground := Go.Ground.phase }, { on := 44, ground := Go.Ground.phase }], guard := none }] true) Q ⟨#[u0, u1, u2, u3, u4, u5, u6, u7, (.string S), u9, u10, u11, u12, u13, u14, (.pointer (some ⟨qb, 0, none⟩)), u16, u17, u18, u19, u20, u21, u22, u23, u24, u25, u26, u27, u28, u29, u30, u31, u32, u33, u34, u35, u36, u37, u38, u39, u40, u41, u42, u43, u44, u45, u46, u47, u48, u49, u50, u51, u52, u53, u54, u55, u56, u57, u58, u59, u60, u61, u62, u63, u64, u65, u66, u67, u68, u69, u70, u71, u72, u73, u74, u75, u76, u77, u78, u79, u80, u81, u82, u83, u84, u85, u86, u87, u88, u89, u90, u91, u92, u93, u94, u95, u96, u97, u98, u99, u100, u101, u102, u103, u104, u105, u106, u107, u108, u109, u110, u111, u112, u113, u114, u115, u116, u117, u118, u119, u120, u121, u122, u123, u124, u125, u126, u127, u128, u129, u130, u131, u132, u133, u134, u135, u136, u137, u138, u139, u140, u141, u142, u143, u144, u145, u146, u147, u148, u149, u150, u151, u152, u153, u154, u155, u156, u157, u158, u159, u160, u161, u162, u163, u164, u165, u166, u167, u168, u169, u170, u171, u172, u173, u174, u175, u176, u177, u178, u179, u180, u181, u182, u183, u184, u185, u186, u187, u188, u189, u190, u191, u192, u193, u194, u195, u196, u197, u198, u199, u200, u201, u202, u203, u204, u205, u206, u207, u208, u209, u210, u211, u212, u213, u214, u215, u216, u217, u218, u219, u220, u221, u222, u223, u224, u225, u226, u227, u228, u229, u230, u231, u232, u233, u234, u235, u236, u237, u238], []⟩ W := by
  have gB1 : ¬ 9223372036854775807 < S.size + B1.size := by omega
  have gB2 : ¬ 9223372036854775807 < S.size + B1.size + B2.size := by omega
  have gB3 : ¬ 9223372036854775807 < S.size + B1.size + B2.size + B3.size := by omega
  have gB4 : ¬ 9223372036854775807 < S.size + B1.size + B2.size + B3.size + B4.size := by omega
  have gB5 : ¬ 9223372036854775807 < S.size + B1.size + B2.size + B3.size + B4.size + B5.size := by omega
  have gB6 : ¬ 9223372036854775807 < S.size + B1.size + B2.size + B3.size + B4.size + B5.size + B6.size := by omega
  have gB7 : ¬ 9223372036854775807 < S.size + B1.size + B2.size + B3.size + B4.size + B5.size + B6.size + B7.size := by omega
  have gB8 : ¬ 9223372036854775807 < S.size + B1.size + B2.size + B3.size + B4.size + B5.size + B6.size + B7.size + B8.size := by omega
  have gB9 : ¬ 9223372036854775807 < S.size + B1.size + B2.size + B3.size + B4.size + B5.size + B6.size + B7.size + B8.size + B9.size := by omega
  have w1 : IntKind.i64.wrap (64 * qkind) = 64 * qkind := IntWalk.i64_in _ (by omega)
  have w2 : IntKind.i64.wrap (64 * qkind + g) = 64 * qkind + g := IntWalk.i64_in _ (by omega)
  have w3 : IntKind.i64.wrap (64 * qkind + g + qsub) = y := by rw [hy]; exact IntWalk.i64_in _ (by omega)
  have w4 : IntKind.i64.wrap y = y := IntWalk.i64_in _ (by omega)
  refine wp_region_held_drew (S := fun w' => Below W.heap.size W w') (by kernel_rfl) ?_ (fun hHeld => ?_)
  · exact (Below.refl _ W).drew
  refine wpAnyH_take (i := 0) (oi := { dst := some 192, op := Go.Op.move (Go.Operand.tmp 8), type := 9, pos := "ref.go:53", after := #[], guard := none }) (v := ?_) rfl (by kernel_rfl) (by kernel_rfl) (by kernel_rfl) (fun _ _ _ h => HPN _ _ _ _ _ h) (Or.inl ⟨by rfl, ?_⟩) (by assumption) ?_
  rotate_left
  focus ((intro w hSw; (try dsimp only at hSw); clear hSw; go_simp) <;> (with_reducible rfl))
  try simp only [Act.put, List.setIfInBounds_toArray, List.set_cons_zero, List.set_cons_succ]
  refine wpAnyH_take (i := 1) (oi := { dst := some 193, op := Go.Op.fieldAddr 41 (Go.Operand.tmp 15) 0, type := 0, pos := "ref.go:53", after := #[], guard := none }) (v := ?_) rfl (by kernel_rfl) (by kernel_rfl) (by kernel_rfl) (fun _ _ _ h => HPN _ _ _ _ _ h) (Or.inl ⟨by rfl, ?_⟩) (by assumption) ?_
  rotate_left
  focus ((intro w hSw; (try dsimp only at hSw); clear hSw; go_simp) <;> (with_reducible rfl))
  try simp only [Act.put, List.setIfInBounds_toArray, List.set_cons_zero, List.set_cons_succ]
  refine wpAnyH_take (i := 2) (oi := { dst := some 194, op := Go.Op.load 3 (Go.Operand.tmp 193), type := 3, pos := "ref.go:53", after := #[{ on := 1, ground := Go.Ground.data }], guard := none }) (v := ?_) rfl (by kernel_rfl) (by kernel_rfl) (by kernel_rfl) (fun _ _ _ h => HPN _ _ _ _ _ h) (Or.inl ⟨by rfl, ?_⟩) (by assumption) ?_
  rotate_left
  focus ((intro w hSw; (try dsimp only at hSw); obtain ⟨x0, x1, x2, x3, x4, x5, x6, x7, x8, x9, x10⟩ := cells_11 (lies_below HP.out hSw (lies_lt HP.out)); clear hSw; go_simp) <;> (with_reducible rfl))
  try simp only [Act.put, List.setIfInBounds_toArray, List.set_cons_zero, List.set_cons_succ]
  refine wpAnyH_take (i := 5) (oi := { dst := some 197, op := Go.Op.fieldAddr 41 (Go.Operand.tmp 15) 1, type := 0, pos := "ref.go:53", after := #[], guard := none }) (v := ?_) rfl (by kernel_rfl) (by kernel_rfl) (by kernel_rfl) (fun _ _ _ h => HPN _ _ _ _ _ h) (Or.inl ⟨by rfl, ?_⟩) (by assumption) ?_
  rotate_left
  focus ((intro w hSw; (try dsimp only at hSw); clear hSw; go_simp) <;> (with_reducible rfl))
  try simp only [Act.put, List.setIfInBounds_toArray, List.set_cons_zero, List.set_cons_succ]
  refine wpAnyH_take (i := 6) (oi := { dst := some 198, op := Go.Op.load 3 (Go.Operand.tmp 197), type := 3, pos := "ref.go:53", after := #[{ on := 5, ground := Go.Ground.data }], guard := none }) (v := ?_) rfl (by kernel_rfl) (by kernel_rfl) (by kernel_rfl) (fun _ _ _ h => HPN _ _ _ _ _ h) (Or.inl ⟨by rfl, ?_⟩) (by assumption) ?_
  rotate_left
  focus ((intro w hSw; (try dsimp only at hSw); obtain ⟨x0, x1, x2, x3, x4, x5, x6, x7, x8, x9, x10⟩ := cells_11 (lies_below HP.out hSw (lies_lt HP.out)); clear hSw; go_simp) <;> (with_reducible rfl))
  try simp only [Act.put, List.setIfInBounds_toArray, List.set_cons_zero, List.set_cons_succ]
  refine wpAnyH_take (i := 9) (oi := { dst := some 201, op := Go.Op.fieldAddr 41 (Go.Operand.tmp 15) 2, type := 0, pos := "ref.go:53", after := #[], guard := none }) (v := ?_) rfl (by kernel_rfl) (by kernel_rfl) (by kernel_rfl) (fun _ _ _ h => HPN _ _ _ _ _ h) (Or.inl ⟨by rfl, ?_⟩) (by assumption) ?_
  rotate_left
  focus ((intro w hSw; (try dsimp only at hSw); clear hSw; go_simp) <;> (with_reducible rfl))
  try simp only [Act.put, List.setIfInBounds_toArray, List.set_cons_zero, List.set_cons_succ]
  refine wpAnyH_take (i := 10) (oi := { dst := some 202, op := Go.Op.load 3 (Go.Operand.tmp 201), type := 3, pos := "ref.go:53", after := #[{ on := 9, ground := Go.Ground.data }], guard := none }) (v := ?_) rfl (by kernel_rfl) (by kernel_rfl) (by kernel_rfl) (fun _ _ _ h => HPN _ _ _ _ _ h) (Or.inl ⟨by rfl, ?_⟩) (by assumption) ?_
  rotate_left
  focus ((intro w hSw; (try dsimp only at hSw); obtain ⟨x0, x1, x2, x3, x4, x5, x6, x7, x8, x9, x10⟩ := cells_11 (lies_below HP.out hSw (lies_lt HP.out)); clear hSw; go_simp) <;> (with_reducible rfl))
  try simp only [Act.put, List.setIfInBounds_toArray, List.set_cons_zero, List.set_cons_succ]
  refine wpAnyH_take (i := 13) (oi := { dst := some 205, op := Go.Op.fieldAddr 41 (Go.Operand.tmp 15) 3, type := 0, pos := "ref.go:53", after := #[], guard := none }) (v := ?_) rfl (by kernel_rfl) (by kernel_rfl) (by kernel_rfl) (fun _ _ _ h => HPN _ _ _ _ _ h) (Or.inl ⟨by rfl, ?_⟩) (by assumption) ?_
  rotate_left
  focus ((intro w hSw; (try dsimp only at hSw); clear hSw; go_simp) <;> (with_reducible rfl))
  try simp only [Act.put, List.setIfInBounds_toArray, List.set_cons_zero, List.set_cons_succ]
  refine wpAnyH_take (i := 14) (oi := { dst := some 206, op := Go.Op.load 3 (Go.Operand.tmp 205), type := 3, pos := "ref.go:53", after := #[{ on := 13, ground := Go.Ground.data }], guard := none }) (v := ?_) rfl (by kernel_rfl) (by kernel_rfl) (by kernel_rfl) (fun _ _ _ h => HPN _ _ _ _ _ h) (Or.inl ⟨by rfl, ?_⟩) (by assumption) ?_
  rotate_left
  focus ((intro w hSw; (try dsimp only at hSw); obtain ⟨x0, x1, x2, x3, x4, x5, x6, x7, x8, x9, x10⟩ := cells_11 (lies_below HP.out hSw (lies_lt HP.out)); clear hSw; go_simp) <;> (with_reducible rfl))
  try simp only [Act.put, List.setIfInBounds_toArray, List.set_cons_zero, List.set_cons_succ]
  refine wpAnyH_take (i := 15) (oi := { dst := some 207, op := Go.Op.binOp Go.BinOp.mul 3 (Go.Operand.const (Go.Value.int Go.IntKind.i64 64)) (Go.Operand.tmp 206) 3, type := 3, pos := "ref.go:53", after := #[{ on := 14, ground := Go.Ground.data }], guard := none }) (v := ?_) rfl (by kernel_rfl) (by kernel_rfl) (by kernel_rfl) (fun _ _ _ h => HPN _ _ _ _ _ h) (Or.inl ⟨by rfl, ?_⟩) (by assumption) ?_
  rotate_left
  focus ((intro w hSw; (try dsimp only at hSw); clear hSw; go_simp) <;> (with_reducible rfl))
  try simp only [Act.put, List.setIfInBounds_toArray, List.set_cons_zero, List.set_cons_succ]
  refine wpAnyH_take (i := 16) (oi := { dst := some 208, op := Go.Op.fieldAddr 41 (Go.Operand.tmp 15) 4, type := 0, pos := "ref.go:53", after := #[], guard := none }) (v := ?_) rfl (by kernel_rfl) (by kernel_rfl) (by kernel_rfl) (fun _ _ _ h => HPN _ _ _ _ _ h) (Or.inl ⟨by rfl, ?_⟩) (by assumption) ?_
  rotate_left
  focus ((intro w hSw; (try dsimp only at hSw); clear hSw; go_simp) <;> (with_reducible rfl))
  try simp only [Act.put, List.setIfInBounds_toArray, List.set_cons_zero, List.set_cons_succ]
  refine wpAnyH_take (i := 17) (oi := { dst := some 209, op := Go.Op.load 4 (Go.Operand.tmp 208), type := 4, pos := "ref.go:53", after := #[{ on := 16, ground := Go.Ground.data }], guard := none }) (v := ?_) rfl (by kernel_rfl) (by kernel_rfl) (by kernel_rfl) (fun _ _ _ h => HPN _ _ _ _ _ h) (Or.inl ⟨by rfl, ?_⟩) (by assumption) ?_
  rotate_left
  focus ((intro w hSw; (try dsimp only at hSw); obtain ⟨x0, x1, x2, x3, x4, x5, x6, x7, x8, x9, x10⟩ := cells_11 (lies_below HP.out hSw (lies_lt HP.out)); clear hSw; go_simp) <;> (with_reducible rfl))
  try simp only [Act.put, List.setIfInBounds_toArray, List.set_cons_zero, List.set_cons_succ]
  refine wpAnyH_take (i := 20) (oi := { dst := some 212, op := Go.Op.fieldAddr 41 (Go.Operand.tmp 15) 6, type := 0, pos := "ref.go:53", after := #[], guard := none }) (v := ?_) rfl (by kernel_rfl) (by kernel_rfl) (by kernel_rfl) (fun _ _ _ h => HPN _ _ _ _ _ h) (Or.inl ⟨by rfl, ?_⟩) (by assumption) ?_
  rotate_left
  focus ((intro w hSw; (try dsimp only at hSw); clear hSw; go_simp) <;> (with_reducible rfl))
  try simp only [Act.put, List.setIfInBounds_toArray, List.set_cons_zero, List.set_cons_succ]
  refine wpAnyH_take (i := 21) (oi := { dst := some 213, op := Go.Op.load 3 (Go.Operand.tmp 212), type := 3, pos := "ref.go:53", after := #[{ on := 20, ground := Go.Ground.data }], guard := none }) (v := ?_) rfl (by kernel_rfl) (by kernel_rfl) (by kernel_rfl) (fun _ _ _ h => HPN _ _ _ _ _ h) (Or.inl ⟨by rfl, ?_⟩) (by assumption) ?_
  rotate_left
  focus ((intro w hSw; (try dsimp only at hSw); obtain ⟨x0, x1, x2, x3, x4, x5, x6, x7, x8, x9, x10⟩ := cells_11 (lies_below HP.out hSw (lies_lt HP.out)); clear hSw; go_simp) <;> (with_reducible rfl))
  try simp only [Act.put, List.setIfInBounds_toArray, List.set_cons_zero, List.set_cons_succ]
  refine wpAnyH_take (i := 25) (oi := { dst := some 217, op := Go.Op.fieldAddr 41 (Go.Operand.tmp 15) 5, type := 0, pos := "ref.go:53", after := #[], guard := none }) (v := ?_) rfl (by kernel_rfl) (by kernel_rfl) (by kernel_rfl) (fun _ _ _ h => HPN _ _ _ _ _ h) (Or.inl ⟨by rfl, ?_⟩) (by assumption) ?_
  rotate_left
  focus ((intro w hSw; (try dsimp only at hSw); clear hSw; go_simp) <;> (with_reducible rfl))
  try simp only [Act.put, List.setIfInBounds_toArray, List.set_cons_zero, List.set_cons_succ]
  refine wpAnyH_take (i := 26) (oi := { dst := some 218, op := Go.Op.load 3 (Go.Operand.tmp 217), type := 3, pos := "ref.go:53", after := #[{ on := 25, ground := Go.Ground.data }], guard := none }) (v := ?_) rfl (by kernel_rfl) (by kernel_rfl) (by kernel_rfl) (fun _ _ _ h => HPN _ _ _ _ _ h) (Or.inl ⟨by rfl, ?_⟩) (by assumption) ?_
  rotate_left
  focus ((intro w hSw; (try dsimp only at hSw); obtain ⟨x0, x1, x2, x3, x4, x5, x6, x7, x8, x9, x10⟩ := cells_11 (lies_below HP.out hSw (lies_lt HP.out)); clear hSw; go_simp) <;> (with_reducible rfl))
  try simp only [Act.put, List.setIfInBounds_toArray, List.set_cons_zero, List.set_cons_succ]
  refine wpAnyH_take (i := 29) (oi := { dst := some 221, op := Go.Op.fieldAddr 41 (Go.Operand.tmp 15) 7, type := 0, pos := "ref.go:53", after := #[], guard := none }) (v := ?_) rfl (by kernel_rfl) (by kernel_rfl) (by kernel_rfl) (fun _ _ _ h => HPN _ _ _ _ _ h) (Or.inl ⟨by rfl, ?_⟩) (by assumption) ?_
  rotate_left
  focus ((intro w hSw; (try dsimp only at hSw); clear hSw; go_simp) <;> (with_reducible rfl))
  try simp only [Act.put, List.setIfInBounds_toArray, List.set_cons_zero, List.set_cons_succ]
  refine wpAnyH_take (i := 30) (oi := { dst := some 222, op := Go.Op.load 3 (Go.Operand.tmp 221), type := 3, pos := "ref.go:53", after := #[{ on := 29, ground := Go.Ground.data }], guard := none }) (v := ?_) rfl (by kernel_rfl) (by kernel_rfl) (by kernel_rfl) (fun _ _ _ h => HPN _ _ _ _ _ h) (Or.inl ⟨by rfl, ?_⟩) (by assumption) ?_
  rotate_left
  focus ((intro w hSw; (try dsimp only at hSw); obtain ⟨x0, x1, x2, x3, x4, x5, x6, x7, x8, x9, x10⟩ := cells_11 (lies_below HP.out hSw (lies_lt HP.out)); clear hSw; go_simp) <;> (with_reducible rfl))
  try simp only [Act.put, List.setIfInBounds_toArray, List.set_cons_zero, List.set_cons_succ]
  refine wpAnyH_take (i := 33) (oi := { dst := some 225, op := Go.Op.fieldAddr 41 (Go.Operand.tmp 15) 8, type := 0, pos := "ref.go:53", after := #[], guard := none }) (v := ?_) rfl (by kernel_rfl) (by kernel_rfl) (by kernel_rfl) (fun _ _ _ h => HPN _ _ _ _ _ h) (Or.inl ⟨by rfl, ?_⟩) (by assumption) ?_
  rotate_left
  focus ((intro w hSw; (try dsimp only at hSw); clear hSw; go_simp) <;> (with_reducible rfl))
  try simp only [Act.put, List.setIfInBounds_toArray, List.set_cons_zero, List.set_cons_succ]
  refine wpAnyH_take (i := 34) (oi := { dst := some 226, op := Go.Op.load 3 (Go.Operand.tmp 225), type := 3, pos := "ref.go:53", after := #[{ on := 33, ground := Go.Ground.data }], guard := none }) (v := ?_) rfl (by kernel_rfl) (by kernel_rfl) (by kernel_rfl) (fun _ _ _ h => HPN _ _ _ _ _ h) (Or.inl ⟨by rfl, ?_⟩) (by assumption) ?_
  rotate_left
  focus ((intro w hSw; (try dsimp only at hSw); obtain ⟨x0, x1, x2, x3, x4, x5, x6, x7, x8, x9, x10⟩ := cells_11 (lies_below HP.out hSw (lies_lt HP.out)); clear hSw; go_simp) <;> (with_reducible rfl))
  try simp only [Act.put, List.setIfInBounds_toArray, List.set_cons_zero, List.set_cons_succ]
  refine wpAnyH_take (i := 37) (oi := { dst := some 229, op := Go.Op.fieldAddr 41 (Go.Operand.tmp 15) 9, type := 0, pos := "ref.go:53", after := #[], guard := none }) (v := ?_) rfl (by kernel_rfl) (by kernel_rfl) (by kernel_rfl) (fun _ _ _ h => HPN _ _ _ _ _ h) (Or.inl ⟨by rfl, ?_⟩) (by assumption) ?_
  rotate_left
  focus ((intro w hSw; (try dsimp only at hSw); clear hSw; go_simp) <;> (with_reducible rfl))
  try simp only [Act.put, List.setIfInBounds_toArray, List.set_cons_zero, List.set_cons_succ]
  refine wpAnyH_take (i := 38) (oi := { dst := some 230, op := Go.Op.load 3 (Go.Operand.tmp 229), type := 3, pos := "ref.go:53", after := #[{ on := 37, ground := Go.Ground.data }], guard := none }) (v := ?_) rfl (by kernel_rfl) (by kernel_rfl) (by kernel_rfl) (fun _ _ _ h => HPN _ _ _ _ _ h) (Or.inl ⟨by rfl, ?_⟩) (by assumption) ?_
  rotate_left
  focus ((intro w hSw; (try dsimp only at hSw); obtain ⟨x0, x1, x2, x3, x4, x5, x6, x7, x8, x9, x10⟩ := cells_11 (lies_below HP.out hSw (lies_lt HP.out)); clear hSw; go_simp) <;> (with_reducible rfl))
  try simp only [Act.put, List.setIfInBounds_toArray, List.set_cons_zero, List.set_cons_succ]
  refine wpAnyH_take (i := 41) (oi := { dst := some 233, op := Go.Op.fieldAddr 41 (Go.Operand.tmp 15) 10, type := 0, pos := "ref.go:53", after := #[], guard := none }) (v := ?_) rfl (by kernel_rfl) (by kernel_rfl) (by kernel_rfl) (fun _ _ _ h => HPN _ _ _ _ _ h) (Or.inl ⟨by rfl, ?_⟩) (by assumption) ?_
  rotate_left
  focus ((intro w hSw; (try dsimp only at hSw); clear hSw; go_simp) <;> (with_reducible rfl))
  try simp only [Act.put, List.setIfInBounds_toArray, List.set_cons_zero, List.set_cons_succ]
  refine wpAnyH_take (i := 42) (oi := { dst := some 234, op := Go.Op.load 3 (Go.Operand.tmp 233), type := 3, pos := "ref.go:53", after := #[{ on := 41, ground := Go.Ground.data }], guard := none }) (v := ?_) rfl (by kernel_rfl) (by kernel_rfl) (by kernel_rfl) (fun _ _ _ h => HPN _ _ _ _ _ h) (Or.inl ⟨by rfl, ?_⟩) (by assumption) ?_
  rotate_left
  focus ((intro w hSw; (try dsimp only at hSw); obtain ⟨x0, x1, x2, x3, x4, x5, x6, x7, x8, x9, x10⟩ := cells_11 (lies_below HP.out hSw (lies_lt HP.out)); clear hSw; go_simp) <;> (with_reducible rfl))
  try simp only [Act.put, List.setIfInBounds_toArray, List.set_cons_zero, List.set_cons_succ]
  refine wpAnyH_ready (rs := [3]) (by kernel_rfl) (by simp) ?_
  refine AllReadyH.cons (o := { dst := some 195, op := Go.Op.call { callee := Go.Callee.value (Go.Operand.func 16), args := #[Go.Operand.tmp 194], argTypes := #[3] }, type := 9, pos := "ref.go:53", after := #[{ on := 2, ground := Go.Ground.data }], guard := none }) rfl (fun K hK => ?_) AllReadyH.nil
  go_simp
  (go_at_call 16; (with_reducible refine (H0.out _).mono ?_); rintro e V0 ⟨rfl, hb⟩; go_wp2_with fail)
  have Brenc340 : Hid (Below W.heap.size W V0) := (show Below W.heap.size W W.drew from (Below.refl _ W).drew).trans (hb.mono (show Below W.heap.size W W.drew from (Below.refl _ W).drew).size)
  clear hb
  refine hK.out _ _ ?_ (fun hHeld => ?_)
  · exact Brenc340.out
  clear hK K
  try simp only [Act.put, List.setIfInBounds_toArray, List.set_cons_zero, List.set_cons_succ]
  refine wpAnyH_take (i := 4) (oi := { dst := some 196, op := Go.Op.binOp Go.BinOp.add 9 (Go.Operand.tmp 192) (Go.Operand.tmp 195) 9, type := 9, pos := "ref.go:53", after := #[{ on := 0, ground := Go.Ground.data }, { on := 3, ground := Go.Ground.data }], guard := none }) (v := ?_) rfl (by kernel_rfl) (by kernel_rfl) (by kernel_rfl) (fun _ _ _ h => HPN _ _ _ _ _ h) (Or.inl ⟨by rfl, ?_⟩) (by assumption) ?_
  rotate_left
  focus ((intro w hSw; (try dsimp only at hSw); clear hSw; go_simp) <;> (with_reducible rfl))
  try simp only [Act.put, List.setIfInBounds_toArray, List.set_cons_zero, List.set_cons_succ]
  refine wpAnyH_ready (rs := [7]) (by kernel_rfl) (by simp) ?_
  refine AllReadyH.cons (o := { dst := some 199, op := Go.Op.call { callee := Go.Callee.value (Go.Operand.func 15), args := #[Go.Operand.tmp 198], argTypes := #[3] }, type := 9, pos := "ref.go:53", after := #[{ on := 6, ground := Go.Ground.data }, { on := 3, ground := Go.Ground.chain }], guard := none }) rfl (fun K hK => ?_) AllReadyH.nil
  go_simp
  (go_at_call 15; (with_reducible refine (H1.out _).mono ?_); rintro e V1 ⟨rfl, hb⟩; go_wp2_with fail)
  have Brenc341 : Hid (Below W.heap.size W V1) := Brenc340.out.trans (hb.mono Brenc340.out.size)
  clear hb
  refine hK.out _ _ ?_ (fun hHeld => ?_)
  · exact Brenc341.out
  clear hK K
  try simp only [Act.put, List.setIfInBounds_toArray, List.set_cons_zero, List.set_cons_succ]
  refine wpAnyH_take (i := 8) (oi := { dst := some 200, op := Go.Op.binOp Go.BinOp.add 9 (Go.Operand.tmp 196) (Go.Operand.tmp 199) 9, type := 9, pos := "ref.go:53", after := #[{ on := 4, ground := Go.Ground.data }, { on := 7, ground := Go.Ground.data }], guard := none }) (v := ?_) rfl (by kernel_rfl) (by kernel_rfl) (by kernel_rfl) (fun _ _ _ h => HPN _ _ _ _ _ h) (Or.inl ⟨by rfl, ?_⟩) (by assumption) ?_
  rotate_left
  focus ((intro w hSw; (try dsimp only at hSw); clear hSw; go_simp) <;> (with_reducible rfl))
  try simp only [Act.put, List.setIfInBounds_toArray, List.set_cons_zero, List.set_cons_succ]
  refine wpAnyH_ready (rs := [11]) (by kernel_rfl) (by simp) ?_
  refine AllReadyH.cons (o := { dst := some 203, op := Go.Op.call { callee := Go.Callee.value (Go.Operand.func 15), args := #[Go.Operand.tmp 202], argTypes := #[3] }, type := 9, pos := "ref.go:53", after := #[{ on := 10, ground := Go.Ground.data }, { on := 7, ground := Go.Ground.chain }], guard := none }) rfl (fun K hK => ?_) AllReadyH.nil
  go_simp
  (go_at_call 15; (with_reducible refine (H2.out _).mono ?_); rintro e V2 ⟨rfl, hb⟩; go_wp2_with fail)
  have Brenc342 : Hid (Below W.heap.size W V2) := Brenc341.out.trans (hb.mono Brenc341.out.size)
  clear hb
  refine hK.out _ _ ?_ (fun hHeld => ?_)
  · exact Brenc342.out
  clear hK K
  try simp only [Act.put, List.setIfInBounds_toArray, List.set_cons_zero, List.set_cons_succ]
  refine wpAnyH_take (i := 12) (oi := { dst := some 204, op := Go.Op.binOp Go.BinOp.add 9 (Go.Operand.tmp 200) (Go.Operand.tmp 203) 9, type := 9, pos := "ref.go:53", after := #[{ on := 8, ground := Go.Ground.data }, { on := 11, ground := Go.Ground.data }], guard := none }) (v := ?_) rfl (by kernel_rfl) (by kernel_rfl) (by kernel_rfl) (fun _ _ _ h => HPN _ _ _ _ _ h) (Or.inl ⟨by rfl, ?_⟩) (by assumption) ?_
  rotate_left
  focus ((intro w hSw; (try dsimp only at hSw); clear hSw; go_simp) <;> (with_reducible rfl))
  try simp only [Act.put, List.setIfInBounds_toArray, List.set_cons_zero, List.set_cons_succ]
  refine wpAnyH_ready (rs := [18]) (by kernel_rfl) (by simp) ?_
  refine AllReadyH.cons (o := { dst := some 210, op := Go.Op.call { callee := Go.Callee.value (Go.Operand.func 18), args := #[Go.Operand.tmp 209, Go.Operand.const (Go.Value.int Go.IntKind.i64 32)], argTypes := #[4, 3] }, type := 3, pos := "ref.go:53", after := #[{ on := 17, ground := Go.Ground.data }, { on := 11, ground := Go.Ground.chain }], guard := none }) rfl (fun K hK => ?_) AllReadyH.nil
  go_simp
  (go_at_call 18; (with_reducible refine (H3.out _).mono ?_); rintro e V3 ⟨rfl, hb⟩; go_wp2_with fail)
  have Brenc343 : Hid (Below W.heap.size W V3) := Brenc342.out.trans (hb.mono Brenc342.out.size)
  clear hb
  refine hK.out _ _ ?_ (fun hHeld => ?_)
  · exact Brenc343.out
  clear hK K
  try simp only [Act.put, List.setIfInBounds_toArray, List.set_cons_zero, List.set_cons_succ]
  refine wpAnyH_take (i := 19) (oi := { dst := some 211, op := Go.Op.binOp Go.BinOp.add 3 (Go.Operand.tmp 207) (Go.Operand.tmp 210) 3, type := 3, pos := "ref.go:53", after := #[{ on := 15, ground := Go.Ground.data }, { on := 18, ground := Go.Ground.data }], guard := none }) (v := ?_) rfl (by kernel_rfl) (by kernel_rfl) (by kernel_rfl) (fun _ _ _ h => HPN _ _ _ _ _ h) (Or.inl ⟨by rfl, ?_⟩) (by assumption) ?_
  rotate_left
  focus ((intro w hSw; (try dsimp only at hSw); clear hSw; go_simp) <;> (with_reducible rfl))
  try simp only [Act.put, List.setIfInBounds_toArray, List.set_cons_zero, List.set_cons_succ]
  refine wpAnyH_take (i := 22) (oi := { dst := some 214, op := Go.Op.binOp Go.BinOp.add 3 (Go.Operand.tmp 211) (Go.Operand.tmp 213) 3, type := 3, pos := "ref.go:53", after := #[{ on := 19, ground := Go.Ground.data }, { on := 21, ground := Go.Ground.data }], guard := none }) (v := ?_) rfl (by kernel_rfl) (by kernel_rfl) (by kernel_rfl) (fun _ _ _ h => HPN _ _ _ _ _ h) (Or.inl ⟨by rfl, ?_⟩) (by assumption) ?_
  rotate_left
  focus ((intro w hSw; (try dsimp only at hSw); clear hSw; go_simp) <;> (with_reducible rfl))
  try simp only [Act.put, List.setIfInBounds_toArray, List.set_cons_zero, List.set_cons_succ]
  refine wpAnyH_ready (rs := [23]) (by kernel_rfl) (by simp) ?_
  refine AllReadyH.cons (o := { dst := some 215, op := Go.Op.call { callee := Go.Callee.value (Go.Operand.func 17), args := #[Go.Operand.tmp 214, Go.Operand.const (Go.Value.int Go.IntKind.i64 1)], argTypes := #[3, 3] }, type := 9, pos := "ref.go:53", after := #[{ on := 22, ground := Go.Ground.data }, { on := 18, ground := Go.Ground.chain }], guard := none }) rfl (fun K hK => ?_) AllReadyH.nil
  go_simp
  (go_at_call 17; (with_reducible refine (H4.out _).mono ?_); rintro e V4 ⟨rfl, hb⟩; go_wp2_with fail)
  have Brenc344 : Hid (Below W.heap.size W V4) := Brenc343.out.trans (hb.mono Brenc343.out.size)
  clear hb
  refine hK.out _ _ ?_ (fun hHeld => ?_)
  · exact Brenc344.out
  clear hK K
  try simp only [Act.put, List.setIfInBounds_toArray, List.set_cons_zero, List.set_cons_succ]
  refine wpAnyH_take (i := 24) (oi := { dst := some 216, op := Go.Op.binOp Go.BinOp.add 9 (Go.Operand.tmp 204) (Go.Operand.tmp 215) 9, type := 9, pos := "ref.go:53", after := #[{ on := 12, ground := Go.Ground.data }, { on := 23, ground := Go.Ground.data }], guard := none }) (v := ?_) rfl (by kernel_rfl) (by kernel_rfl) (by kernel_rfl) (fun _ _ _ h => HPN _ _ _ _ _ h) (Or.inl ⟨by rfl, ?_⟩) (by assumption) ?_
  rotate_left
  focus ((intro w hSw; (try dsimp only at hSw); clear hSw; go_simp) <;> (with_reducible rfl))
  try simp only [Act.put, List.setIfInBounds_toArray, List.set_cons_zero, List.set_cons_succ]
  refine wpAnyH_ready (rs := [27]) (by kernel_rfl) (by simp) ?_
  refine AllReadyH.cons (o := { dst := some 219, op := Go.Op.call { callee := Go.Callee.value (Go.Operand.func 15), args := #[Go.Operand.tmp 218], argTypes := #[3] }, type := 9, pos := "ref.go:53", after := #[{ on := 26, ground := Go.Ground.data }, { on := 23, ground := Go.Ground.chain }], guard := none }) rfl (fun K hK => ?_) AllReadyH.nil
  go_simp
  (go_at_call 15; (with_reducible refine (H5.out _).mono ?_); rintro e V5 ⟨rfl, hb⟩; go_wp2_with fail)
  have Brenc345 : Hid (Below W.heap.size W V5) := Brenc344.out.trans (hb.mono Brenc344.out.size)
  clear hb
  refine hK.out _ _ ?_ (fun hHeld => ?_)
  · exact Brenc345.out
  clear hK K
  try simp only [Act.put, List.setIfInBounds_toArray, List.set_cons_zero, List.set_cons_succ]
  refine wpAnyH_take (i := 28) (oi := { dst := some 220, op := Go.Op.binOp Go.BinOp.add 9 (Go.Operand.tmp 216) (Go.Operand.tmp 219) 9, type := 9, pos := "ref.go:53", after := #[{ on := 24, ground := Go.Ground.data }, { on := 27, ground := Go.Ground.data }], guard := none }) (v := ?_) rfl (by kernel_rfl) (by kernel_rfl) (by kernel_rfl) (fun _ _ _ h => HPN _ _ _ _ _ h) (Or.inl ⟨by rfl, ?_⟩) (by assumption) ?_
  rotate_left
  focus ((intro w hSw; (try dsimp only at hSw); clear hSw; go_simp) <;> (with_reducible rfl))
  try simp only [Act.put, List.setIfInBounds_toArray, List.set_cons_zero, List.set_cons_succ]
  refine wpAnyH_ready (rs := [31]) (by kernel_rfl) (by simp) ?_
  refine AllReadyH.cons (o := { dst := some 223, op := Go.Op.call { callee := Go.Callee.value (Go.Operand.func 15), args := #[Go.Operand.tmp 222], argTypes := #[3] }, type := 9, pos := "ref.go:53", after := #[{ on := 30, ground := Go.Ground.data }, { on := 27, ground := Go.Ground.chain }], guard := none }) rfl (fun K hK => ?_) AllReadyH.nil
  go_simp
  (go_at_call 15; (with_reducible refine (H6.out _).mono ?_); rintro e V6 ⟨rfl, hb⟩; go_wp2_with fail)
  have Brenc346 : Hid (Below W.heap.size W V6) := Brenc345.out.trans (hb.mono Brenc345.out.size)
  clear hb
  refine hK.out _ _ ?_ (fun hHeld => ?_)
  · exact Brenc346.out
  clear hK K
  try simp only [Act.put, List.setIfInBounds_toArray, List.set_cons_zero, List.set_cons_succ]
  refine wpAnyH_take (i := 32) (oi := { dst := some 224, op := Go.Op.binOp Go.BinOp.add 9 (Go.Operand.tmp 220) (Go.Operand.tmp 223) 9, type := 9, pos := "ref.go:53", after := #[{ on := 28, ground := Go.Ground.data }, { on := 31, ground := Go.Ground.data }], guard := none }) (v := ?_) rfl (by kernel_rfl) (by kernel_rfl) (by kernel_rfl) (fun _ _ _ h => HPN _ _ _ _ _ h) (Or.inl ⟨by rfl, ?_⟩) (by assumption) ?_
  rotate_left
  focus ((intro w hSw; (try dsimp only at hSw); clear hSw; go_simp) <;> (with_reducible rfl))
  try simp only [Act.put, List.setIfInBounds_toArray, List.set_cons_zero, List.set_cons_succ]
  refine wpAnyH_ready (rs := [35]) (by kernel_rfl) (by simp) ?_
  refine AllReadyH.cons (o := { dst := some 227, op := Go.Op.call { callee := Go.Callee.value (Go.Operand.func 15), args := #[Go.Operand.tmp 226], argTypes := #[3] }, type := 9, pos := "ref.go:53", after := #[{ on := 34, ground := Go.Ground.data }, { on := 31, ground := Go.Ground.chain }], guard := none }) rfl (fun K hK => ?_) AllReadyH.nil
  go_simp
  (go_at_call 15; (with_reducible refine (H7.out _).mono ?_); rintro e V7 ⟨rfl, hb⟩; go_wp2_with fail)
  have Brenc347 : Hid (Below W.heap.size W V7) := Brenc346.out.trans (hb.mono Brenc346.out.size)
  clear hb
  refine hK.out _ _ ?_ (fun hHeld => ?_)
  · exact Brenc347.out
  clear hK K
  try simp only [Act.put, List.setIfInBounds_toArray, List.set_cons_zero, List.set_cons_succ]
  refine wpAnyH_take (i := 36) (oi := { dst := some 228, op := Go.Op.binOp Go.BinOp.add 9 (Go.Operand.tmp 224) (Go.Operand.tmp 227) 9, type := 9, pos := "ref.go:53", after := #[{ on := 32, ground := Go.Ground.data }, { on := 35, ground := Go.Ground.data }], guard := none }) (v := ?_) rfl (by kernel_rfl) (by kernel_rfl) (by kernel_rfl) (fun _ _ _ h => HPN _ _ _ _ _ h) (Or.inl ⟨by rfl, ?_⟩) (by assumption) ?_
  rotate_left
  focus ((intro w hSw; (try dsimp only at hSw); clear hSw; go_simp) <;> (with_reducible rfl))
  try simp only [Act.put, List.setIfInBounds_toArray, List.set_cons_zero, List.set_cons_succ]
  refine wpAnyH_ready (rs := [39]) (by kernel_rfl) (by simp) ?_
  refine AllReadyH.cons (o := { dst := some 231, op := Go.Op.call { callee := Go.Callee.value (Go.Operand.func 15), args := #[Go.Operand.tmp 230], argTypes := #[3] }, type := 9, pos := "ref.go:53", after := #[{ on := 38, ground := Go.Ground.data }, { on := 35, ground := Go.Ground.chain }], guard := none }) rfl (fun K hK => ?_) AllReadyH.nil
  go_simp
  (go_at_call 15; (with_reducible refine (H8.out _).mono ?_); rintro e V8 ⟨rfl, hb⟩; go_wp2_with fail)
  have Brenc348 : Hid (Below W.heap.size W V8) := Brenc347.out.trans (hb.mono Brenc347.out.size)
  clear hb
  refine hK.out _ _ ?_ (fun hHeld => ?_)
  · exact Brenc348.out
  clear hK K
  try simp only [Act.put, List.setIfInBounds_toArray, List.set_cons_zero, List.set_cons_succ]
  refine wpAnyH_take (i := 40) (oi := { dst := some 232, op := Go.Op.binOp Go.BinOp.add 9 (Go.Operand.tmp 228) (Go.Operand.tmp 231) 9, type := 9, pos := "ref.go:53", after := #[{ on := 36, ground := Go.Ground.data }, { on := 39, ground := Go.Ground.data }], guard := none }) (v := ?_) rfl (by kernel_rfl) (by kernel_rfl) (by kernel_rfl) (fun _ _ _ h => HPN _ _ _ _ _ h) (Or.inl ⟨by rfl, ?_⟩) (by assumption) ?_
  rotate_left
  focus ((intro w hSw; (try dsimp only at hSw); clear hSw; go_simp) <;> (with_reducible rfl))
  try simp only [Act.put, List.setIfInBounds_toArray, List.set_cons_zero, List.set_cons_succ]
  refine wpAnyH_ready (rs := [43]) (by kernel_rfl) (by simp) ?_
  refine AllReadyH.cons (o := { dst := some 235, op := Go.Op.call { callee := Go.Callee.value (Go.Operand.func 17), args := #[Go.Operand.tmp 234, Go.Operand.const (Go.Value.int Go.IntKind.i64 8)], argTypes := #[3, 3] }, type := 9, pos := "ref.go:53", after := #[{ on := 42, ground := Go.Ground.data }, { on := 39, ground := Go.Ground.chain }], guard := none }) rfl (fun K hK => ?_) AllReadyH.nil
  go_simp
  (go_at_call 17; (with_reducible refine (H9.out _).mono ?_); rintro e V9 ⟨rfl, hb⟩; go_wp2_with fail)
  have Brenc349 : Hid (Below W.heap.size W V9) := Brenc348.out.trans (hb.mono Brenc348.out.size)
  clear hb
  refine hK.out _ _ ?_ (fun hHeld => ?_)
  · exact Brenc349.out
  clear hK K
  try simp only [Act.put, List.setIfInBounds_toArray, List.set_cons_zero, List.set_cons_succ]
  refine wpAnyH_take (i := 44) (oi := { dst := some 236, op := Go.Op.binOp Go.BinOp.add 9 (Go.Operand.tmp 232) (Go.Operand.tmp 235) 9, type := 9, pos := "ref.go:53", after := #[{ on := 40, ground := Go.Ground.data }, { on := 43, ground := Go.Ground.data }], guard := none }) (v := ?_) rfl (by kernel_rfl) (by kernel_rfl) (by kernel_rfl) (fun _ _ _ h => HPN _ _ _ _ _ h) (Or.inl ⟨by rfl, ?_⟩) (by assumption) ?_
  rotate_left
  focus ((intro w hSw; (try dsimp only at hSw); clear hSw; go_simp) <;> (with_reducible rfl))
  try simp only [Act.put, List.setIfInBounds_toArray, List.set_cons_zero, List.set_cons_succ]
  refine wpAnyH_take (i := 45) (oi := { dst := some 8, op := Go.Op.assign (Go.Operand.tmp 236), type := 9, pos := "ref.go:53", after := #[{ on := 44, ground := Go.Ground.data }, { on := 43, ground := Go.Ground.chain }, { on := 0, ground := Go.Ground.phase }, { on := 1, ground := Go.Ground.phase }, { on := 2, ground := Go.Ground.phase }, { on := 3, ground := Go.Ground.phase }, { on := 4, ground := Go.Ground.phase }, { on := 5, ground := Go.Ground.phase }, { on := 6, ground := Go.Ground.phase }, { on := 7, ground := Go.Ground.phase }, { on := 8, ground := Go.Ground.phase }, { on := 9, ground := Go.Ground.phase }, { on := 10, ground := Go.Ground.phase }, { on := 11, ground := Go.Ground.phase }, { on := 12, ground := Go.Ground.phase }, { on := 13, ground := Go.Ground.phase }, { on := 14, ground := Go.Ground.phase }, { on := 15, ground := Go.Ground.phase }, { on := 16, ground := Go.Ground.phase }, { on := 17, ground := Go.Ground.phase }, { on := 18, ground := Go.Ground.phase }, { on := 19, ground := Go.Ground.phase }, { on := 20, ground := Go.Ground.phase }, { on := 21, ground := Go.Ground.phase }, { on := 22, ground := Go.Ground.phase }, { on := 23, ground := Go.Ground.phase }, { on := 24, ground := Go.Ground.phase }, { on := 25, ground := Go.Ground.phase }, { on := 26, ground := Go.Ground.phase }, { on := 27, ground := Go.Ground.phase }, { on := 28, ground := Go.Ground.phase }, { on := 29, ground := Go.Ground.phase }, { on := 30, ground := Go.Ground.phase }, { on := 31, ground := Go.Ground.phase }, { on := 32, ground := Go.Ground.phase }, { on := 33, ground := Go.Ground.phase }, { on := 34, ground := Go.Ground.phase }, { on := 35, ground := Go.Ground.phase }, { on := 36, ground := Go.Ground.phase }, { on := 37, ground := Go.Ground.phase }, { on := 38, ground := Go.Ground.phase }, { on := 39, ground := Go.Ground.phase }, { on := 40, ground := Go.Ground.phase }, { on := 41, ground := Go.Ground.phase }, { on := 42, ground := Go.Ground.phase }, { on := 43, ground := Go.Ground.phase }, { on := 44, ground := Go.Ground.phase }], guard := none }) (v := ?_) rfl (by kernel_rfl) (by kernel_rfl) (by kernel_rfl) (fun _ _ _ h => HPN _ _ _ _ _ h) (Or.inl ⟨by rfl, ?_⟩) (by assumption) ?_
  rotate_left
  focus ((intro w hSw; (try dsimp only at hSw); clear hSw; go_simp) <;> (with_reducible rfl))
  try simp only [Act.put, List.setIfInBounds_toArray, List.set_cons_zero, List.set_cons_succ]
  refine wpAnyH_done (by kernel_rfl) ?_ _
  clear hHeld
  exact hQ _ Brenc349.out _ _ _ _ _ _ _ _ _ _ _ _ _ _ _ _ _ _ _ _ _ _ _ _ _ _ _ _ _ _ _ _ _ _ _ _ _ _ _ _ _ _ _ _ _
end Go.Proofs.Ytdphapjeohkbjaa.Im
