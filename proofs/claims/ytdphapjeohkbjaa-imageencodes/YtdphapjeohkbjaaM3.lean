/- Merged: Xa, Xb, Xc, Xd. -/
import Derived.Test.YtdphapjeohkbjaaM1
import Derived.Test.YtdphapjeohkbjaaM2
import Derived.Handy
import Derived.Deep.RegionHeld3
import Derived.Deep.CutRange
set_option linter.unusedVariables false
/- The program's Writer where all fits: Text, U16, U32, Bits; a list of numbers. -/
set_option maxRecDepth 100000
set_option linter.unusedVariables false
namespace Go.Proofs.Ytdphapjeohkbjaa.Im
open Go.RowKit

theorem grown_below {w w' : World} {b B : Nat} (h : w.grownBy w' (some b)) (hb : B ≤ b) (hB : B ≤ w.heap.size) : Below B w w' :=
  ⟨h.os, h.tape, h.output, h.size, fun k hk => h.block k (by omega) (by simp; omega)⟩

theorem fits_B {m : Nat} (hm : m = 1 ∨ m = 2 ∨ m = 4) {v : Int} (h : PitotImg.fits m v) : Bi.fitsB v (8 * (m : Int)) = true := by
  obtain ⟨h1, h2⟩ := h
  have e : ((8 * (m : Int)).toNat) = 8 * m := by omega
  unfold Bi.fitsB
  rw [e]
  rcases hm with rfl | rfl | rfl
  · exact decide_eq_true ⟨h1, by simpa using h2⟩
  · exact decide_eq_true ⟨h1, by simpa using h2⟩
  · exact decide_eq_true ⟨h1, by simpa using h2⟩
theorem put_fit {m : Nat} (hm : m = 1 ∨ m = 2 ∨ m = 4) {v : Int} (h : PitotImg.fits m v) (l : List UInt8) : Bi.putStep (some l) m v = some (l ++ PitotImg.w m v) := by
  unfold Bi.putStep
  rw [if_pos (fits_B hm h)]
  rfl
theorem u16_fit (b n : Nat) (l : List UInt8) (v : Int) (w : World) (h : Bi.WrAt w b n (some l)) (hf : PitotImg.fits 2 v) (hll : l.length ≤ 900000) :
    Calls Try.prog 29 #[.pointer (some ⟨b, 0, none⟩), .int .i64 v] w fun e w' => e = .returned (.tuple #[]) ∧ Bi.WrAt w' b (n + 1) (some (l ++ PitotImg.w 2 v)) ∧ w.grownBy w' (some b) := by
  have h1 := Bi.u16_any b n (some l) v w h (fun l' e => by cases e; exact hll)
  rw [put_fit (by simp) hf] at h1
  exact h1
theorem u32_fit (b n : Nat) (l : List UInt8) (v : Int) (w : World) (h : Bi.WrAt w b n (some l)) (hf : PitotImg.fits 4 v) (hll : l.length ≤ 900000) :
    Calls Try.prog 31 #[.pointer (some ⟨b, 0, none⟩), .int .i64 v] w fun e w' => e = .returned (.tuple #[]) ∧ Bi.WrAt w' b (n + 1) (some (l ++ PitotImg.w 4 v)) ∧ w.grownBy w' (some b) := by
  have h1 := Bi.u32_any b n (some l) v w h (fun l' e => by cases e; exact hll)
  rw [put_fit (by simp) hf] at h1
  exact h1
theorem bits_431 (x y z : Int) (l : List UInt8) (hx : 0 ≤ x ∧ x ≤ 15) (hy : 0 ≤ y ∧ y ≤ 1) (hz : 0 ≤ z ∧ z ≤ 7) : Bi.bitsStep (some l) [4, 1, 3] [x, y, z] = some (l ++ PitotImg.w 1 (16 * x + 8 * y + z)) := by
  have e1 : Bi.fitsB x 4 = true := decide_eq_true (show 0 ≤ x ∧ x < (16 : Int) by omega)
  have e2 : Bi.fitsB y 1 = true := decide_eq_true (show 0 ≤ y ∧ y < (2 : Int) by omega)
  have e3 : Bi.fitsB z 3 = true := decide_eq_true (show 0 ≤ z ∧ z < (8 : Int) by omega)
  have e4 : Bi.togRes [4, 1, 3] = (1, true) := rfl
  have e5 : ((0 * 2 ^ (4 : Int).toNat + x.toNat) * 2 ^ (1 : Int).toNat + y.toNat) * 2 ^ (3 : Int).toNat + z.toNat = (16 * x + 8 * y + z).toNat := by
    show ((0 * 16 + x.toNat) * 2 + y.toNat) * 8 + z.toNat = _
    omega
  simp only [Bi.bitsStep, Bi.bitsOf, e4, Bi.packGo, e1, e2, e3, if_true, List.length_cons, List.length_nil, and_self, Option.map_some, Option.bind_some]
  rw [e5]
  rfl
theorem bits_215 (x y z : Int) (l : List UInt8) (hx : 0 ≤ x ∧ x ≤ 3) (hy : 0 ≤ y ∧ y ≤ 1) (hz : 0 ≤ z ∧ z ≤ 31) : Bi.bitsStep (some l) [2, 1, 5] [x, y, z] = some (l ++ PitotImg.w 1 (64 * x + 32 * y + z)) := by
  have e1 : Bi.fitsB x 2 = true := decide_eq_true (show 0 ≤ x ∧ x < (4 : Int) by omega)
  have e2 : Bi.fitsB y 1 = true := decide_eq_true (show 0 ≤ y ∧ y < (2 : Int) by omega)
  have e3 : Bi.fitsB z 5 = true := decide_eq_true (show 0 ≤ z ∧ z < (32 : Int) by omega)
  have e4 : Bi.togRes [2, 1, 5] = (1, true) := rfl
  have e5 : ((0 * 2 ^ (2 : Int).toNat + x.toNat) * 2 ^ (1 : Int).toNat + y.toNat) * 2 ^ (5 : Int).toNat + z.toNat = (64 * x + 32 * y + z).toNat := by
    show ((0 * 4 + x.toNat) * 2 + y.toNat) * 32 + z.toNat = _
    omega
  simp only [Bi.bitsStep, Bi.bitsOf, e4, Bi.packGo, e1, e2, e3, if_true, List.length_cons, List.length_nil, and_self, Option.map_some, Option.bind_some]
  rw [e5]
  rfl
set_option maxHeartbeats 2000000 in
theorem list_u16 (b n : Nat) (l : List UInt8) (A : Option Addr) (m cap : Nat) (xs : List Int) (W0 w : World) (hW : Bi.WrAt w b n (some l)) (hx : IntsAt W0 A xs) (hB : Below W0.heap.size W0 w) (hb : W0.heap.size ≤ b) (hall : ∀ x ∈ xs, PitotImg.fits 2 x) (hm : xs.length = m) (hlen : m < 65536) (hll : l.length + 2 + 2 * m ≤ 900000) :
    Calls Try.prog 30 #[.pointer (some ⟨b, 0, none⟩), .slice A m cap, .func (.func 29) #[.pointer (some ⟨b, 0, none⟩)] #[]] w fun e w' => e = .returned (.tuple #[]) ∧ Bi.WrAt w' b (n + 1 + m) (some (l ++ PitotImg.manyW (PitotImg.w 2) xs)) ∧ w.grownBy w' (some b) := by
  have HU := Lib.hid (fun (n : Nat) (l : List UInt8) (v : Int) (w : World) (h : Bi.WrAt w b n (some l)) (hf : PitotImg.fits 2 v) (hll : l.length ≤ 900000) => u16_fit b n l v w h hf hll)
  have HW := Lib.hid hW
  have HX := Lib.hid hx
  have HB := Lib.hid hB
  have HA := Lib.hid hall
  have HM := Lib.hid hm
  have hf0 : PitotImg.fits 2 (m : Int) := ⟨by omega, by show (m : Int) < 65536; omega⟩
  have HF0 := Lib.hid hf0
  clear hW hx hB hall hm hf0
  go_enter Try.func30, Try.ntmps30
  go_wp2_with (go_at_call 29; (with_reducible refine (HU.out n l (m : Int) _ HW.out HF0.out (by omega)).mono ?_); rintro e w1 ⟨rfl, hw1, hg1⟩)
  have HW1 : Hid (Bi.WrAt w1 b (n + 1) (some (l ++ PitotImg.w 2 (m : Int)))) := hw1
  have HG1 := Lib.hid hg1
  clear hw1 hg1 HW
  have fl : ∀ k, k ≤ m → (xs.take k).length = k := fun k hk => by rw [List.length_take, HM.out]; omega
  have wl : ∀ k, k ≤ m → ((xs.take k).flatMap (PitotImg.w 2)).length = 2 * k := fun k hk => by
    rw [List.length_flatMap]
    have : ((xs.take k).map fun a => (PitotImg.w 2 a).length) = List.replicate k 2 := by
      rw [List.eq_replicate_iff]
      exact ⟨by simp [HM.out]; omega, fun x hx => by obtain ⟨y, _, rfl⟩ := List.mem_map.1 hx; exact PitotImg.w_length 2 y⟩
    rw [this]; simp [Nat.mul_comm]
  have FL := Lib.hid wl
  clear wl fl
  go_loopw [14] (fun v14 wr => ∃ k : Nat, k ≤ m ∧ v14 = .int .i64 k ∧ Hid (Bi.WrAt wr b (n + 1 + k) (some (l ++ PitotImg.w 2 (m : Int) ++ (xs.take k).flatMap (PitotImg.w 2)))) ∧ Hid (w.grownBy wr (some b))) (fun v14 _ => m - (intOf v14).toNat)
  case atStart => exact ⟨0, Nat.zero_le _, rfl, by have h := HW1.out; show Bi.WrAt _ _ _ _; simpa using h, HG1⟩
  case round =>
    obtain ⟨k, hk, rfl, ht, hG⟩ := hrel
    by_cases hkm : k < m
    · have hkl : k < xs.length := by rw [HM.out]; exact hkm
      have e1 : decide ((k : Int) < (m : Int)) = true := decide_eq_true (by omega)
      have e1' : decide (k < m) = true := decide_eq_true hkm
      obtain ⟨b', off, rfl, hb', hat⟩ := HX.out.get hkl
      have hbl : Below W0.heap.size w wr := grown_below hG.out hb HB.out.size
      have hat : wr.cell? ⟨b', off + k, none⟩ = some (.int .i64 xs[k]) := (hbl.cell hb').trans ((HB.out.cell hb').trans hat)
      have hfx := Lib.hid (HA.out _ (List.getElem_mem hkl))
      have hs : (xs.take (k + 1)).flatMap (PitotImg.w 2) = (xs.take k).flatMap (PitotImg.w 2) ++ PitotImg.w 2 xs[k] := by
        rw [List.take_succ_eq_append_getElem hkl, List.flatMap_append]; simp
      have HS := Lib.hid hs
      have hlk := FL.out k hk
      clear hs hbl
      generalize xs[k] = x at hat hfx HS
      have hq : (l ++ PitotImg.w 2 (m : Int) ++ (xs.take k).flatMap (PitotImg.w 2)).length ≤ 900000 := by
        rw [List.length_append, List.length_append, hlk, PitotImg.w_length]; omega
      have HC := Lib.hid (HU.out _ _ x wr ht.out hfx.out hq)
      clear hlk hq ht
      go_wp2_with (go_at_call 29; (with_reducible refine (HC.out).mono ?_); rintro e w2 ⟨rfl, hw2, hg2⟩)
      have HW2 : Hid (Bi.WrAt w2 b (n + 1 + (k + 1)) (some (l ++ PitotImg.w 2 (m : Int) ++ (xs.take (k + 1)).flatMap (PitotImg.w 2)))) := by
        show Bi.WrAt _ _ _ _
        rw [HS.out, ← List.append_assoc]; exact hw2
      have HG2 := Lib.hid (Bi.grown_trans hG.out hg2)
      clear hw2 hg2
      go_roundw
      case rel => exact ⟨k + 1, by omega, by go_num, HW2, HG2⟩
      case measure => simp [intOf]; omega
    · have e1 : decide ((k : Int) < (m : Int)) = false := decide_eq_false (by omega)
      have e1' : decide (k < m) = false := decide_eq_false hkm
      obtain rfl : k = m := by omega
      go_wp2
      go_returns
      refine ⟨rfl, ?_, hG.out⟩
      have h := ht.out
      rw [List.take_of_length_le (by rw [HM.out]; exact Nat.le_refl _)] at h
      rw [PitotImg.manyW, HM.out, ← List.append_assoc]
      exact h
end Go.Proofs.Ytdphapjeohkbjaa.Im
/- The program writes a window; numbers of one byte. -/
set_option maxRecDepth 100000
set_option linter.unusedVariables false
namespace Go.Proofs.Ytdphapjeohkbjaa.Im
open Go.RowKit

theorem lies_grown {w w' : World} {g b : Nat} {cs : Array Value} {t : TypeId} (h : w.heap[g]? = some (.cells cs t)) (hg : w.grownBy w' (some b)) (hne : g ≠ b) : w'.heap[g]? = some (.cells cs t) :=
  (hg.block g (lies_lt h) (by simpa using hne)).trans h
theorem linkWide_any (w : World) : Calls Try.prog 58 #[] w fun e w' => (∃ k, e = .returned (.slice (some ⟨k, 0, none⟩) 3 3) ∧ w.heap.size ≤ k ∧ w'.heap[k]? = some (.cells #[.int .i64 4, .int .i64 1, .int .i64 3] 3)) ∧ Below w.heap.size w w' := by
  have H := Lib.hid (heap_alloc_new w (.cells #[.int .i64 4, .int .i64 1, .int .i64 3] 3))
  go_enter Try.func58, Try.ntmps58
  go_wp2
  go_returns
  exact ⟨⟨_, rfl, Nat.le_refl _, H.out⟩, (Below.refl _ w).alloc (Nat.le_refl _) _⟩
theorem portWide_any (w : World) : Calls Try.prog 60 #[] w fun e w' => (∃ k, e = .returned (.slice (some ⟨k, 0, none⟩) 3 3) ∧ w.heap.size ≤ k ∧ w'.heap[k]? = some (.cells #[.int .i64 2, .int .i64 1, .int .i64 5] 3)) ∧ Below w.heap.size w w' := by
  have H := Lib.hid (heap_alloc_new w (.cells #[.int .i64 2, .int .i64 1, .int .i64 5] 3))
  go_enter Try.func60, Try.ntmps60
  go_wp2
  go_returns
  exact ⟨⟨_, rfl, Nat.le_refl _, H.out⟩, (Below.refl _ w).alloc (Nat.le_refl _) _⟩
/-- A bool as a bit. -/
def bitOf (h : Bool) : Int := if h = true then 1 else 0
theorem bit_any (h : Bool) (w : World) : Calls Try.prog 59 #[.bool h] w fun e w' => e = .returned (.int .i64 (bitOf h)) ∧ w = w' := by
  cases h
  · go_enter Try.func59, Try.ntmps59
    go_wp2
    go_returns
    exact ⟨rfl, rfl⟩
  · go_enter Try.func59, Try.ntmps59
    go_wp2
    go_returns
    exact ⟨rfl, rfl⟩
theorem ints_three {w : World} {x y z : Int} {k : Nat} {t : TypeId} (hk : w.heap[k]? = some (.cells #[.int .i64 x, .int .i64 y, .int .i64 z] t)) : Bi.IntsAt w (some ⟨k, 0, none⟩) [x, y, z] := by
  intro _
  refine ⟨k, 0, rfl, lies_lt hk, fun i hi => ?_⟩
  have hi : i < 3 := by simpa using hi
  match i, hi with
  | 0, _ => exact lies_cell hk 0
  | 1, _ => exact lies_cell hk 1
  | 2, _ => exact lies_cell hk 2
theorem bits3_any (b n : Nat) (l l2 : List UInt8) (p q : Nat) (x0 x1 x2 y0 y1 y2 : Int) (t1 t2 : TypeId) (w : World) (h : Bi.WrAt w b n (some l)) (hp : w.heap[p]? = some (.cells #[.int .i64 x0, .int .i64 x1, .int .i64 x2] t1)) (hq : w.heap[q]? = some (.cells #[.int .i64 y0, .int .i64 y1, .int .i64 y2] t2)) (hst : Bi.bitsStep (some l) [x0, x1, x2] [y0, y1, y2] = some l2) (hll : l.length ≤ 900000) :
    Calls Try.prog 57 #[.pointer (some ⟨b, 0, none⟩), .slice (some ⟨p, 0, none⟩) 3 3, .slice (some ⟨q, 0, none⟩) 3 3] w fun e w' => e = .returned (.tuple #[]) ∧ Bi.WrAt w' b (n + 1) (some l2) ∧ w.grownBy w' (some b) := by
  have h1 := Bi.bits_any b n (some l) (some ⟨p, 0, none⟩) (some ⟨q, 0, none⟩) 3 3 [x0, x1, x2] [y0, y1, y2] w h (ints_three hp) (ints_three hq) (by simp) (fun l' e => by cases e; exact hll)
  rw [hst] at h1
  exact h1
theorem lies_drew {w : World} {g : Nat} {o : Obj} (h : w.heap[g]? = some o) : w.drew.heap[g]? = some o := h
theorem wr_drew {w : World} {b n : Nat} {st : Option (List UInt8)} (h : Bi.WrAt w b n st) : Bi.WrAt w.drew b n st := h.keep fun _ _ => rfl
theorem grown_drewR {a w : World} {r : Option Nat} (h : a.grownBy w r) : a.grownBy w.drew r := ⟨h.os, h.tape, h.output, h.size, h.block⟩
set_option maxHeartbeats 4000000 in
theorem vl_byte {W : World} {b vb n : Nat} {l : List UInt8} {vid vhost vbag vsmax vsubs vskew : Int} {vhigh : Bool} {tA : Option Addr} {tl tc : Nat} (HW : Hid (Bi.WrAt W b n (some l))) (HV : Hid (W.heap[vb]? = some (.cells #[.int .i64 vid, .int .i64 vhost, .int .i64 vbag, .int .i64 vsmax, .bool vhigh, .int .i64 vsubs, .int .i64 vskew, .slice tA tl tc] 34))) (HNE : Hid (vb ≠ b)) (HBL : Hid (b < W.heap.size)) (HLW : Hid (∀ w, Calls Try.prog 58 #[] w fun e w' => (∃ k, e = .returned (.slice (some ⟨k, 0, none⟩) 3 3) ∧ w.heap.size ≤ k ∧ w'.heap[k]? = some (.cells #[.int .i64 4, .int .i64 1, .int .i64 3] 3)) ∧ Below w.heap.size w w')) (HBT : Hid (∀ w, Calls Try.prog 59 #[.bool vhigh] w fun e w' => e = .returned (.int .i64 (bitOf vhigh)) ∧ w = w')) (HST : Hid (Bi.bitsStep (some l) [4, 1, 3] [vbag, bitOf vhigh, vsubs] = some (l ++ PitotImg.w 1 (16 * vbag + 8 * bitOf vhigh + vsubs)))) (HLL : Hid (l.length ≤ 900000)) {u1 u2 u4 u5 u6 u7 u8 u9 u10 u11 u12 u13 u14 u15 u16 u17 u18 u19 u20 u21 u22 u23 u24 u25 u26 u27 u28 u29 u30 u31 u32 u33 u34 u35 u36 : Value} {Q : Exit → Act → World → Prop} (HPN : ∀ (p : List PanicEntry) (a : Act) (dd : Nat) (vv : Value) (w : World), Q (.panic p) (a.put (some dd) vv) w → Q (.panic p) a w) (hQ : ∀ (wc : World), Bi.WrAt wc b (n + 1) (some (l ++ PitotImg.w 1 (16 * vbag + 8 * bitOf vhigh + vsubs))) → W.grownBy wc (some b) → ∀ x12 x13 x14 x15 x16 x17 x18 x19 x20 x21 x22 : Value, Q .normal ⟨#[.pointer (some ⟨b, 0, none⟩), u1, u2, .pointer (some ⟨vb, 0, none⟩), u4, u5, u6, u7, u8, u9, u10, u11, x12, x13, x14, x15, x16, x17, x18, x19, x20, x21, x22, u23, u24, u25, u26, u27, u28, u29, u30, u31, u32, u33, u34, u35, u36], []⟩ wc) :
    Code.wp Try.prog (Code.region 3 #[{ dst := some 12, op := Go.Op.move (Go.Operand.tmp 0), type := 43, pos := "write.go:36", after := #[], guard := none }, { dst := some 13, op := Go.Op.call { callee := Go.Callee.value (Go.Operand.func 58), args := #[], argTypes := #[] }, type := 22, pos := "write.go:36", after := #[], guard := none }, { dst := some 14, op := Go.Op.fieldAddr 34 (Go.Operand.tmp 3) 2, type := 0, pos := "write.go:36", after := #[], guard := none }, { dst := some 15, op := Go.Op.load 3 (Go.Operand.tmp 14), type := 3, pos := "write.go:36", after := #[{ on := 2, ground := Go.Ground.data }], guard := none }, { dst := some 16, op := Go.Op.fieldAddr 34 (Go.Operand.tmp 3) 4, type := 0, pos := "write.go:36", after := #[], guard := none }, { dst := some 17, op := Go.Op.load 4 (Go.Operand.tmp 16), type := 4, pos := "write.go:36", after := #[{ on := 4, ground := Go.Ground.data }], guard := none }, { dst := some 18, op := Go.Op.call { callee := Go.Callee.value (Go.Operand.func 59), args := #[Go.Operand.tmp 17], argTypes := #[4] }, type := 3, pos := "write.go:36", after := #[{ on := 5, ground := Go.Ground.data }, { on := 1, ground := Go.Ground.chain }], guard := none }, { dst := some 19, op := Go.Op.fieldAddr 34 (Go.Operand.tmp 3) 5, type := 0, pos := "write.go:36", after := #[], guard := none }, { dst := some 20, op := Go.Op.load 3 (Go.Operand.tmp 19), type := 3, pos := "write.go:36", after := #[{ on := 7, ground := Go.Ground.data }], guard := none }, { dst := some 21, op := Go.Op.buildSlice 22 3 #[(0, Go.Operand.tmp 15), (1, Go.Operand.tmp 18), (2, Go.Operand.tmp 20)], type := 22, pos := "write.go:36", after := #[{ on := 3, ground := Go.Ground.data }, { on := 6, ground := Go.Ground.data }, { on := 8, ground := Go.Ground.data }], guard := none }, { dst := some 22, op := Go.Op.call { callee := Go.Callee.value (Go.Operand.func 57), args := #[Go.Operand.tmp 12, Go.Operand.tmp 13, Go.Operand.tmp 21], argTypes := #[43, 22, 22] }, type := 0, pos := "write.go:36", after := #[{ on := 0, ground := Go.Ground.data }, { on := 1, ground := Go.Ground.data }, { on := 9, ground := Go.Ground.data }, { on := 6, ground := Go.Ground.chain }], guard := none }] true) Q ⟨#[.pointer (some ⟨b, 0, none⟩), u1, u2, .pointer (some ⟨vb, 0, none⟩), u4, u5, u6, u7, u8, u9, u10, u11, u12, u13, u14, u15, u16, u17, u18, u19, u20, u21, u22, u23, u24, u25, u26, u27, u28, u29, u30, u31, u32, u33, u34, u35, u36], []⟩ W := by
  refine wp_region_held_drew (S := fun w' => W.grownBy w' (some b)) (by kernel_rfl) ?_ (fun hHeld => ?_)
  · exact grown_drewR (World.grownBy.refl W _)
  refine wpAnyH_take (i := 0) (oi := { dst := some 12, op := Go.Op.move (Go.Operand.tmp 0), type := 43, pos := "write.go:36", after := #[], guard := none }) (v := ?_) rfl (by kernel_rfl) (by kernel_rfl) (by kernel_rfl) (fun _ _ _ h => HPN _ _ _ _ _ h) (Or.inl ⟨by rfl, ?_⟩) (by assumption) ?_
  rotate_left
  focus ((intro w hSw; (try dsimp only at hSw); clear hSw; go_simp) <;> (with_reducible rfl))
  try simp only [Act.put, List.setIfInBounds_toArray, List.set_cons_zero, List.set_cons_succ]
  refine wpAnyH_take (i := 2) (oi := { dst := some 14, op := Go.Op.fieldAddr 34 (Go.Operand.tmp 3) 2, type := 0, pos := "write.go:36", after := #[], guard := none }) (v := ?_) rfl (by kernel_rfl) (by kernel_rfl) (by kernel_rfl) (fun _ _ _ h => HPN _ _ _ _ _ h) (Or.inl ⟨by rfl, ?_⟩) (by assumption) ?_
  rotate_left
  focus ((intro w hSw; (try dsimp only at hSw); clear hSw; go_simp) <;> (with_reducible rfl))
  try simp only [Act.put, List.setIfInBounds_toArray, List.set_cons_zero, List.set_cons_succ]
  refine wpAnyH_take (i := 3) (oi := { dst := some 15, op := Go.Op.load 3 (Go.Operand.tmp 14), type := 3, pos := "write.go:36", after := #[{ on := 2, ground := Go.Ground.data }], guard := none }) (v := ?_) rfl (by kernel_rfl) (by kernel_rfl) (by kernel_rfl) (fun _ _ _ h => HPN _ _ _ _ _ h) (Or.inl ⟨by rfl, ?_⟩) (by assumption) ?_
  rotate_left
  focus ((intro w hSw; (try dsimp only at hSw); obtain ⟨x0, x1, x2, x3, x4, x5, x6, x7⟩ := cells_8 (lies_grown HV.out hSw HNE.out); clear hSw; go_simp) <;> (with_reducible rfl))
  try simp only [Act.put, List.setIfInBounds_toArray, List.set_cons_zero, List.set_cons_succ]
  refine wpAnyH_take (i := 4) (oi := { dst := some 16, op := Go.Op.fieldAddr 34 (Go.Operand.tmp 3) 4, type := 0, pos := "write.go:36", after := #[], guard := none }) (v := ?_) rfl (by kernel_rfl) (by kernel_rfl) (by kernel_rfl) (fun _ _ _ h => HPN _ _ _ _ _ h) (Or.inl ⟨by rfl, ?_⟩) (by assumption) ?_
  rotate_left
  focus ((intro w hSw; (try dsimp only at hSw); clear hSw; go_simp) <;> (with_reducible rfl))
  try simp only [Act.put, List.setIfInBounds_toArray, List.set_cons_zero, List.set_cons_succ]
  refine wpAnyH_take (i := 5) (oi := { dst := some 17, op := Go.Op.load 4 (Go.Operand.tmp 16), type := 4, pos := "write.go:36", after := #[{ on := 4, ground := Go.Ground.data }], guard := none }) (v := ?_) rfl (by kernel_rfl) (by kernel_rfl) (by kernel_rfl) (fun _ _ _ h => HPN _ _ _ _ _ h) (Or.inl ⟨by rfl, ?_⟩) (by assumption) ?_
  rotate_left
  focus ((intro w hSw; (try dsimp only at hSw); obtain ⟨x0, x1, x2, x3, x4, x5, x6, x7⟩ := cells_8 (lies_grown HV.out hSw HNE.out); clear hSw; go_simp) <;> (with_reducible rfl))
  try simp only [Act.put, List.setIfInBounds_toArray, List.set_cons_zero, List.set_cons_succ]
  refine wpAnyH_take (i := 7) (oi := { dst := some 19, op := Go.Op.fieldAddr 34 (Go.Operand.tmp 3) 5, type := 0, pos := "write.go:36", after := #[], guard := none }) (v := ?_) rfl (by kernel_rfl) (by kernel_rfl) (by kernel_rfl) (fun _ _ _ h => HPN _ _ _ _ _ h) (Or.inl ⟨by rfl, ?_⟩) (by assumption) ?_
  rotate_left
  focus ((intro w hSw; (try dsimp only at hSw); clear hSw; go_simp) <;> (with_reducible rfl))
  try simp only [Act.put, List.setIfInBounds_toArray, List.set_cons_zero, List.set_cons_succ]
  refine wpAnyH_take (i := 8) (oi := { dst := some 20, op := Go.Op.load 3 (Go.Operand.tmp 19), type := 3, pos := "write.go:36", after := #[{ on := 7, ground := Go.Ground.data }], guard := none }) (v := ?_) rfl (by kernel_rfl) (by kernel_rfl) (by kernel_rfl) (fun _ _ _ h => HPN _ _ _ _ _ h) (Or.inl ⟨by rfl, ?_⟩) (by assumption) ?_
  rotate_left
  focus ((intro w hSw; (try dsimp only at hSw); obtain ⟨x0, x1, x2, x3, x4, x5, x6, x7⟩ := cells_8 (lies_grown HV.out hSw HNE.out); clear hSw; go_simp) <;> (with_reducible rfl))
  try simp only [Act.put, List.setIfInBounds_toArray, List.set_cons_zero, List.set_cons_succ]
  refine wpAnyH_ready (rs := [1]) (by kernel_rfl) (by simp) ?_
  refine AllReadyH.cons (o := { dst := some 13, op := Go.Op.call { callee := Go.Callee.value (Go.Operand.func 58), args := #[], argTypes := #[] }, type := 22, pos := "write.go:36", after := #[], guard := none }) rfl (fun K hK => ?_) AllReadyH.nil
  go_simp
  (go_at_call 58; (with_reducible refine (HLW.out _).mono ?_); rintro e Va ⟨⟨p, rfl, hp1, hp2⟩, hb⟩; go_wp2_with fail)
  have GA : Hid (W.grownBy Va (some b)) := Bi.grown_trans (grown_drewR (World.grownBy.refl W _)) (Bi.grown_of_below hb)
  have HPP := Lib.hid hp2
  have hpb : b < p := Nat.lt_of_lt_of_le HBL.out hp1
  have HWA : Hid (Bi.WrAt Va b n (some l)) := (wr_drew HW.out).below hb
  clear hp1 hp2 hb
  refine hK.out _ _ ?_ (fun hHeld => ?_)
  · exact GA.out
  clear hK K
  try simp only [Act.put, List.setIfInBounds_toArray, List.set_cons_zero, List.set_cons_succ]
  refine wpAnyH_ready (rs := [6]) (by kernel_rfl) (by simp) ?_
  refine AllReadyH.cons (o := { dst := some 18, op := Go.Op.call { callee := Go.Callee.value (Go.Operand.func 59), args := #[Go.Operand.tmp 17], argTypes := #[4] }, type := 3, pos := "write.go:36", after := #[{ on := 5, ground := Go.Ground.data }, { on := 1, ground := Go.Ground.chain }], guard := none }) rfl (fun K hK => ?_) AllReadyH.nil
  go_simp
  (go_at_call 59; (with_reducible refine (HBT.out _).mono ?_); rintro e Vb ⟨rfl, hb⟩; go_wp2_with fail)
  subst hb
  refine hK.out _ _ ?_ (fun hHeld => ?_)
  · exact GA.out
  clear hK K
  try simp only [Act.put, List.setIfInBounds_toArray, List.set_cons_zero, List.set_cons_succ]
  refine wpAnyH_ready (rs := [9]) (by kernel_rfl) (by simp) ?_
  refine AllReadyH.cons (o := { dst := some 21, op := Go.Op.buildSlice 22 3 #[(0, Go.Operand.tmp 15), (1, Go.Operand.tmp 18), (2, Go.Operand.tmp 20)], type := 22, pos := "write.go:36", after := #[{ on := 3, ground := Go.Ground.data }, { on := 6, ground := Go.Ground.data }, { on := 8, ground := Go.Ground.data }], guard := none }) rfl (fun K hK => ?_) AllReadyH.nil
  go_simp
  have GB : Hid (W.grownBy (Va.alloc (.cells #[.int .i64 vbag, .int .i64 (bitOf vhigh), .int .i64 vsubs] 3)) (some b)) := Bi.grown_trans GA.out (Bi.grown_alloc _)
  have HQQ : Hid ((Va.alloc (.cells #[.int .i64 vbag, .int .i64 (bitOf vhigh), .int .i64 vsubs] 3)).heap[Va.heap.size]? = some (.cells #[.int .i64 vbag, .int .i64 (bitOf vhigh), .int .i64 vsubs] 3)) := heap_alloc_new Va _
  have HPB : Hid ((Va.alloc (.cells #[.int .i64 vbag, .int .i64 (bitOf vhigh), .int .i64 vsubs] 3)).heap[p]? = some (.cells #[.int .i64 4, .int .i64 1, .int .i64 3] 3)) := lies_alloc HPP.out _
  have HWB : Hid (Bi.WrAt (Va.alloc (.cells #[.int .i64 vbag, .int .i64 (bitOf vhigh), .int .i64 vsubs] 3)) b n (some l)) := HWA.out.below ((Below.refl _ Va).alloc (Nat.le_refl _) _)
  refine hK.out _ _ ?_ (fun hHeld => ?_)
  · exact GB.out
  clear hK K
  try simp only [Act.put, List.setIfInBounds_toArray, List.set_cons_zero, List.set_cons_succ]
  refine wpAnyH_ready (rs := [10]) (by kernel_rfl) (by simp) ?_
  refine AllReadyH.cons (o := { dst := some 22, op := Go.Op.call { callee := Go.Callee.value (Go.Operand.func 57), args := #[Go.Operand.tmp 12, Go.Operand.tmp 13, Go.Operand.tmp 21], argTypes := #[43, 22, 22] }, type := 0, pos := "write.go:36", after := #[{ on := 0, ground := Go.Ground.data }, { on := 1, ground := Go.Ground.data }, { on := 9, ground := Go.Ground.data }, { on := 6, ground := Go.Ground.chain }], guard := none }) rfl (fun K hK => ?_) AllReadyH.nil
  go_simp
  (go_at_call 57; (with_reducible refine (bits3_any b n l _ p Va.heap.size _ _ _ _ _ _ _ _ _ HWB.out HPB.out HQQ.out HST.out HLL.out).mono ?_); rintro e Vc ⟨rfl, hw, hg⟩; go_wp2_with fail)
  have GC : Hid (W.grownBy Vc (some b)) := Bi.grown_trans GB.out hg
  clear hg
  refine hK.out _ _ ?_ (fun hHeld => ?_)
  · exact GC.out
  clear hK K
  try simp only [Act.put, List.setIfInBounds_toArray, List.set_cons_zero, List.set_cons_succ]
  refine wpAnyH_done (by kernel_rfl) ?_ _
  clear hHeld
  exact hQ _ hw GC.out _ _ _ _ _ _ _ _ _ _ _

set_option maxHeartbeats 4000000 in
theorem prt_byte {W : World} {b vb n : Nat} {l : List UInt8} {qid qhost qpart qkind qvl qsub qudp qsize qdepth qfresh : Int} {qout : Bool} (HW : Hid (Bi.WrAt W b n (some l))) (HV : Hid (W.heap[vb]? = some (.cells #[.int .i64 qid, .int .i64 qhost, .int .i64 qpart, .int .i64 qkind, .bool qout, .int .i64 qvl, .int .i64 qsub, .int .i64 qudp, .int .i64 qsize, .int .i64 qdepth, .int .i64 qfresh] 41))) (HNE : Hid (vb ≠ b)) (HBL : Hid (b < W.heap.size)) (HLW : Hid (∀ w, Calls Try.prog 60 #[] w fun e w' => (∃ k, e = .returned (.slice (some ⟨k, 0, none⟩) 3 3) ∧ w.heap.size ≤ k ∧ w'.heap[k]? = some (.cells #[.int .i64 2, .int .i64 1, .int .i64 5] 3)) ∧ Below w.heap.size w w')) (HBT : Hid (∀ w, Calls Try.prog 59 #[.bool qout] w fun e w' => e = .returned (.int .i64 (bitOf qout)) ∧ w = w')) (HST : Hid (Bi.bitsStep (some l) [2, 1, 5] [qkind, bitOf qout, qsub] = some (l ++ PitotImg.w 1 (64 * qkind + 32 * bitOf qout + qsub)))) (HLL : Hid (l.length ≤ 900000)) {u1 u2 u4 u5 u6 u7 u8 u9 u10 u11 u12 u13 u14 u15 u16 u17 u18 u19 u20 u21 u22 u23 u24 u25 u26 u27 u28 u29 u30 u31 u32 u33 u34 u35 u36 u37 u38 u39 u40 u41 u42 u43 u44 u45 u46 u47 u48 u49 u50 u51 u52 : Value} {Q : Exit → Act → World → Prop} (HPN : ∀ (p : List PanicEntry) (a : Act) (dd : Nat) (vv : Value) (w : World), Q (.panic p) (a.put (some dd) vv) w → Q (.panic p) a w) (hQ : ∀ (wc : World), Bi.WrAt wc b (n + 1) (some (l ++ PitotImg.w 1 (64 * qkind + 32 * bitOf qout + qsub))) → W.grownBy wc (some b) → ∀ x16 x17 x18 x19 x20 x21 x22 x23 x24 x25 x26 : Value, Q .normal ⟨#[.pointer (some ⟨b, 0, none⟩), u1, u2, .pointer (some ⟨vb, 0, none⟩), u4, u5, u6, u7, u8, u9, u10, u11, u12, u13, u14, u15, x16, x17, x18, x19, x20, x21, x22, x23, x24, x25, x26, u27, u28, u29, u30, u31, u32, u33, u34, u35, u36, u37, u38, u39, u40, u41, u42, u43, u44, u45, u46, u47, u48, u49, u50, u51, u52], []⟩ wc) :
    Code.wp Try.prog (Code.region 4 #[{ dst := some 16, op := Go.Op.move (Go.Operand.tmp 0), type := 43, pos := "write.go:46", after := #[], guard := none }, { dst := some 17, op := Go.Op.call { callee := Go.Callee.value (Go.Operand.func 60), args := #[], argTypes := #[] }, type := 22, pos := "write.go:46", after := #[], guard := none }, { dst := some 18, op := Go.Op.fieldAddr 41 (Go.Operand.tmp 3) 3, type := 0, pos := "write.go:46", after := #[], guard := none }, { dst := some 19, op := Go.Op.load 3 (Go.Operand.tmp 18), type := 3, pos := "write.go:46", after := #[{ on := 2, ground := Go.Ground.data }], guard := none }, { dst := some 20, op := Go.Op.fieldAddr 41 (Go.Operand.tmp 3) 4, type := 0, pos := "write.go:46", after := #[], guard := none }, { dst := some 21, op := Go.Op.load 4 (Go.Operand.tmp 20), type := 4, pos := "write.go:46", after := #[{ on := 4, ground := Go.Ground.data }], guard := none }, { dst := some 22, op := Go.Op.call { callee := Go.Callee.value (Go.Operand.func 59), args := #[Go.Operand.tmp 21], argTypes := #[4] }, type := 3, pos := "write.go:46", after := #[{ on := 5, ground := Go.Ground.data }, { on := 1, ground := Go.Ground.chain }], guard := none }, { dst := some 23, op := Go.Op.fieldAddr 41 (Go.Operand.tmp 3) 6, type := 0, pos := "write.go:46", after := #[], guard := none }, { dst := some 24, op := Go.Op.load 3 (Go.Operand.tmp 23), type := 3, pos := "write.go:46", after := #[{ on := 7, ground := Go.Ground.data }], guard := none }, { dst := some 25, op := Go.Op.buildSlice 22 3 #[(0, Go.Operand.tmp 19), (1, Go.Operand.tmp 22), (2, Go.Operand.tmp 24)], type := 22, pos := "write.go:46", after := #[{ on := 3, ground := Go.Ground.data }, { on := 6, ground := Go.Ground.data }, { on := 8, ground := Go.Ground.data }], guard := none }, { dst := some 26, op := Go.Op.call { callee := Go.Callee.value (Go.Operand.func 57), args := #[Go.Operand.tmp 16, Go.Operand.tmp 17, Go.Operand.tmp 25], argTypes := #[43, 22, 22] }, type := 0, pos := "write.go:46", after := #[{ on := 0, ground := Go.Ground.data }, { on := 1, ground := Go.Ground.data }, { on := 9, ground := Go.Ground.data }, { on := 6, ground := Go.Ground.chain }], guard := none }] true) Q ⟨#[.pointer (some ⟨b, 0, none⟩), u1, u2, .pointer (some ⟨vb, 0, none⟩), u4, u5, u6, u7, u8, u9, u10, u11, u12, u13, u14, u15, u16, u17, u18, u19, u20, u21, u22, u23, u24, u25, u26, u27, u28, u29, u30, u31, u32, u33, u34, u35, u36, u37, u38, u39, u40, u41, u42, u43, u44, u45, u46, u47, u48, u49, u50, u51, u52], []⟩ W := by
  refine wp_region_held_drew (S := fun w' => W.grownBy w' (some b)) (by kernel_rfl) ?_ (fun hHeld => ?_)
  · exact grown_drewR (World.grownBy.refl W _)
  refine wpAnyH_take (i := 0) (oi := { dst := some 16, op := Go.Op.move (Go.Operand.tmp 0), type := 43, pos := "write.go:46", after := #[], guard := none }) (v := ?_) rfl (by kernel_rfl) (by kernel_rfl) (by kernel_rfl) (fun _ _ _ h => HPN _ _ _ _ _ h) (Or.inl ⟨by rfl, ?_⟩) (by assumption) ?_
  rotate_left
  focus ((intro w hSw; (try dsimp only at hSw); clear hSw; go_simp) <;> (with_reducible rfl))
  try simp only [Act.put, List.setIfInBounds_toArray, List.set_cons_zero, List.set_cons_succ]
  refine wpAnyH_take (i := 2) (oi := { dst := some 18, op := Go.Op.fieldAddr 41 (Go.Operand.tmp 3) 3, type := 0, pos := "write.go:46", after := #[], guard := none }) (v := ?_) rfl (by kernel_rfl) (by kernel_rfl) (by kernel_rfl) (fun _ _ _ h => HPN _ _ _ _ _ h) (Or.inl ⟨by rfl, ?_⟩) (by assumption) ?_
  rotate_left
  focus ((intro w hSw; (try dsimp only at hSw); clear hSw; go_simp) <;> (with_reducible rfl))
  try simp only [Act.put, List.setIfInBounds_toArray, List.set_cons_zero, List.set_cons_succ]
  refine wpAnyH_take (i := 3) (oi := { dst := some 19, op := Go.Op.load 3 (Go.Operand.tmp 18), type := 3, pos := "write.go:46", after := #[{ on := 2, ground := Go.Ground.data }], guard := none }) (v := ?_) rfl (by kernel_rfl) (by kernel_rfl) (by kernel_rfl) (fun _ _ _ h => HPN _ _ _ _ _ h) (Or.inl ⟨by rfl, ?_⟩) (by assumption) ?_
  rotate_left
  focus ((intro w hSw; (try dsimp only at hSw); obtain ⟨x0, x1, x2, x3, x4, x5, x6, x7, x8, x9, x10⟩ := cells_11 (lies_grown HV.out hSw HNE.out); clear hSw; go_simp) <;> (with_reducible rfl))
  try simp only [Act.put, List.setIfInBounds_toArray, List.set_cons_zero, List.set_cons_succ]
  refine wpAnyH_take (i := 4) (oi := { dst := some 20, op := Go.Op.fieldAddr 41 (Go.Operand.tmp 3) 4, type := 0, pos := "write.go:46", after := #[], guard := none }) (v := ?_) rfl (by kernel_rfl) (by kernel_rfl) (by kernel_rfl) (fun _ _ _ h => HPN _ _ _ _ _ h) (Or.inl ⟨by rfl, ?_⟩) (by assumption) ?_
  rotate_left
  focus ((intro w hSw; (try dsimp only at hSw); clear hSw; go_simp) <;> (with_reducible rfl))
  try simp only [Act.put, List.setIfInBounds_toArray, List.set_cons_zero, List.set_cons_succ]
  refine wpAnyH_take (i := 5) (oi := { dst := some 21, op := Go.Op.load 4 (Go.Operand.tmp 20), type := 4, pos := "write.go:46", after := #[{ on := 4, ground := Go.Ground.data }], guard := none }) (v := ?_) rfl (by kernel_rfl) (by kernel_rfl) (by kernel_rfl) (fun _ _ _ h => HPN _ _ _ _ _ h) (Or.inl ⟨by rfl, ?_⟩) (by assumption) ?_
  rotate_left
  focus ((intro w hSw; (try dsimp only at hSw); obtain ⟨x0, x1, x2, x3, x4, x5, x6, x7, x8, x9, x10⟩ := cells_11 (lies_grown HV.out hSw HNE.out); clear hSw; go_simp) <;> (with_reducible rfl))
  try simp only [Act.put, List.setIfInBounds_toArray, List.set_cons_zero, List.set_cons_succ]
  refine wpAnyH_take (i := 7) (oi := { dst := some 23, op := Go.Op.fieldAddr 41 (Go.Operand.tmp 3) 6, type := 0, pos := "write.go:46", after := #[], guard := none }) (v := ?_) rfl (by kernel_rfl) (by kernel_rfl) (by kernel_rfl) (fun _ _ _ h => HPN _ _ _ _ _ h) (Or.inl ⟨by rfl, ?_⟩) (by assumption) ?_
  rotate_left
  focus ((intro w hSw; (try dsimp only at hSw); clear hSw; go_simp) <;> (with_reducible rfl))
  try simp only [Act.put, List.setIfInBounds_toArray, List.set_cons_zero, List.set_cons_succ]
  refine wpAnyH_take (i := 8) (oi := { dst := some 24, op := Go.Op.load 3 (Go.Operand.tmp 23), type := 3, pos := "write.go:46", after := #[{ on := 7, ground := Go.Ground.data }], guard := none }) (v := ?_) rfl (by kernel_rfl) (by kernel_rfl) (by kernel_rfl) (fun _ _ _ h => HPN _ _ _ _ _ h) (Or.inl ⟨by rfl, ?_⟩) (by assumption) ?_
  rotate_left
  focus ((intro w hSw; (try dsimp only at hSw); obtain ⟨x0, x1, x2, x3, x4, x5, x6, x7, x8, x9, x10⟩ := cells_11 (lies_grown HV.out hSw HNE.out); clear hSw; go_simp) <;> (with_reducible rfl))
  try simp only [Act.put, List.setIfInBounds_toArray, List.set_cons_zero, List.set_cons_succ]
  refine wpAnyH_ready (rs := [1]) (by kernel_rfl) (by simp) ?_
  refine AllReadyH.cons (o := { dst := some 17, op := Go.Op.call { callee := Go.Callee.value (Go.Operand.func 60), args := #[], argTypes := #[] }, type := 22, pos := "write.go:46", after := #[], guard := none }) rfl (fun K hK => ?_) AllReadyH.nil
  go_simp
  (go_at_call 60; (with_reducible refine (HLW.out _).mono ?_); rintro e Va ⟨⟨p, rfl, hp1, hp2⟩, hb⟩; go_wp2_with fail)
  have GA : Hid (W.grownBy Va (some b)) := Bi.grown_trans (grown_drewR (World.grownBy.refl W _)) (Bi.grown_of_below hb)
  have HPP := Lib.hid hp2
  have hpb : b < p := Nat.lt_of_lt_of_le HBL.out hp1
  have HWA : Hid (Bi.WrAt Va b n (some l)) := (wr_drew HW.out).below hb
  clear hp1 hp2 hb
  refine hK.out _ _ ?_ (fun hHeld => ?_)
  · exact GA.out
  clear hK K
  try simp only [Act.put, List.setIfInBounds_toArray, List.set_cons_zero, List.set_cons_succ]
  refine wpAnyH_ready (rs := [6]) (by kernel_rfl) (by simp) ?_
  refine AllReadyH.cons (o := { dst := some 22, op := Go.Op.call { callee := Go.Callee.value (Go.Operand.func 59), args := #[Go.Operand.tmp 21], argTypes := #[4] }, type := 3, pos := "write.go:46", after := #[{ on := 5, ground := Go.Ground.data }, { on := 1, ground := Go.Ground.chain }], guard := none }) rfl (fun K hK => ?_) AllReadyH.nil
  go_simp
  (go_at_call 59; (with_reducible refine (HBT.out _).mono ?_); rintro e Vb ⟨rfl, hb⟩; go_wp2_with fail)
  subst hb
  refine hK.out _ _ ?_ (fun hHeld => ?_)
  · exact GA.out
  clear hK K
  try simp only [Act.put, List.setIfInBounds_toArray, List.set_cons_zero, List.set_cons_succ]
  refine wpAnyH_ready (rs := [9]) (by kernel_rfl) (by simp) ?_
  refine AllReadyH.cons (o := { dst := some 25, op := Go.Op.buildSlice 22 3 #[(0, Go.Operand.tmp 19), (1, Go.Operand.tmp 22), (2, Go.Operand.tmp 24)], type := 22, pos := "write.go:46", after := #[{ on := 3, ground := Go.Ground.data }, { on := 6, ground := Go.Ground.data }, { on := 8, ground := Go.Ground.data }], guard := none }) rfl (fun K hK => ?_) AllReadyH.nil
  go_simp
  have GB : Hid (W.grownBy (Va.alloc (.cells #[.int .i64 qkind, .int .i64 (bitOf qout), .int .i64 qsub] 3)) (some b)) := Bi.grown_trans GA.out (Bi.grown_alloc _)
  have HQQ : Hid ((Va.alloc (.cells #[.int .i64 qkind, .int .i64 (bitOf qout), .int .i64 qsub] 3)).heap[Va.heap.size]? = some (.cells #[.int .i64 qkind, .int .i64 (bitOf qout), .int .i64 qsub] 3)) := heap_alloc_new Va _
  have HPB : Hid ((Va.alloc (.cells #[.int .i64 qkind, .int .i64 (bitOf qout), .int .i64 qsub] 3)).heap[p]? = some (.cells #[.int .i64 2, .int .i64 1, .int .i64 5] 3)) := lies_alloc HPP.out _
  have HWB : Hid (Bi.WrAt (Va.alloc (.cells #[.int .i64 qkind, .int .i64 (bitOf qout), .int .i64 qsub] 3)) b n (some l)) := HWA.out.below ((Below.refl _ Va).alloc (Nat.le_refl _) _)
  refine hK.out _ _ ?_ (fun hHeld => ?_)
  · exact GB.out
  clear hK K
  try simp only [Act.put, List.setIfInBounds_toArray, List.set_cons_zero, List.set_cons_succ]
  refine wpAnyH_ready (rs := [10]) (by kernel_rfl) (by simp) ?_
  refine AllReadyH.cons (o := { dst := some 26, op := Go.Op.call { callee := Go.Callee.value (Go.Operand.func 57), args := #[Go.Operand.tmp 16, Go.Operand.tmp 17, Go.Operand.tmp 25], argTypes := #[43, 22, 22] }, type := 0, pos := "write.go:46", after := #[{ on := 0, ground := Go.Ground.data }, { on := 1, ground := Go.Ground.data }, { on := 9, ground := Go.Ground.data }, { on := 6, ground := Go.Ground.chain }], guard := none }) rfl (fun K hK => ?_) AllReadyH.nil
  go_simp
  (go_at_call 57; (with_reducible refine (bits3_any b n l _ p Va.heap.size _ _ _ _ _ _ _ _ _ HWB.out HPB.out HQQ.out HST.out HLL.out).mono ?_); rintro e Vc ⟨rfl, hw, hg⟩; go_wp2_with fail)
  have GC : Hid (W.grownBy Vc (some b)) := Bi.grown_trans GB.out hg
  clear hg
  refine hK.out _ _ ?_ (fun hHeld => ?_)
  · exact GC.out
  clear hK K
  try simp only [Act.put, List.setIfInBounds_toArray, List.set_cons_zero, List.set_cons_succ]
  refine wpAnyH_done (by kernel_rfl) ?_ _
  clear hHeld
  exact hQ _ hw GC.out _ _ _ _ _ _ _ _ _ _ _
end Go.Proofs.Ytdphapjeohkbjaa.Im
/- The program writes a window, a link, a port. -/
set_option maxRecDepth 100000
set_option linter.unusedVariables false
namespace Go.Proofs.Ytdphapjeohkbjaa.Im
open Go.RowKit

theorem wr_lt {w : World} {b n : Nat} {st : Option (List UInt8)} (h : Bi.WrAt w b n st) : b < w.heap.size := by
  match st, h with
  | none, h => exact lies_lt (w := w) h
  | some l, ⟨p, last, ts, hb, _⟩ => exact lies_lt hb
theorem vl_byte_eq (x : Vx) : 16 * x.bag + 8 * bitOf x.high + x.subs = PitotImg.vlByte x.pl := by
  unfold bitOf PitotImg.vlByte
  show 16 * x.bag + 8 * (if x.high = true then 1 else 0) + x.subs = 16 * x.bag + (if x.high = true then 8 else 0) + x.subs
  split <;> omega
theorem prt_byte_eq (x : Px) : 64 * x.kind + 32 * bitOf x.out + x.sub = PitotImg.prtByte x.pl := by
  unfold bitOf PitotImg.prtByte
  show 64 * x.kind + 32 * (if x.out = true then 1 else 0) + x.sub = 64 * x.kind + (if x.out = true then 32 else 0) + x.sub
  split <;> omega
theorem and_low (q : Int) : bits .and .i64 q 4294967295 = q % 4294967296 := by
  have h127 : (BitVec.ofInt 64 4294967295).toNat = 2 ^ 32 - 1 := by decide
  have key : (BitVec.ofInt 64 q &&& BitVec.ofInt 64 4294967295).toNat = (q % ((2 ^ 64 : Nat) : Int)).toNat % 2 ^ 32 := by
    rw [BitVec.toNat_and, BitVec.toNat_ofInt, h127, Nat.and_two_pow_sub_one_eq_mod]
  show IntKind.i64.wrap ((BitVec.ofInt 64 q &&& BitVec.ofInt 64 4294967295).toNat : Nat) = q % 4294967296
  rw [key, IntKind.wrap_i64]
  omega
theorem bitOf_le (h : Bool) : 0 ≤ bitOf h ∧ bitOf h ≤ 1 := by cases h <;> decide
set_option maxHeartbeats 2000000 in
theorem win_any (b n : Nat) (l : List UInt8) (wpart wbeg wlong : Int) (w : World) (hW : Bi.WrAt w b n (some l)) (hf : PitotImg.fits 2 wpart ∧ PitotImg.fits 4 wbeg ∧ PitotImg.fits 4 wlong) (hll : l.length ≤ 800000) :
    Calls Try.prog 34 #[.pointer (some ⟨b, 0, none⟩), .agg #[.int .i64 wpart, .int .i64 wbeg, .int .i64 wlong]] w fun e w' => e = .returned (.tuple #[]) ∧ Bi.WrAt w' b (n + 3) (some (l ++ PitotImg.winW ⟨wpart, wbeg, wlong⟩)) ∧ w.grownBy w' (some b) := by
  have HU := Lib.hid (fun (n : Nat) (l : List UInt8) (v : Int) (w : World) (h : Bi.WrAt w b n (some l)) (hf : PitotImg.fits 2 v) (hll : l.length ≤ 900000) => u16_fit b n l v w h hf hll)
  have HU4 := Lib.hid (fun (n : Nat) (l : List UInt8) (v : Int) (w : World) (h : Bi.WrAt w b n (some l)) (hf : PitotImg.fits 4 v) (hll : l.length ≤ 900000) => u32_fit b n l v w h hf hll)
  obtain ⟨hf1, hf2, hf3⟩ := hf
  have HF1 := Lib.hid hf1; have HF2 := Lib.hid hf2; have HF3 := Lib.hid hf3
  clear hf1 hf2 hf3
  have HW0 : Hid (Bi.WrAt (w.alloc (.cells #[.int .i64 wpart, .int .i64 wbeg, .int .i64 wlong] 54)) b n (some l)) := hW.below ((Below.refl _ w).alloc (Nat.le_refl _) _)
  have HV0 : Hid ((w.alloc (.cells #[.int .i64 wpart, .int .i64 wbeg, .int .i64 wlong] 54)).heap[w.heap.size]? = some (.cells #[.int .i64 wpart, .int .i64 wbeg, .int .i64 wlong] 54)) := heap_alloc_new w _
  have HG0 : Hid (w.grownBy (w.alloc (.cells #[.int .i64 wpart, .int .i64 wbeg, .int .i64 wlong] 54)) (some b)) := Bi.grown_alloc _
  have HNE : Hid (w.heap.size ≠ b) := by have := wr_lt hW; show _ ≠ _; omega
  have HBL : Hid (b < (w.alloc (.cells #[.int .i64 wpart, .int .i64 wbeg, .int .i64 wlong] 54)).heap.size) := by have := wr_lt hW; show _ < _; simp; omega
  clear hW
  go_enter Try.func34, Try.ntmps34
  go_upto_region 1 with (fail)
  have HW := HW0
  have HV := HV0
  have HG := HG0
  clear HW0 HV0 HG0
  obtain ⟨W1, hW1⟩ : ∃ W, w.alloc (.cells #[.int .i64 wpart, .int .i64 wbeg, .int .i64 wlong] 54) = W := ⟨_, rfl⟩
  rw [hW1] at HW HV HG HBL ⊢
  clear hW1
  generalize w.heap.size = vb at HV HNE ⊢
  obtain ⟨c0, c1, c2⟩ := cells_3 HV.out
  go_wp2_with (first
      | (go_at_call 29; (with_reducible refine (HU.out _ _ wpart _ HW.out HF1.out (by (try simp only [List.length_append, PitotImg.w_length]); omega)).mono ?_); rintro e w2 ⟨rfl, hw2, hg2⟩
         (have HVX := Lib.hid (lies_grown HV.out hg2 HNE.out))
         (have HGX := Lib.hid (Bi.grown_trans HG.out hg2))
         (have HWX := Lib.hid hw2)
         (clear hw2 hg2 HV HG HW c0 c1 c2)
         (have HV := HVX)
         (have HG := HGX)
         (have HW := HWX)
         (clear HVX HGX HWX)
         (obtain ⟨c0, c1, c2⟩ := cells_3 HV.out))
      | (go_at_call 31; (with_reducible refine (HU4.out _ _ wbeg _ HW.out HF2.out (by (try simp only [List.length_append, PitotImg.w_length]); omega)).mono ?_); rintro e w2 ⟨rfl, hw2, hg2⟩
         (have HVX := Lib.hid (lies_grown HV.out hg2 HNE.out))
         (have HGX := Lib.hid (Bi.grown_trans HG.out hg2))
         (have HWX := Lib.hid hw2)
         (clear hw2 hg2 HV HG HW c0 c1 c2)
         (have HV := HVX)
         (have HG := HGX)
         (have HW := HWX)
         (clear HVX HGX HWX)
         (obtain ⟨c0, c1, c2⟩ := cells_3 HV.out))
      | (go_at_call 31; (with_reducible refine (HU4.out _ _ wlong _ HW.out HF3.out (by (try simp only [List.length_append, PitotImg.w_length]); omega)).mono ?_); rintro e w2 ⟨rfl, hw2, hg2⟩
         (have HVX := Lib.hid (lies_grown HV.out hg2 HNE.out))
         (have HGX := Lib.hid (Bi.grown_trans HG.out hg2))
         (have HWX := Lib.hid hw2)
         (clear hw2 hg2 HV HG HW c0 c1 c2)
         (have HV := HVX)
         (have HG := HGX)
         (have HW := HWX)
         (clear HVX HGX HWX)
         (obtain ⟨c0, c1, c2⟩ := cells_3 HV.out)))
  go_returns
  refine ⟨rfl, ?_, HG.out⟩
  have h := HW.out
  simp only [PitotImg.winW, ← List.append_assoc]
  exact h
set_option maxHeartbeats 4000000 in
theorem vl_any (b n : Nat) (l : List UInt8) (vid vhost vbag vsmax vsubs vskew : Int) (vhigh : Bool) (tA : Option Addr) (tc : Nat) (tol : List Int) (W0 w : World) (hW : Bi.WrAt w b n (some l)) (hT : IntsAt W0 tA tol) (hB : Below W0.heap.size W0 w) (hb : W0.heap.size ≤ b) (hf : PitotImg.vlOk ⟨vid, vhost, vbag, vsmax, vhigh, vsubs, vskew, tol⟩) (hll : l.length ≤ 600000) :
    Calls Try.prog 37 #[.pointer (some ⟨b, 0, none⟩), .agg #[.int .i64 vid, .int .i64 vhost, .int .i64 vbag, .int .i64 vsmax, .bool vhigh, .int .i64 vsubs, .int .i64 vskew, .slice tA tol.length tc]] w fun e w' => e = .returned (.tuple #[]) ∧ Bi.WrAt w' b (n + 6 + tol.length) (some (l ++ PitotImg.vlW ⟨vid, vhost, vbag, vsmax, vhigh, vsubs, vskew, tol⟩)) ∧ w.grownBy w' (some b) := by
  have HU := Lib.hid (fun (n : Nat) (l : List UInt8) (v : Int) (w : World) (h : Bi.WrAt w b n (some l)) (hf : PitotImg.fits 2 v) (hll : l.length ≤ 900000) => u16_fit b n l v w h hf hll)
  have HU4 := Lib.hid (fun (n : Nat) (l : List UInt8) (v : Int) (w : World) (h : Bi.WrAt w b n (some l)) (hf : PitotImg.fits 4 v) (hll : l.length ≤ 900000) => u32_fit b n l v w h hf hll)
  obtain ⟨hf1, hf2, hf3, hf4, hf5, hf6, hf7, hf8⟩ := hf
  simp only at hf3 hf5 hf8
  obtain ⟨tl, Htl⟩ : ∃ tl, Hid (tol.length = tl) := ⟨_, rfl⟩
  rw [Htl.out] at hf8 ⊢
  have HF1 := Lib.hid hf1; have HF2 := Lib.hid hf2; have HF4 := Lib.hid hf4; have HF6 := Lib.hid hf6; have HF7 := Lib.hid hf7
  have HST := Lib.hid (fun l => bits_431 vbag (bitOf vhigh) vsubs l hf3 (bitOf_le _) hf5)
  have HBY : Hid (16 * vbag + 8 * bitOf vhigh + vsubs = PitotImg.vlByte ⟨vid, vhost, vbag, vsmax, vhigh, vsubs, vskew, tol⟩) := vl_byte_eq ⟨vid, vhost, vbag, vsmax, vhigh, vsubs, vskew, none, 0, tol⟩
  have HLI := Lib.hid (fun (n : Nat) (l : List UInt8) (w : World) (hW : Bi.WrAt w b n (some l)) (hB : Below W0.heap.size W0 w) (hll : l.length + 2 + 2 * tl ≤ 900000) => list_u16 b n l tA tl tc tol W0 w hW hT hB hb HF7.out Htl.out hf8 hll)
  have HLB := Lib.hid (fun w' (hg : w.grownBy w' (some b)) => hB.trans (grown_below hg hb hB.size))
  have HLW := Lib.hid linkWide_any
  have HBT := Lib.hid (bit_any vhigh)
  clear hf1 hf2 hf3 hf4 hf5 hf6 hf7 hT hB hb HF7
  have HW0 : Hid (Bi.WrAt (w.alloc (.cells #[.int .i64 vid, .int .i64 vhost, .int .i64 vbag, .int .i64 vsmax, .bool vhigh, .int .i64 vsubs, .int .i64 vskew, .slice tA tl tc] 34)) b n (some l)) := hW.below ((Below.refl _ w).alloc (Nat.le_refl _) _)
  have HV0 : Hid ((w.alloc (.cells #[.int .i64 vid, .int .i64 vhost, .int .i64 vbag, .int .i64 vsmax, .bool vhigh, .int .i64 vsubs, .int .i64 vskew, .slice tA tl tc] 34)).heap[w.heap.size]? = some (.cells #[.int .i64 vid, .int .i64 vhost, .int .i64 vbag, .int .i64 vsmax, .bool vhigh, .int .i64 vsubs, .int .i64 vskew, .slice tA tl tc] 34)) := heap_alloc_new w _
  have HG0 : Hid (w.grownBy (w.alloc (.cells #[.int .i64 vid, .int .i64 vhost, .int .i64 vbag, .int .i64 vsmax, .bool vhigh, .int .i64 vsubs, .int .i64 vskew, .slice tA tl tc] 34)) (some b)) := Bi.grown_alloc _
  have HNE : Hid (w.heap.size ≠ b) := by have := wr_lt hW; show _ ≠ _; omega
  have HBL : Hid (b < (w.alloc (.cells #[.int .i64 vid, .int .i64 vhost, .int .i64 vbag, .int .i64 vsmax, .bool vhigh, .int .i64 vsubs, .int .i64 vskew, .slice tA tl tc] 34)).heap.size) := by have := wr_lt hW; show _ < _; simp; omega
  clear hW
  go_enter Try.func37, Try.ntmps37
  go_upto_region 1 with (fail)
  have HW := HW0
  have HV := HV0
  have HG := HG0
  clear HW0 HV0 HG0
  obtain ⟨W1, hW1⟩ : ∃ W, w.alloc (.cells #[.int .i64 vid, .int .i64 vhost, .int .i64 vbag, .int .i64 vsmax, .bool vhigh, .int .i64 vsubs, .int .i64 vskew, .slice tA tl tc] 34) = W := ⟨_, rfl⟩
  rw [hW1] at HW HV HG HBL ⊢
  clear hW1
  generalize w.heap.size = vb at HV HNE ⊢
  obtain ⟨c0, c1, c2, c3, c4, c5, c6, c7⟩ := cells_8 HV.out
  go_upto_region 3 with (first
      | (go_at_call 29; (with_reducible refine (HU.out _ _ vid _ HW.out HF1.out (by (try simp only [List.length_append, PitotImg.w_length]); omega)).mono ?_); rintro e w2 ⟨rfl, hw2, hg2⟩
         (have HVX := Lib.hid (lies_grown HV.out hg2 HNE.out))
         (have HGX := Lib.hid (Bi.grown_trans HG.out hg2))
         (have HWX := Lib.hid hw2)
         (clear hw2 hg2 HV HG HW c0 c1 c2 c3 c4 c5 c6 c7)
         (have HV := HVX)
         (have HG := HGX)
         (have HW := HWX)
         (clear HVX HGX HWX)
         (obtain ⟨c0, c1, c2, c3, c4, c5, c6, c7⟩ := cells_8 HV.out))
      | (go_at_call 29; (with_reducible refine (HU.out _ _ vhost _ HW.out HF2.out (by (try simp only [List.length_append, PitotImg.w_length]); omega)).mono ?_); rintro e w2 ⟨rfl, hw2, hg2⟩
         (have HVX := Lib.hid (lies_grown HV.out hg2 HNE.out))
         (have HGX := Lib.hid (Bi.grown_trans HG.out hg2))
         (have HWX := Lib.hid hw2)
         (clear hw2 hg2 HV HG HW c0 c1 c2 c3 c4 c5 c6 c7)
         (have HV := HVX)
         (have HG := HGX)
         (have HW := HWX)
         (clear HVX HGX HWX)
         (obtain ⟨c0, c1, c2, c3, c4, c5, c6, c7⟩ := cells_8 HV.out)))
  have HLL : Hid ((l ++ PitotImg.w 2 vid ++ PitotImg.w 2 vhost).length ≤ 900000) := by show _ ≤ _; simp only [List.length_append, PitotImg.w_length]; omega
  have HBL2 := Lib.hid (Nat.lt_of_lt_of_le (wr_lt HW.out) (Nat.le_refl _))
  refine vl_byte HW HV HNE HBL2 HLW HBT (Lib.hid (HST.out _)) HLL (fun _ _ _ _ _ h => h) ?_
  intro wc hw2 hg2 z0 z1 z2 z3 z4 z5 z6 z7 z8 z9 z10
  (have HVX := Lib.hid (lies_grown HV.out hg2 HNE.out))
  (have HGX := Lib.hid (Bi.grown_trans HG.out hg2))
  (have HWX := Lib.hid hw2)
  (clear hw2 hg2 HV HG HW c0 c1 c2 c3 c4 c5 c6 c7)
  (have HV := HVX)
  (have HG := HGX)
  (have HW := HWX)
  (clear HVX HGX HWX)
  (obtain ⟨c0, c1, c2, c3, c4, c5, c6, c7⟩ := cells_8 HV.out)
  rw [HBY.out] at HW
  go_wp2_with (first
      | (go_at_call 29; (with_reducible refine (HU.out _ _ vsmax _ HW.out HF4.out (by (try simp only [List.length_append, PitotImg.w_length]); omega)).mono ?_); rintro e w2 ⟨rfl, hw2, hg2⟩
         (have HVX := Lib.hid (lies_grown HV.out hg2 HNE.out))
         (have HGX := Lib.hid (Bi.grown_trans HG.out hg2))
         (have HWX := Lib.hid hw2)
         (clear hw2 hg2 HV HG HW c0 c1 c2 c3 c4 c5 c6 c7)
         (have HV := HVX)
         (have HG := HGX)
         (have HW := HWX)
         (clear HVX HGX HWX)
         (obtain ⟨c0, c1, c2, c3, c4, c5, c6, c7⟩ := cells_8 HV.out))
      | (go_at_call 31; (with_reducible refine (HU4.out _ _ vskew _ HW.out HF6.out (by (try simp only [List.length_append, PitotImg.w_length]); omega)).mono ?_); rintro e w2 ⟨rfl, hw2, hg2⟩
         (have HVX := Lib.hid (lies_grown HV.out hg2 HNE.out))
         (have HGX := Lib.hid (Bi.grown_trans HG.out hg2))
         (have HWX := Lib.hid hw2)
         (clear hw2 hg2 HV HG HW c0 c1 c2 c3 c4 c5 c6 c7)
         (have HV := HVX)
         (have HG := HGX)
         (have HW := HWX)
         (clear HVX HGX HWX)
         (obtain ⟨c0, c1, c2, c3, c4, c5, c6, c7⟩ := cells_8 HV.out))
      | (go_at_call 30; (with_reducible refine (HLI.out _ _ _ HW.out (HLB.out _ HG.out) (by (try simp only [List.length_append, PitotImg.w_length]); omega)).mono ?_); rintro e w2 ⟨rfl, hw2, hg2⟩
         (have HVX := Lib.hid (lies_grown HV.out hg2 HNE.out))
         (have HGX := Lib.hid (Bi.grown_trans HG.out hg2))
         (have HWX := Lib.hid hw2)
         (clear hw2 hg2 HV HG HW c0 c1 c2 c3 c4 c5 c6 c7)
         (have HV := HVX)
         (have HG := HGX)
         (have HW := HWX)
         (clear HVX HGX HWX)
         (obtain ⟨c0, c1, c2, c3, c4, c5, c6, c7⟩ := cells_8 HV.out)))
  go_returns
  refine ⟨rfl, ?_, HG.out⟩
  have h := HW.out
  simp only [PitotImg.vlW, ← List.append_assoc]
  exact h
set_option maxHeartbeats 4000000 in
theorem prt_any (b n : Nat) (l : List UInt8) (qid qhost qpart qkind qvl qsub qudp qsize qdepth qfresh : Int) (qout : Bool) (w : World) (hW : Bi.WrAt w b n (some l)) (hf : PitotImg.prtOk ⟨qid, qhost, qpart, qkind, qout, qvl, qsub, qudp, qsize, qdepth, qfresh⟩) (hll : l.length ≤ 800000) :
    Calls Try.prog 40 #[.pointer (some ⟨b, 0, none⟩), .agg #[.int .i64 qid, .int .i64 qhost, .int .i64 qpart, .int .i64 qkind, .bool qout, .int .i64 qvl, .int .i64 qsub, .int .i64 qudp, .int .i64 qsize, .int .i64 qdepth, .int .i64 qfresh]] w fun e w' => e = .returned (.tuple #[]) ∧ Bi.WrAt w' b (n + 10) (some (l ++ PitotImg.prtW ⟨qid, qhost, qpart, qkind, qout, qvl, qsub, qudp, qsize, qdepth, qfresh⟩)) ∧ w.grownBy w' (some b) := by
  have HU := Lib.hid (fun (n : Nat) (l : List UInt8) (v : Int) (w : World) (h : Bi.WrAt w b n (some l)) (hf : PitotImg.fits 2 v) (hll : l.length ≤ 900000) => u16_fit b n l v w h hf hll)
  have HU4 := Lib.hid (fun (n : Nat) (l : List UInt8) (v : Int) (w : World) (h : Bi.WrAt w b n (some l)) (hf : PitotImg.fits 4 v) (hll : l.length ≤ 900000) => u32_fit b n l v w h hf hll)
  obtain ⟨hf1, hf2, hf3, hf4, hf5, hf6, hf7, hf8, hf9, hf10⟩ := hf
  simp only at hf4 hf6 hf10
  have HF1 := Lib.hid hf1; have HF2 := Lib.hid hf2; have HF3 := Lib.hid hf3; have HF5 := Lib.hid hf5; have HF7 := Lib.hid hf7; have HF8 := Lib.hid hf8; have HF9 := Lib.hid hf9
  have HFA : Hid (PitotImg.fits 4 (qfresh / 4294967296)) := ⟨by omega, by show _ < (4294967296 : Int); omega⟩
  have HFB : Hid (PitotImg.fits 4 (qfresh % 4294967296)) := ⟨by omega, by show _ < (4294967296 : Int); omega⟩
  have HST := Lib.hid (fun l => bits_215 qkind (bitOf qout) qsub l hf4 (bitOf_le _) hf6)
  have HBY : Hid (64 * qkind + 32 * bitOf qout + qsub = PitotImg.prtByte ⟨qid, qhost, qpart, qkind, qout, qvl, qsub, qudp, qsize, qdepth, qfresh⟩) := prt_byte_eq ⟨qid, qhost, qpart, qkind, qout, qvl, qsub, qudp, qsize, qdepth, qfresh⟩
  have HLW := Lib.hid portWide_any
  have s2 := and_low qfresh
  have HBT := Lib.hid (bit_any qout)
  clear hf1 hf2 hf3 hf4 hf5 hf6 hf7 hf8 hf9 hf10
  have HW0 : Hid (Bi.WrAt (w.alloc (.cells #[.int .i64 qid, .int .i64 qhost, .int .i64 qpart, .int .i64 qkind, .bool qout, .int .i64 qvl, .int .i64 qsub, .int .i64 qudp, .int .i64 qsize, .int .i64 qdepth, .int .i64 qfresh] 41)) b n (some l)) := hW.below ((Below.refl _ w).alloc (Nat.le_refl _) _)
  have HV0 : Hid ((w.alloc (.cells #[.int .i64 qid, .int .i64 qhost, .int .i64 qpart, .int .i64 qkind, .bool qout, .int .i64 qvl, .int .i64 qsub, .int .i64 qudp, .int .i64 qsize, .int .i64 qdepth, .int .i64 qfresh] 41)).heap[w.heap.size]? = some (.cells #[.int .i64 qid, .int .i64 qhost, .int .i64 qpart, .int .i64 qkind, .bool qout, .int .i64 qvl, .int .i64 qsub, .int .i64 qudp, .int .i64 qsize, .int .i64 qdepth, .int .i64 qfresh] 41)) := heap_alloc_new w _
  have HG0 : Hid (w.grownBy (w.alloc (.cells #[.int .i64 qid, .int .i64 qhost, .int .i64 qpart, .int .i64 qkind, .bool qout, .int .i64 qvl, .int .i64 qsub, .int .i64 qudp, .int .i64 qsize, .int .i64 qdepth, .int .i64 qfresh] 41)) (some b)) := Bi.grown_alloc _
  have HNE : Hid (w.heap.size ≠ b) := by have := wr_lt hW; show _ ≠ _; omega
  have HBL : Hid (b < (w.alloc (.cells #[.int .i64 qid, .int .i64 qhost, .int .i64 qpart, .int .i64 qkind, .bool qout, .int .i64 qvl, .int .i64 qsub, .int .i64 qudp, .int .i64 qsize, .int .i64 qdepth, .int .i64 qfresh] 41)).heap.size) := by have := wr_lt hW; show _ < _; simp; omega
  clear hW
  go_enter Try.func40, Try.ntmps40
  go_upto_region 1 with (fail)
  have HW := HW0
  have HV := HV0
  have HG := HG0
  clear HW0 HV0 HG0
  obtain ⟨W1, hW1⟩ : ∃ W, w.alloc (.cells #[.int .i64 qid, .int .i64 qhost, .int .i64 qpart, .int .i64 qkind, .bool qout, .int .i64 qvl, .int .i64 qsub, .int .i64 qudp, .int .i64 qsize, .int .i64 qdepth, .int .i64 qfresh] 41) = W := ⟨_, rfl⟩
  rw [hW1] at HW HV HG HBL ⊢
  clear hW1
  generalize w.heap.size = vb at HV HNE ⊢
  obtain ⟨c0, c1, c2, c3, c4, c5, c6, c7, c8, c9, c10⟩ := cells_11 HV.out
  go_upto_region 4 with (first
      | (go_at_call 31; (with_reducible refine (HU4.out _ _ qid _ HW.out HF1.out (by (try simp only [List.length_append, PitotImg.w_length]); omega)).mono ?_); rintro e w2 ⟨rfl, hw2, hg2⟩
         (have HVX := Lib.hid (lies_grown HV.out hg2 HNE.out))
         (have HGX := Lib.hid (Bi.grown_trans HG.out hg2))
         (have HWX := Lib.hid hw2)
         (clear hw2 hg2 HV HG HW c0 c1 c2 c3 c4 c5 c6 c7 c8 c9 c10)
         (have HV := HVX)
         (have HG := HGX)
         (have HW := HWX)
         (clear HVX HGX HWX)
         (obtain ⟨c0, c1, c2, c3, c4, c5, c6, c7, c8, c9, c10⟩ := cells_11 HV.out))
      | (go_at_call 29; (with_reducible refine (HU.out _ _ qhost _ HW.out HF2.out (by (try simp only [List.length_append, PitotImg.w_length]); omega)).mono ?_); rintro e w2 ⟨rfl, hw2, hg2⟩
         (have HVX := Lib.hid (lies_grown HV.out hg2 HNE.out))
         (have HGX := Lib.hid (Bi.grown_trans HG.out hg2))
         (have HWX := Lib.hid hw2)
         (clear hw2 hg2 HV HG HW c0 c1 c2 c3 c4 c5 c6 c7 c8 c9 c10)
         (have HV := HVX)
         (have HG := HGX)
         (have HW := HWX)
         (clear HVX HGX HWX)
         (obtain ⟨c0, c1, c2, c3, c4, c5, c6, c7, c8, c9, c10⟩ := cells_11 HV.out))
      | (go_at_call 29; (with_reducible refine (HU.out _ _ qpart _ HW.out HF3.out (by (try simp only [List.length_append, PitotImg.w_length]); omega)).mono ?_); rintro e w2 ⟨rfl, hw2, hg2⟩
         (have HVX := Lib.hid (lies_grown HV.out hg2 HNE.out))
         (have HGX := Lib.hid (Bi.grown_trans HG.out hg2))
         (have HWX := Lib.hid hw2)
         (clear hw2 hg2 HV HG HW c0 c1 c2 c3 c4 c5 c6 c7 c8 c9 c10)
         (have HV := HVX)
         (have HG := HGX)
         (have HW := HWX)
         (clear HVX HGX HWX)
         (obtain ⟨c0, c1, c2, c3, c4, c5, c6, c7, c8, c9, c10⟩ := cells_11 HV.out)))
  have HLL : Hid ((l ++ PitotImg.w 4 qid ++ PitotImg.w 2 qhost ++ PitotImg.w 2 qpart).length ≤ 900000) := by show _ ≤ _; simp only [List.length_append, PitotImg.w_length]; omega
  have HBL2 := Lib.hid (Nat.lt_of_lt_of_le (wr_lt HW.out) (Nat.le_refl _))
  refine prt_byte HW HV HNE HBL2 HLW HBT (Lib.hid (HST.out _)) HLL (fun _ _ _ _ _ h => h) ?_
  intro wc hw2 hg2 z0 z1 z2 z3 z4 z5 z6 z7 z8 z9 z10
  (have HVX := Lib.hid (lies_grown HV.out hg2 HNE.out))
  (have HGX := Lib.hid (Bi.grown_trans HG.out hg2))
  (have HWX := Lib.hid hw2)
  (clear hw2 hg2 HV HG HW c0 c1 c2 c3 c4 c5 c6 c7 c8 c9 c10)
  (have HV := HVX)
  (have HG := HGX)
  (have HW := HWX)
  (clear HVX HGX HWX)
  (obtain ⟨c0, c1, c2, c3, c4, c5, c6, c7, c8, c9, c10⟩ := cells_11 HV.out)
  rw [HBY.out] at HW
  go_wp2_with (first
      | (go_at_call 29; (with_reducible refine (HU.out _ _ qvl _ HW.out HF5.out (by (try simp only [List.length_append, PitotImg.w_length]); omega)).mono ?_); rintro e w2 ⟨rfl, hw2, hg2⟩
         (have HVX := Lib.hid (lies_grown HV.out hg2 HNE.out))
         (have HGX := Lib.hid (Bi.grown_trans HG.out hg2))
         (have HWX := Lib.hid hw2)
         (clear hw2 hg2 HV HG HW c0 c1 c2 c3 c4 c5 c6 c7 c8 c9 c10)
         (have HV := HVX)
         (have HG := HGX)
         (have HW := HWX)
         (clear HVX HGX HWX)
         (obtain ⟨c0, c1, c2, c3, c4, c5, c6, c7, c8, c9, c10⟩ := cells_11 HV.out))
      | (go_at_call 29; (with_reducible refine (HU.out _ _ qudp _ HW.out HF7.out (by (try simp only [List.length_append, PitotImg.w_length]); omega)).mono ?_); rintro e w2 ⟨rfl, hw2, hg2⟩
         (have HVX := Lib.hid (lies_grown HV.out hg2 HNE.out))
         (have HGX := Lib.hid (Bi.grown_trans HG.out hg2))
         (have HWX := Lib.hid hw2)
         (clear hw2 hg2 HV HG HW c0 c1 c2 c3 c4 c5 c6 c7 c8 c9 c10)
         (have HV := HVX)
         (have HG := HGX)
         (have HW := HWX)
         (clear HVX HGX HWX)
         (obtain ⟨c0, c1, c2, c3, c4, c5, c6, c7, c8, c9, c10⟩ := cells_11 HV.out))
      | (go_at_call 29; (with_reducible refine (HU.out _ _ qsize _ HW.out HF8.out (by (try simp only [List.length_append, PitotImg.w_length]); omega)).mono ?_); rintro e w2 ⟨rfl, hw2, hg2⟩
         (have HVX := Lib.hid (lies_grown HV.out hg2 HNE.out))
         (have HGX := Lib.hid (Bi.grown_trans HG.out hg2))
         (have HWX := Lib.hid hw2)
         (clear hw2 hg2 HV HG HW c0 c1 c2 c3 c4 c5 c6 c7 c8 c9 c10)
         (have HV := HVX)
         (have HG := HGX)
         (have HW := HWX)
         (clear HVX HGX HWX)
         (obtain ⟨c0, c1, c2, c3, c4, c5, c6, c7, c8, c9, c10⟩ := cells_11 HV.out))
      | (go_at_call 29; (with_reducible refine (HU.out _ _ qdepth _ HW.out HF9.out (by (try simp only [List.length_append, PitotImg.w_length]); omega)).mono ?_); rintro e w2 ⟨rfl, hw2, hg2⟩
         (have HVX := Lib.hid (lies_grown HV.out hg2 HNE.out))
         (have HGX := Lib.hid (Bi.grown_trans HG.out hg2))
         (have HWX := Lib.hid hw2)
         (clear hw2 hg2 HV HG HW c0 c1 c2 c3 c4 c5 c6 c7 c8 c9 c10)
         (have HV := HVX)
         (have HG := HGX)
         (have HW := HWX)
         (clear HVX HGX HWX)
         (obtain ⟨c0, c1, c2, c3, c4, c5, c6, c7, c8, c9, c10⟩ := cells_11 HV.out))
      | (go_at_call 31; (with_reducible refine (HU4.out _ _ (qfresh / 4294967296) _ HW.out HFA.out (by (try simp only [List.length_append, PitotImg.w_length]); omega)).mono ?_); rintro e w2 ⟨rfl, hw2, hg2⟩
         (have HVX := Lib.hid (lies_grown HV.out hg2 HNE.out))
         (have HGX := Lib.hid (Bi.grown_trans HG.out hg2))
         (have HWX := Lib.hid hw2)
         (clear hw2 hg2 HV HG HW c0 c1 c2 c3 c4 c5 c6 c7 c8 c9 c10)
         (have HV := HVX)
         (have HG := HGX)
         (have HW := HWX)
         (clear HVX HGX HWX)
         (obtain ⟨c0, c1, c2, c3, c4, c5, c6, c7, c8, c9, c10⟩ := cells_11 HV.out))
      | (go_at_call 31; (with_reducible refine (HU4.out _ _ (qfresh % 4294967296) _ HW.out HFB.out (by (try simp only [List.length_append, PitotImg.w_length]); omega)).mono ?_); rintro e w2 ⟨rfl, hw2, hg2⟩
         (have HVX := Lib.hid (lies_grown HV.out hg2 HNE.out))
         (have HGX := Lib.hid (Bi.grown_trans HG.out hg2))
         (have HWX := Lib.hid hw2)
         (clear hw2 hg2 HV HG HW c0 c1 c2 c3 c4 c5 c6 c7 c8 c9 c10)
         (have HV := HVX)
         (have HG := HGX)
         (have HW := HWX)
         (clear HVX HGX HWX)
         (obtain ⟨c0, c1, c2, c3, c4, c5, c6, c7, c8, c9, c10⟩ := cells_11 HV.out)))
  go_returns
  refine ⟨rfl, ?_, HG.out⟩
  have h := HW.out
  simp only [PitotImg.prtW, ← List.append_assoc]
  exact h
end Go.Proofs.Ytdphapjeohkbjaa.Im
/- The program writes lists of windows, links, ports. -/
set_option maxRecDepth 100000
set_option linter.unusedVariables false
namespace Go.Proofs.Ytdphapjeohkbjaa.Im
open Go.RowKit

/-- The Writer in block b, some bytes written, in no more pieces than bytes. -/
def WL (w : World) (b : Nat) (l : List UInt8) : Prop := Bi.WrAt w b l.length (some l)
theorem wl_alloc {w : World} {b : Nat} {l : List UInt8} (h : WL w b l) (o : Obj) : WL (w.alloc o) b l := Bi.WrAt.below h ((Below.refl _ w).alloc (Nat.le_refl _) _)
theorem wl_of {w : World} {b n : Nat} {l : List UInt8} (h : Bi.WrAt w b n (some l)) (hn : n ≤ l.length) : WL w b l := h.more hn
theorem u16_wl (b : Nat) (l : List UInt8) (v : Int) (w : World) (h : WL w b l) (hf : PitotImg.fits 2 v) (hll : l.length ≤ 900000) :
    Calls Try.prog 29 #[.pointer (some ⟨b, 0, none⟩), .int .i64 v] w fun e w' => e = .returned (.tuple #[]) ∧ WL w' b (l ++ PitotImg.w 2 v) ∧ w.grownBy w' (some b) :=
  (u16_fit b _ l v w h hf hll).mono fun e w' ⟨h1, h2, h3⟩ => ⟨h1, wl_of h2 (by rw [List.length_append, PitotImg.w_length]; omega), h3⟩
theorem u32_wl (b : Nat) (l : List UInt8) (v : Int) (w : World) (h : WL w b l) (hf : PitotImg.fits 4 v) (hll : l.length ≤ 900000) :
    Calls Try.prog 31 #[.pointer (some ⟨b, 0, none⟩), .int .i64 v] w fun e w' => e = .returned (.tuple #[]) ∧ WL w' b (l ++ PitotImg.w 4 v) ∧ w.grownBy w' (some b) :=
  (u32_fit b _ l v w h hf hll).mono fun e w' ⟨h1, h2, h3⟩ => ⟨h1, wl_of h2 (by rw [List.length_append, PitotImg.w_length]; omega), h3⟩
theorem manyW_len2 (xs : List Int) : (PitotImg.manyW (PitotImg.w 2) xs).length = 2 + 2 * xs.length := by
  rw [PitotImg.manyW, List.length_append, PitotImg.w_length, List.length_flatMap]
  have : (xs.map fun a => (PitotImg.w 2 a).length) = List.replicate xs.length 2 := by
    rw [List.eq_replicate_iff]
    exact ⟨by simp, fun x hx => by obtain ⟨y, _, rfl⟩ := List.mem_map.1 hx; exact PitotImg.w_length 2 y⟩
  rw [this]; simp [Nat.mul_comm]
theorem winW_len (x : PitotConf.Win) : (PitotImg.winW x).length = 10 := by simp only [PitotImg.winW, List.length_append, PitotImg.w_length]
theorem vlW_len (x : PitotConf.Vl) : (PitotImg.vlW x).length = 13 + 2 * x.to.length := by simp only [PitotImg.vlW, List.length_append, PitotImg.w_length, manyW_len2]; omega
theorem prtW_len (x : PitotConf.Prt) : (PitotImg.prtW x).length = 25 := by simp only [PitotImg.prtW, List.length_append, PitotImg.w_length]
set_option maxHeartbeats 2000000 in
theorem cW_any (b kb : Nat) (l : List UInt8) (x : Wn) (w : World) (hW : WL w b l) (hK : w.heap[kb]? = some (.cells #[.pointer (some ⟨b, 0, none⟩)] 43)) (hf : PitotImg.fits 2 x.part ∧ PitotImg.fits 4 x.beg ∧ PitotImg.fits 4 x.long) (hll : l.length ≤ 600000) :
    Calls Try.prog 33 #[x.val, .pointer (some ⟨kb, 0, none⟩)] w fun e w' => e = .returned (.tuple #[]) ∧ WL w' b (l ++ PitotImg.winW x.pl) ∧ w.grownBy w' (some b) := by
  have HC := Lib.hid ((win_any b l.length l x.part x.beg x.long (w.alloc (.cells #[.int .i64 x.part, .int .i64 x.beg, .int .i64 x.long] 54)) (wl_alloc hW _) hf (by omega)).mono (R' := fun e w' => e = .returned (.tuple #[]) ∧ WL w' b (l ++ PitotImg.winW x.pl) ∧ w.grownBy w' (some b)) fun e w' ⟨h1, h2, h3⟩ => ⟨h1, wl_of h2 (by rw [List.length_append, winW_len]; omega), Bi.grown_trans (Bi.grown_alloc _) h3⟩)
  have k0 : (w.alloc (.cells #[.int .i64 x.part, .int .i64 x.beg, .int .i64 x.long] 54)).cell? ⟨kb, 0, none⟩ = some (.pointer (some ⟨b, 0, none⟩)) := lies_cell (lies_alloc hK _) 0
  clear hW hK hf
  go_enter Try.func33, Try.ntmps33
  go_wp2_with (go_at_call 34; (with_reducible refine (HC.out).mono ?_); rintro e w2 ⟨rfl, hw2, hg2⟩)
  go_returns
  exact ⟨rfl, hw2, hg2⟩
set_option maxHeartbeats 2000000 in
theorem cV_any (b kb : Nat) (l : List UInt8) (x : Vx) (W0 w : World) (hW : WL w b l) (hK : w.heap[kb]? = some (.cells #[.pointer (some ⟨b, 0, none⟩)] 43)) (hT : IntsAt W0 x.toA x.to) (hB : Below W0.heap.size W0 w) (hb : W0.heap.size ≤ b) (hf : PitotImg.vlOk x.pl) (hll : l.length ≤ 600000) :
    Calls Try.prog 36 #[x.val, .pointer (some ⟨kb, 0, none⟩)] w fun e w' => e = .returned (.tuple #[]) ∧ WL w' b (l ++ PitotImg.vlW x.pl) ∧ w.grownBy w' (some b) := by
  have HC := Lib.hid ((vl_any b l.length l x.id x.host x.bag x.smax x.subs x.skew x.high x.toA x.toc x.to W0 (w.alloc (.cells #[.int .i64 x.id, .int .i64 x.host, .int .i64 x.bag, .int .i64 x.smax, .bool x.high, .int .i64 x.subs, .int .i64 x.skew, .slice x.toA x.to.length x.toc] 34)) (wl_alloc hW _) hT (hB.alloc hB.size _) hb hf (by omega)).mono (R' := fun e w' => e = .returned (.tuple #[]) ∧ WL w' b (l ++ PitotImg.vlW x.pl) ∧ w.grownBy w' (some b)) fun e w' ⟨h1, h2, h3⟩ => ⟨h1, wl_of h2 (by rw [List.length_append, vlW_len]; show _ ≤ _ + (13 + 2 * x.to.length); omega), Bi.grown_trans (Bi.grown_alloc _) h3⟩)
  have k0 : (w.alloc (.cells #[.int .i64 x.id, .int .i64 x.host, .int .i64 x.bag, .int .i64 x.smax, .bool x.high, .int .i64 x.subs, .int .i64 x.skew, .slice x.toA x.to.length x.toc] 34)).cell? ⟨kb, 0, none⟩ = some (.pointer (some ⟨b, 0, none⟩)) := lies_cell (lies_alloc hK _) 0
  clear hW hK hf hT hB
  go_enter Try.func36, Try.ntmps36
  go_wp2_with (go_at_call 37; (with_reducible refine (HC.out).mono ?_); rintro e w2 ⟨rfl, hw2, hg2⟩)
  go_returns
  exact ⟨rfl, hw2, hg2⟩
set_option maxHeartbeats 2000000 in
theorem cP_any (b kb : Nat) (l : List UInt8) (x : Px) (w : World) (hW : WL w b l) (hK : w.heap[kb]? = some (.cells #[.pointer (some ⟨b, 0, none⟩)] 43)) (hf : PitotImg.prtOk x.pl) (hll : l.length ≤ 600000) :
    Calls Try.prog 39 #[x.val, .pointer (some ⟨kb, 0, none⟩)] w fun e w' => e = .returned (.tuple #[]) ∧ WL w' b (l ++ PitotImg.prtW x.pl) ∧ w.grownBy w' (some b) := by
  have HC := Lib.hid ((prt_any b l.length l x.id x.host x.part x.kind x.vl x.sub x.udp x.size x.depth x.fresh x.out (w.alloc (.cells #[.int .i64 x.id, .int .i64 x.host, .int .i64 x.part, .int .i64 x.kind, .bool x.out, .int .i64 x.vl, .int .i64 x.sub, .int .i64 x.udp, .int .i64 x.size, .int .i64 x.depth, .int .i64 x.fresh] 41)) (wl_alloc hW _) hf (by omega)).mono (R' := fun e w' => e = .returned (.tuple #[]) ∧ WL w' b (l ++ PitotImg.prtW x.pl) ∧ w.grownBy w' (some b)) fun e w' ⟨h1, h2, h3⟩ => ⟨h1, wl_of h2 (by rw [List.length_append, prtW_len]; omega), Bi.grown_trans (Bi.grown_alloc _) h3⟩)
  have k0 : (w.alloc (.cells #[.int .i64 x.id, .int .i64 x.host, .int .i64 x.part, .int .i64 x.kind, .bool x.out, .int .i64 x.vl, .int .i64 x.sub, .int .i64 x.udp, .int .i64 x.size, .int .i64 x.depth, .int .i64 x.fresh] 41)).cell? ⟨kb, 0, none⟩ = some (.pointer (some ⟨b, 0, none⟩)) := lies_cell (lies_alloc hK _) 0
  clear hW hK hf
  go_enter Try.func39, Try.ntmps39
  go_wp2_with (go_at_call 40; (with_reducible refine (HC.out).mono ?_); rintro e w2 ⟨rfl, hw2, hg2⟩)
  go_returns
  exact ⟨rfl, hw2, hg2⟩
set_option maxHeartbeats 4000000 in
theorem listlW (b kb : Nat) (l : List UInt8) (A : Option Addr) (m cap : Nat) (xs : List Wn) (W0 w : World) (hW : WL w b l) (hx : WnsAt W0 A xs) (hB : Below W0.heap.size W0 w) (hb : W0.heap.size ≤ b) (hm : xs.length = m) (hlen : m < 65536) (hll : (l ++ PitotImg.manyW (fun x : Wn => PitotImg.winW x.pl) xs).length ≤ 600000)
    (HQ : ∀ i (h : i < xs.length) (l' : List UInt8) (w' : World), w.grownBy w' (some b) → WL w' b l' → l'.length ≤ 600000 → Calls Try.prog 33 #[xs[i].val, .pointer (some ⟨kb, 0, none⟩)] w' fun e w'' => e = .returned (.tuple #[]) ∧ WL w'' b (l' ++ (fun x : Wn => PitotImg.winW x.pl) xs[i]) ∧ w'.grownBy w'' (some b)) :
    Calls Try.prog 32 #[.pointer (some ⟨b, 0, none⟩), .slice A m cap, .func (.func 33) #[] #[.pointer (some ⟨kb, 0, none⟩)]] w fun e w' => e = .returned (.tuple #[]) ∧ WL w' b (l ++ PitotImg.manyW (fun x : Wn => PitotImg.winW x.pl) xs) ∧ w.grownBy w' (some b) := by
  generalize hE : (fun x : Wn => PitotImg.winW x.pl) = E at HQ hll ⊢
  clear hE
  have HU := Lib.hid (fun (l : List UInt8) (v : Int) (w : World) (h : WL w b l) (hf : PitotImg.fits 2 v) (hll : l.length ≤ 900000) => u16_wl b l v w h hf hll)
  have HW := Lib.hid hW
  have HX := Lib.hid hx
  have HB := Lib.hid hB
  have HM := Lib.hid hm
  have HCL := Lib.hid HQ
  have hf0 : PitotImg.fits 2 (m : Int) := ⟨by omega, by show (m : Int) < 65536; omega⟩
  have HF0 := Lib.hid hf0
  have hmw : PitotImg.manyW E xs = PitotImg.w 2 (m : Int) ++ xs.flatMap E := by rw [PitotImg.manyW, hm]
  rw [hmw] at hll ⊢
  have hln : ∀ k, (l ++ PitotImg.w 2 (m : Int) ++ (xs.take k).flatMap E).length ≤ 600000 := fun k => by
    have h1 : xs.flatMap E = (xs.take k).flatMap E ++ (xs.drop k).flatMap E := by rw [← List.flatMap_append, List.take_append_drop]
    rw [h1] at hll
    simp only [List.length_append] at hll ⊢
    omega
  have hl0 : l.length ≤ 900000 := by rw [List.length_append] at hll; omega
  have HLN := Lib.hid hln
  clear hW hx hB hm hf0 hmw HQ hll hln
  go_enter Try.func32, Try.ntmps32
  go_wp2_with (go_at_call 29; (with_reducible refine (HU.out l (m : Int) _ HW.out HF0.out hl0).mono ?_); rintro e w1 ⟨rfl, hw1, hg1⟩)
  have HW1 : Hid (WL w1 b (l ++ PitotImg.w 2 (m : Int))) := hw1
  have HG1 := Lib.hid hg1
  clear hw1 hg1 HW
  go_loopw [14] (fun v14 wr => ∃ k : Nat, k ≤ m ∧ v14 = .int .i64 k ∧ Hid (WL wr b (l ++ PitotImg.w 2 (m : Int) ++ (xs.take k).flatMap E)) ∧ Hid (w.grownBy wr (some b))) (fun v14 _ => m - (intOf v14).toNat)
  case atStart => exact ⟨0, Nat.zero_le _, rfl, by have h := HW1.out; show WL _ _ _; simpa using h, HG1⟩
  case round =>
    obtain ⟨k, hk, rfl, ht, hG⟩ := hrel
    by_cases hkm : k < m
    · have hkl : k < xs.length := by rw [HM.out]; exact hkm
      have e1 : decide ((k : Int) < (m : Int)) = true := decide_eq_true (by omega)
      have e1' : decide (k < m) = true := decide_eq_true hkm
      obtain ⟨b', off, rfl, hb', hat⟩ := HX.out.get hkl
      have hbl : Below W0.heap.size W0 wr := HB.out.trans (grown_below hG.out hb HB.out.size)
      have hat := hat.below hbl hb'
      have hs : (xs.take (k + 1)).flatMap E = (xs.take k).flatMap E ++ E xs[k] := by
        rw [List.take_succ_eq_append_getElem hkl, List.flatMap_append]; simp
      have HS := Lib.hid hs
      have HQ1 := HCL.out k hkl
      clear hs hbl
      generalize xs[k] = x at hat HS HQ1
      have HC := Lib.hid (HQ1 _ (wr.alloc (.cells #[.int .i64 x.part, .int .i64 x.beg, .int .i64 x.long] 54)) (Bi.grown_trans hG.out (Bi.grown_alloc _)) (wl_alloc ht.out _) (HLN.out k))
      have HGA : Hid (w.grownBy (wr.alloc (.cells #[.int .i64 x.part, .int .i64 x.beg, .int .i64 x.long] 54)) (some b)) := Bi.grown_trans hG.out (Bi.grown_alloc _)
      obtain ⟨a0, a1, a2⟩ := hat
      clear ht HQ1
      go_wp2_with (go_at_call 33; (with_reducible refine (HC.out).mono ?_); rintro e w2 ⟨rfl, hw2, hg2⟩)
      have HW2 : Hid (WL w2 b (l ++ PitotImg.w 2 (m : Int) ++ (xs.take (k + 1)).flatMap E)) := by
        show WL _ _ _
        rw [HS.out, ← List.append_assoc]; exact hw2
      have HG2 := Lib.hid (Bi.grown_trans HGA.out hg2)
      clear hw2 hg2
      go_roundw
      case rel => exact ⟨k + 1, by omega, by go_num, HW2, HG2⟩
      case measure => simp [intOf]; omega
    · have e1 : decide ((k : Int) < (m : Int)) = false := decide_eq_false (by omega)
      have e1' : decide (k < m) = false := decide_eq_false hkm
      obtain rfl : k = m := by omega
      go_wp2
      go_returns
      refine ⟨rfl, ?_, hG.out⟩
      have h := ht.out
      rw [List.take_of_length_le (by rw [HM.out]; exact Nat.le_refl _)] at h
      rw [← List.append_assoc]
      exact h
set_option maxHeartbeats 4000000 in
theorem listlV (b kb : Nat) (l : List UInt8) (A : Option Addr) (m cap : Nat) (xs : List Vx) (W0 w : World) (hW : WL w b l) (hx : VxsAt W0 A xs) (hB : Below W0.heap.size W0 w) (hb : W0.heap.size ≤ b) (hm : xs.length = m) (hlen : m < 65536) (hll : (l ++ PitotImg.manyW (fun x : Vx => PitotImg.vlW x.pl) xs).length ≤ 600000)
    (HQ : ∀ i (h : i < xs.length) (l' : List UInt8) (w' : World), w.grownBy w' (some b) → WL w' b l' → l'.length ≤ 600000 → Calls Try.prog 36 #[xs[i].val, .pointer (some ⟨kb, 0, none⟩)] w' fun e w'' => e = .returned (.tuple #[]) ∧ WL w'' b (l' ++ (fun x : Vx => PitotImg.vlW x.pl) xs[i]) ∧ w'.grownBy w'' (some b)) :
    Calls Try.prog 35 #[.pointer (some ⟨b, 0, none⟩), .slice A m cap, .func (.func 36) #[] #[.pointer (some ⟨kb, 0, none⟩)]] w fun e w' => e = .returned (.tuple #[]) ∧ WL w' b (l ++ PitotImg.manyW (fun x : Vx => PitotImg.vlW x.pl) xs) ∧ w.grownBy w' (some b) := by
  generalize hE : (fun x : Vx => PitotImg.vlW x.pl) = E at HQ hll ⊢
  clear hE
  have HU := Lib.hid (fun (l : List UInt8) (v : Int) (w : World) (h : WL w b l) (hf : PitotImg.fits 2 v) (hll : l.length ≤ 900000) => u16_wl b l v w h hf hll)
  have HW := Lib.hid hW
  have HX := Lib.hid hx
  have HB := Lib.hid hB
  have HM := Lib.hid hm
  have HCL := Lib.hid HQ
  have hf0 : PitotImg.fits 2 (m : Int) := ⟨by omega, by show (m : Int) < 65536; omega⟩
  have HF0 := Lib.hid hf0
  have hmw : PitotImg.manyW E xs = PitotImg.w 2 (m : Int) ++ xs.flatMap E := by rw [PitotImg.manyW, hm]
  rw [hmw] at hll ⊢
  have hln : ∀ k, (l ++ PitotImg.w 2 (m : Int) ++ (xs.take k).flatMap E).length ≤ 600000 := fun k => by
    have h1 : xs.flatMap E = (xs.take k).flatMap E ++ (xs.drop k).flatMap E := by rw [← List.flatMap_append, List.take_append_drop]
    rw [h1] at hll
    simp only [List.length_append] at hll ⊢
    omega
  have hl0 : l.length ≤ 900000 := by rw [List.length_append] at hll; omega
  have HLN := Lib.hid hln
  clear hW hx hB hm hf0 hmw HQ hll hln
  go_enter Try.func35, Try.ntmps35
  go_wp2_with (go_at_call 29; (with_reducible refine (HU.out l (m : Int) _ HW.out HF0.out hl0).mono ?_); rintro e w1 ⟨rfl, hw1, hg1⟩)
  have HW1 : Hid (WL w1 b (l ++ PitotImg.w 2 (m : Int))) := hw1
  have HG1 := Lib.hid hg1
  clear hw1 hg1 HW
  go_loopw [14] (fun v14 wr => ∃ k : Nat, k ≤ m ∧ v14 = .int .i64 k ∧ Hid (WL wr b (l ++ PitotImg.w 2 (m : Int) ++ (xs.take k).flatMap E)) ∧ Hid (w.grownBy wr (some b))) (fun v14 _ => m - (intOf v14).toNat)
  case atStart => exact ⟨0, Nat.zero_le _, rfl, by have h := HW1.out; show WL _ _ _; simpa using h, HG1⟩
  case round =>
    obtain ⟨k, hk, rfl, ht, hG⟩ := hrel
    by_cases hkm : k < m
    · have hkl : k < xs.length := by rw [HM.out]; exact hkm
      have e1 : decide ((k : Int) < (m : Int)) = true := decide_eq_true (by omega)
      have e1' : decide (k < m) = true := decide_eq_true hkm
      obtain ⟨b', off, rfl, hb', hat, hto⟩ := HX.out.get hkl
      have hbl : Below W0.heap.size W0 wr := HB.out.trans (grown_below hG.out hb HB.out.size)
      have hat := hat.below hbl hb'
      have hs : (xs.take (k + 1)).flatMap E = (xs.take k).flatMap E ++ E xs[k] := by
        rw [List.take_succ_eq_append_getElem hkl, List.flatMap_append]; simp
      have HS := Lib.hid hs
      have HQ1 := HCL.out k hkl
      clear hs hbl
      generalize xs[k] = x at hat HS HQ1
      have HC := Lib.hid (HQ1 _ (wr.alloc (.cells #[.int .i64 x.id, .int .i64 x.host, .int .i64 x.bag, .int .i64 x.smax, .bool x.high, .int .i64 x.subs, .int .i64 x.skew, .slice x.toA x.to.length x.toc] 34)) (Bi.grown_trans hG.out (Bi.grown_alloc _)) (wl_alloc ht.out _) (HLN.out k))
      have HGA : Hid (w.grownBy (wr.alloc (.cells #[.int .i64 x.id, .int .i64 x.host, .int .i64 x.bag, .int .i64 x.smax, .bool x.high, .int .i64 x.subs, .int .i64 x.skew, .slice x.toA x.to.length x.toc] 34)) (some b)) := Bi.grown_trans hG.out (Bi.grown_alloc _)
      obtain ⟨a0, a1, a2, a3, a4, a5, a6, a7⟩ := hat
      clear ht HQ1
      go_wp2_with (go_at_call 36; (with_reducible refine (HC.out).mono ?_); rintro e w2 ⟨rfl, hw2, hg2⟩)
      have HW2 : Hid (WL w2 b (l ++ PitotImg.w 2 (m : Int) ++ (xs.take (k + 1)).flatMap E)) := by
        show WL _ _ _
        rw [HS.out, ← List.append_assoc]; exact hw2
      have HG2 := Lib.hid (Bi.grown_trans HGA.out hg2)
      clear hw2 hg2
      go_roundw
      case rel => exact ⟨k + 1, by omega, by go_num, HW2, HG2⟩
      case measure => simp [intOf]; omega
    · have e1 : decide ((k : Int) < (m : Int)) = false := decide_eq_false (by omega)
      have e1' : decide (k < m) = false := decide_eq_false hkm
      obtain rfl : k = m := by omega
      go_wp2
      go_returns
      refine ⟨rfl, ?_, hG.out⟩
      have h := ht.out
      rw [List.take_of_length_le (by rw [HM.out]; exact Nat.le_refl _)] at h
      rw [← List.append_assoc]
      exact h
set_option maxHeartbeats 4000000 in
theorem listlP (b kb : Nat) (l : List UInt8) (A : Option Addr) (m cap : Nat) (xs : List Px) (W0 w : World) (hW : WL w b l) (hx : PxsAt W0 A xs) (hB : Below W0.heap.size W0 w) (hb : W0.heap.size ≤ b) (hm : xs.length = m) (hlen : m < 65536) (hll : (l ++ PitotImg.manyW (fun x : Px => PitotImg.prtW x.pl) xs).length ≤ 600000)
    (HQ : ∀ i (h : i < xs.length) (l' : List UInt8) (w' : World), w.grownBy w' (some b) → WL w' b l' → l'.length ≤ 600000 → Calls Try.prog 39 #[xs[i].val, .pointer (some ⟨kb, 0, none⟩)] w' fun e w'' => e = .returned (.tuple #[]) ∧ WL w'' b (l' ++ (fun x : Px => PitotImg.prtW x.pl) xs[i]) ∧ w'.grownBy w'' (some b)) :
    Calls Try.prog 38 #[.pointer (some ⟨b, 0, none⟩), .slice A m cap, .func (.func 39) #[] #[.pointer (some ⟨kb, 0, none⟩)]] w fun e w' => e = .returned (.tuple #[]) ∧ WL w' b (l ++ PitotImg.manyW (fun x : Px => PitotImg.prtW x.pl) xs) ∧ w.grownBy w' (some b) := by
  generalize hE : (fun x : Px => PitotImg.prtW x.pl) = E at HQ hll ⊢
  clear hE
  have HU := Lib.hid (fun (l : List UInt8) (v : Int) (w : World) (h : WL w b l) (hf : PitotImg.fits 2 v) (hll : l.length ≤ 900000) => u16_wl b l v w h hf hll)
  have HW := Lib.hid hW
  have HX := Lib.hid hx
  have HB := Lib.hid hB
  have HM := Lib.hid hm
  have HCL := Lib.hid HQ
  have hf0 : PitotImg.fits 2 (m : Int) := ⟨by omega, by show (m : Int) < 65536; omega⟩
  have HF0 := Lib.hid hf0
  have hmw : PitotImg.manyW E xs = PitotImg.w 2 (m : Int) ++ xs.flatMap E := by rw [PitotImg.manyW, hm]
  rw [hmw] at hll ⊢
  have hln : ∀ k, (l ++ PitotImg.w 2 (m : Int) ++ (xs.take k).flatMap E).length ≤ 600000 := fun k => by
    have h1 : xs.flatMap E = (xs.take k).flatMap E ++ (xs.drop k).flatMap E := by rw [← List.flatMap_append, List.take_append_drop]
    rw [h1] at hll
    simp only [List.length_append] at hll ⊢
    omega
  have hl0 : l.length ≤ 900000 := by rw [List.length_append] at hll; omega
  have HLN := Lib.hid hln
  clear hW hx hB hm hf0 hmw HQ hll hln
  go_enter Try.func38, Try.ntmps38
  go_wp2_with (go_at_call 29; (with_reducible refine (HU.out l (m : Int) _ HW.out HF0.out hl0).mono ?_); rintro e w1 ⟨rfl, hw1, hg1⟩)
  have HW1 : Hid (WL w1 b (l ++ PitotImg.w 2 (m : Int))) := hw1
  have HG1 := Lib.hid hg1
  clear hw1 hg1 HW
  go_loopw [14] (fun v14 wr => ∃ k : Nat, k ≤ m ∧ v14 = .int .i64 k ∧ Hid (WL wr b (l ++ PitotImg.w 2 (m : Int) ++ (xs.take k).flatMap E)) ∧ Hid (w.grownBy wr (some b))) (fun v14 _ => m - (intOf v14).toNat)
  case atStart => exact ⟨0, Nat.zero_le _, rfl, by have h := HW1.out; show WL _ _ _; simpa using h, HG1⟩
  case round =>
    obtain ⟨k, hk, rfl, ht, hG⟩ := hrel
    by_cases hkm : k < m
    · have hkl : k < xs.length := by rw [HM.out]; exact hkm
      have e1 : decide ((k : Int) < (m : Int)) = true := decide_eq_true (by omega)
      have e1' : decide (k < m) = true := decide_eq_true hkm
      obtain ⟨b', off, rfl, hb', hat⟩ := HX.out.get hkl
      have hbl : Below W0.heap.size W0 wr := HB.out.trans (grown_below hG.out hb HB.out.size)
      have hat := hat.below hbl hb'
      have hs : (xs.take (k + 1)).flatMap E = (xs.take k).flatMap E ++ E xs[k] := by
        rw [List.take_succ_eq_append_getElem hkl, List.flatMap_append]; simp
      have HS := Lib.hid hs
      have HQ1 := HCL.out k hkl
      clear hs hbl
      generalize xs[k] = x at hat HS HQ1
      have HC := Lib.hid (HQ1 _ (wr.alloc (.cells #[.int .i64 x.id, .int .i64 x.host, .int .i64 x.part, .int .i64 x.kind, .bool x.out, .int .i64 x.vl, .int .i64 x.sub, .int .i64 x.udp, .int .i64 x.size, .int .i64 x.depth, .int .i64 x.fresh] 41)) (Bi.grown_trans hG.out (Bi.grown_alloc _)) (wl_alloc ht.out _) (HLN.out k))
      have HGA : Hid (w.grownBy (wr.alloc (.cells #[.int .i64 x.id, .int .i64 x.host, .int .i64 x.part, .int .i64 x.kind, .bool x.out, .int .i64 x.vl, .int .i64 x.sub, .int .i64 x.udp, .int .i64 x.size, .int .i64 x.depth, .int .i64 x.fresh] 41)) (some b)) := Bi.grown_trans hG.out (Bi.grown_alloc _)
      obtain ⟨a0, a1, a2, a3, a4, a5, a6, a7, a8, a9, a10⟩ := hat
      clear ht HQ1
      go_wp2_with (go_at_call 39; (with_reducible refine (HC.out).mono ?_); rintro e w2 ⟨rfl, hw2, hg2⟩)
      have HW2 : Hid (WL w2 b (l ++ PitotImg.w 2 (m : Int) ++ (xs.take (k + 1)).flatMap E)) := by
        show WL _ _ _
        rw [HS.out, ← List.append_assoc]; exact hw2
      have HG2 := Lib.hid (Bi.grown_trans HGA.out hg2)
      clear hw2 hg2
      go_roundw
      case rel => exact ⟨k + 1, by omega, by go_num, HW2, HG2⟩
      case measure => simp [intOf]; omega
    · have e1 : decide ((k : Int) < (m : Int)) = false := decide_eq_false (by omega)
      have e1' : decide (k < m) = false := decide_eq_false hkm
      obtain rfl : k = m := by omega
      go_wp2
      go_returns
      refine ⟨rfl, ?_, hG.out⟩
      have h := ht.out
      rw [List.take_of_length_le (by rw [HM.out]; exact Nat.le_refl _)] at h
      rw [← List.append_assoc]
      exact h
end Go.Proofs.Ytdphapjeohkbjaa.Im
