/- Contracts of the small functions: high, low, number, isLink, isHost (the program's), num, Num (the document's). -/
import Derived.Test.YthlpehiloabfiaaRows
import Derived.WalkKit
import Derived.WalkSpells
import Derived.WalkLawsBesides
import Derived.BigQuiet
import Derived.BigRegion
import Derived.RegionTactic
import Derived.Deep.RegionWith
import Derived.Laws.BitsAllLaws
import Derived.Laws.BitsLemmas
import Derived.Deep.QuietTactic
import Derived.Lib.Hide
import Derived.Handy
import Derived.Below
import Derived.Test.YthlpehiloabfiaaAdMath
namespace Go.Proofs.Ythlpehiloabfiaa.Ad
open Go.RowKit Go.Proofs.PitotAddr

theorem ret_int {k : IntKind} {a b : Int} (h : a = b) : Ending.returned (.int k a) = .returned (.int k b) := by rw [h]
theorem val_int {k : IntKind} {a b : Int} (h : a = b) : Value.int k a = .int k b := by rw [h]
theorem ret_bool {a b : Bool} (h : a = b) : Ending.returned (.bool a) = .returned (.bool b) := by rw [h]
theorem ret_str {a b : ByteArray} (h : a = b) : Ending.returned (.string a) = .returned (.string b) := by rw [h]

theorem high_any (n : Nat) (w : World) (hn : n < 65536) :
    Calls Try.prog 41 #[.int .i64 n] w fun e w' => e = .returned (.int .u8 (hi n).toNat) ∧ w = w' := by
  obtain ⟨R, HR⟩ : ∃ R, Hid (R = (hi n).toNat) := ⟨_, rfl⟩
  rw [← HR.out]
  go_enter Try.func41, Try.ntmps41
  go_wp2
  go_returns
  exact ⟨ret_int (by rw [HR.out, hi_nat]; omega), rfl⟩

theorem low_any (n : Nat) (w : World) (_hn : n < 65536) :
    Calls Try.prog 42 #[.int .i64 n] w fun e w' => e = .returned (.int .u8 (lo n).toNat) ∧ w = w' := by
  obtain ⟨R, HR⟩ : ∃ R, Hid (R = (lo n).toNat) := ⟨_, rfl⟩
  rw [← HR.out]
  go_enter Try.func42, Try.ntmps42
  go_wp2
  go_returns
  exact ⟨ret_int (by rw [HR.out, lo_nat]; omega), rfl⟩

theorem i64_or_nat (a b : Nat) (ha : a < 9223372036854775808) (hb : b < 9223372036854775808) : bits .or .i64 (a : Int) (b : Int) = ((a ||| b : Nat) : Int) := by
  have hx : a ||| b < 2 ^ 63 := Nat.or_lt_two_pow (by omega) (by omega)
  show IntKind.i64.wrap ((BitVec.ofInt 64 (a : Int) ||| BitVec.ofInt 64 (b : Int)).toNat : Int) = _
  rw [BitVec.toNat_or, ofInt_u64 a (by omega), ofInt_u64 b (by omega)]
  simp [IntKind.wrap, IntKind.bits, IntKind.signed]
  omega

theorem or_num (h l : UInt8) : bits .or .i64 ((h.toNat : Int) * 256) (l.toNat : Int) = ((num h l : Nat) : Int) := by
  have h1 := h.toNat_lt
  have h2 := l.toNat_lt
  have e : (h.toNat : Int) * 256 = ((2 ^ 8 * h.toNat : Nat) : Int) := by omega
  rw [e, i64_or_nat _ _ (by omega) (by omega), ← Nat.two_pow_add_eq_or_of_lt h2 h.toNat]
  unfold num; omega

theorem number_any (h l : UInt8) (w : World) :
    Calls Try.prog 69 #[.int .u8 h.toNat, .int .u8 l.toNat] w fun e w' => e = .returned (.int .i64 (num h l : Nat)) ∧ w = w' := by
  have h1 := h.toNat_lt
  have h2 := l.toNat_lt
  obtain ⟨R, HR⟩ : ∃ R, Hid (R = num h l) := ⟨_, rfl⟩
  rw [← HR.out]
  go_enter Try.func69, Try.ntmps69
  go_wp2
  go_returns
  exact ⟨ret_int (by rw [HR.out, or_num]), rfl⟩

theorem isLink_any (v : Int) (w : World) :
    Calls Try.prog 40 #[.int .i64 v] w fun e w' => e = .returned (.bool (decide (1 ≤ v ∧ v ≤ 65535))) ∧ w = w' := by
  obtain ⟨R, HR⟩ : ∃ R, Hid (R = decide (1 ≤ v ∧ v ≤ 65535)) := ⟨_, rfl⟩
  rw [← HR.out]
  by_cases h1 : 1 ≤ v
  · go_enter Try.func40, Try.ntmps40
    go_wp2
    go_returns
    exact ⟨ret_bool (by rw [HR.out]; simp; try omega), rfl⟩
  · go_enter Try.func40, Try.ntmps40
    go_wp2
    go_returns
    exact ⟨ret_bool (by rw [HR.out]; simp; try omega), rfl⟩

theorem isHost_any (v : Int) (w : World) :
    Calls Try.prog 43 #[.int .i64 v] w fun e w' => e = .returned (.bool (decide (0 ≤ v ∧ v ≤ 4095))) ∧ w = w' := by
  obtain ⟨R, HR⟩ : ∃ R, Hid (R = decide (0 ≤ v ∧ v ≤ 4095)) := ⟨_, rfl⟩
  rw [← HR.out]
  by_cases h1 : 0 ≤ v
  · go_enter Try.func43, Try.ntmps43
    go_wp2
    go_returns
    exact ⟨ret_bool (by rw [HR.out]; simp; try omega), rfl⟩
  · go_enter Try.func43, Try.ntmps43
    go_wp2
    go_returns
    exact ⟨ret_bool (by rw [HR.out]; simp; try omega), rfl⟩

/-- A text's first two bytes. -/
theorem refnum_any (s : ByteArray) (h l : UInt8) (w : World) (h0 : 2 ≤ s.size) (hh : s[0]'(by omega) = h) (hl : s[1]'(by omega) = l) :
    Calls Try.prog 55 #[.string s] w fun e w' => e = .returned (.int .i64 (num h l : Nat)) ∧ Below w.heap.size w w' := by
  have h1 := h.toNat_lt
  have h2 := l.toNat_lt
  have hh : s[0]'(by omega) = h := hh
  have hz0 : ((0 : Int) < (s.size : Int)) := by omega
  have hz1 : ((1 : Int) < (s.size : Int)) := by omega
  obtain ⟨R, HR⟩ : ∃ R, Hid (R = num h l) := ⟨_, rfl⟩
  rw [← HR.out]
  go_enter Try.func55, Try.ntmps55
  go_wp2
  go_quiet (fail)
  go_wp2
  go_returns
  exact ⟨ret_int (by rw [HR.out]; unfold num; omega), below_drewN (Below.refl _ _) _⟩

/-! ### arrays of bytes are compared -/
theorem eq6 (a b c d e f a' b' c' d' e' f' : Int) (w : World) :
    (Go.Op.equalIn 10000 39 (.agg #[.int .u8 a, .int .u8 b, .int .u8 c, .int .u8 d, .int .u8 e, .int .u8 f]) (.agg #[.int .u8 a', .int .u8 b', .int .u8 c', .int .u8 d', .int .u8 e', .int .u8 f'])).run Try.prog w =
      .ok (a == a' && b == b' && c == c' && d == d' && e == e' && f == f') w := by
  obtain ⟨i, hi, hz0, hz1, hz2⟩ := info_parts (show (Try.prog.info? 5).map (fun i => (i.zero, i.size, i.bytes)) = some (some (.int .u8 0), 1, 1) by kernel_rfl)
  have hc : Try.prog.cellsOf 5 = 1 := by kernel_rfl
  rw [run_equalIn_array w 9999 _ _ Try.underlying39 hi, hc]
  have hE : ∀ (x y : Int) (w : World), (Go.Op.equalIn 9999 5 (.int .u8 x) (.int .u8 y)).run Try.prog w = .ok (x == y) w := fun x y w => run_equalIn_int w 9998 5 .u8 .u8 x y Try.underlying5
  simp [Go.Op.eqItems, List.range, List.range.loop, part, hE]
  by_cases h1 : a = a' <;> simp [h1]
  by_cases h2 : b = b' <;> simp [h2]
  by_cases h3 : c = c' <;> simp [h3]
  by_cases h4 : d = d' <;> simp [h4]
  by_cases h5 : e = e' <;> simp [h5]
  by_cases h6 : f = f' <;> simp [h6]

end Go.Proofs.Ythlpehiloabfiaa.Ad
