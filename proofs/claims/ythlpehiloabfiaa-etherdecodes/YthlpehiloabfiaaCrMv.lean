/- Contracts of moved (the program's) and Take, Go (the document's). -/
import Derived.Test.YthlpehiloabfiaaRows
import Derived.WalkKit
import Derived.WalkSpells
import Derived.WalkLawsBesides
import Derived.BigQuiet
import Derived.Laws.BitsAllLaws
import Derived.Laws.BitsLemmas
import Derived.Deep.QuietTactic
import Derived.Lib.Hide
import Derived.Handy
import Derived.Test.YthlpehiloabfiaaCrMath
namespace Go.Proofs.Ythlpehiloabfiaa.Cr
open Go.RowKit Go.Proofs.PitotCrc

theorem take_snoc (s : ByteArray) (k : Nat) (h : k < s.size) : s.data.toList.take (k + 1) = s.data.toList.take k ++ [s[k]] := by
  rw [List.take_succ_eq_append_getElem (by simpa using h)]; rfl
theorem ret_int {k : IntKind} {a b : Int} (h : a = b) : Ending.returned (.int k a) = .returned (.int k b) := by rw [h]
theorem val_int {k : IntKind} {a b : Int} (h : a = b) : Value.int k a = .int k b := by rw [h]
theorem ret_bool {a b : Bool} (h : a = b) : Ending.returned (.bool a) = .returned (.bool b) := by rw [h]

theorem and_one (c : Nat) (h : c < 4294967296) : bits .and .u32 (c : Int) 1 = ((c % 2 : Nat) : Int) := by
  rw [show (1 : Int) = ((1 : Nat) : Int) from rfl, u32_and_nat c 1 (by omega) (by omega), Nat.and_one_is_mod]

theorem xor_poly (c : Nat) (h : c < 4294967296) : bits .xor .u32 ((c : Int) / 2) 3988292384 = (((c / 2) ^^^ 3988292384 : Nat) : Int) := by
  rw [show (3988292384 : Int) = ((3988292384 : Nat) : Int) from rfl, show (c : Int) / 2 = ((c / 2 : Nat) : Int) by omega, u32_xor_nat (c / 2) 3988292384 (by omega) (by omega)]

theorem st_odd (c : Nat) (h : c < 4294967296) (e : c % 2 = 1) : bits .xor .u32 ((c : Int) / 2) 3988292384 = (st c : Nat) := by
  rw [xor_poly c h]; unfold st; rw [if_pos e]
theorem st_ev (c : Nat) (e : ¬ c % 2 = 1) : (c : Int) / 2 = (st c : Nat) := by
  unfold st; rw [if_neg e]; omega

set_option maxHeartbeats 400000 in
theorem moved_any (c : Nat) (w : World) (hc : c < 4294967296) :
    Calls Try.prog 75 #[.int .u32 c] w fun e w' => e = .returned (.int .u32 (mv c : Nat)) ∧ w = w' := by
  obtain ⟨R, HR⟩ : ∃ R, Hid (R = mv c) := ⟨_, rfl⟩
  rw [← HR.out]
  go_enter Try.func75, Try.ntmps75
  go_wp2
  go_loop [0, 3] (fun n i => ∃ (k : Nat) (x : Nat), k ≤ 8 ∧ i = .int .i64 k ∧ n = .int .u32 x ∧ x < 4294967296 ∧ Hid (x = sts k c)) (fun _ i => 8 - (intOf i).toNat)
  case atStart => exact ⟨0, c, Nat.zero_le _, rfl, rfl, hc, rfl⟩
  case round =>
    obtain ⟨k, x, hk, rfl, rfl, hx, Hx⟩ := hrel
    by_cases hlt : k < 8
    · by_cases ho : x % 2 = 1
      · have h1 : (bits .and .u32 (x : Int) 1 == 1) = true := by rw [and_one x hx, ho]; rfl
        go_wp2
        go_round
        case rel => exact ⟨k + 1, st x, by omega, by go_num, val_int (by first | exact st_odd x hx ho), st_lt x hx, by show _ = _; rw [Hx.out]; rfl⟩
        case measure => simp [intOf]; omega
      · have h1 : (bits .and .u32 (x : Int) 1 == 1) = false := by rw [and_one x hx]; simp; omega
        go_wp2
        go_round
        case rel => exact ⟨k + 1, st x, by omega, by go_num, val_int (by first | exact st_ev x ho), st_lt x hx, by show _ = _; rw [Hx.out]; rfl⟩
        case measure => simp [intOf]; omega
    · go_wp2
      go_returns
      exact ⟨ret_int (by rw [HR.out, Hx.out, show k = 8 by omega]; rfl), rfl⟩

set_option maxHeartbeats 400000 in
theorem take_any (c : Nat) (b : UInt8) (w : World) (hc : c < 4294967296) :
    Calls Try.prog 76 #[.int .u32 c, .int .u8 b.toNat] w fun e w' => e = .returned (.int .u32 (tk c b : Nat)) ∧ w = w' := by
  have hb := b.toNat_lt
  have e1 : bits .xor .u32 (c : Int) (b.toNat : Int) = ((c ^^^ b.toNat : Nat) : Int) := u32_xor_nat c b.toNat hc (by omega)
  have hd : c ^^^ b.toNat < 4294967296 := Nat.xor_lt_two_pow (n := 32) hc (by omega)
  obtain ⟨R, HR⟩ : ∃ R, Hid (R = tk c b) := ⟨_, rfl⟩
  rw [← HR.out]
  obtain ⟨d, Hd⟩ : ∃ d, Hid (d = c ^^^ b.toNat) := ⟨_, rfl⟩
  rw [← Hd.out] at e1 hd
  go_enter Try.func76, Try.ntmps76
  go_wp2
  clear e1
  go_loop [0, 5] (fun n i => ∃ (k : Nat) (x : Nat), k ≤ 8 ∧ i = .int .i64 k ∧ n = .int .u32 x ∧ x < 4294967296 ∧ Hid (x = sts k d)) (fun _ i => 8 - (intOf i).toNat)
  case atStart => exact ⟨0, d, Nat.zero_le _, rfl, rfl, hd, rfl⟩
  case round =>
    obtain ⟨k, x, hk, rfl, rfl, hx, Hx⟩ := hrel
    by_cases hlt : k < 8
    · by_cases ho : x % 2 = 1
      · have h1 : ((x : Int) % 2 == 1) = true := by simp; omega
        go_wp2
        go_round
        case rel => exact ⟨k + 1, st x, by omega, by go_num, val_int (by first | exact st_odd x hx ho), st_lt x hx, by show _ = _; rw [Hx.out]; rfl⟩
        case measure => simp [intOf]; omega
      · have h1 : ((x : Int) % 2 == 1) = false := by simp; omega
        go_wp2
        go_round
        case rel => exact ⟨k + 1, st x, by omega, by go_num, val_int (by first | exact st_ev x ho), st_lt x hx, by show _ = _; rw [Hx.out]; rfl⟩
        case measure => simp [intOf]; omega
    · go_wp2
      go_returns
      exact ⟨ret_int (by rw [HR.out, Hx.out, show k = 8 by omega, Hd.out]; rfl), rfl⟩

set_option maxHeartbeats 400000 in
theorem refGo_any (c : Nat) (s : ByteArray) (w : World) (hc : c < 4294967296) (hs : s.size ≤ 100000) :
    Calls Try.prog 68 #[.int .u32 c, .string s] w fun e w' => e = .returned (.int .u32 (go c s.data.toList : Nat)) ∧ w = w' := by
  obtain ⟨R, HR⟩ : ∃ R, Hid (R = go c s.data.toList) := ⟨_, rfl⟩
  rw [← HR.out]
  go_enter Try.func68, Try.ntmps68
  go_wp2
  go_loop [0, 5] (fun n i => ∃ (k : Nat) (x : Nat), k ≤ s.size ∧ i = .int .i64 k ∧ n = .int .u32 x ∧ x < 4294967296 ∧ Hid (x = go c (s.data.toList.take k))) (fun _ i => s.size - (intOf i).toNat)
  case atStart => exact ⟨0, c, Nat.zero_le _, rfl, rfl, hc, rfl⟩
  case round =>
    obtain ⟨k, x, hk, rfl, rfl, hx, Hx⟩ := hrel
    by_cases hlt : k < s.size
    · go_wp2_with (go_at_call 76; refine (take_any x s[k] _ hx).mono ?_; rintro e w' ⟨rfl, rfl⟩)
      go_round
      case rel => exact ⟨k + 1, tk x s[k], by omega, by go_num, rfl, tk_lt _ _ hx, by show _ = _; rw [take_snoc s k hlt, go_snoc, Hx.out]⟩
      case measure => simp [intOf]; omega
    · go_wp2
      go_returns
      exact ⟨ret_int (by rw [HR.out, Hx.out, List.take_of_length_le (by simp; omega)]), rfl⟩

theorem not_32 (m : Nat) (h : m < 4294967296) : bits .xor .u32 IntKind.u32.max (m : Int) = ((4294967295 ^^^ m : Nat) : Int) := by
  rw [show IntKind.u32.max = ((4294967295 : Nat) : Int) from by decide, u32_xor_nat 4294967295 m (by omega) (by omega)]

set_option maxHeartbeats 400000 in
theorem refSum_any (s : ByteArray) (w : World) (hs : s.size ≤ 100000) :
    Calls Try.prog 50 #[.string s] w fun e w' => e = .returned (.int .u32 (sum s.data.toList : Nat)) ∧ w = w' := by
  have hg := go_lt 4294967295 s.data.toList (by decide)
  have hn := not_32 _ hg
  rw [← sum_go] at hn
  have HN := Lib.hid hn; clear hn
  go_enter Try.func50, Try.ntmps50
  go_wp2_with (go_at_call 68; refine (refGo_any 4294967295 s _ (by decide) hs).mono ?_; rintro e w' ⟨rfl, rfl⟩)
  go_returns
  exact ⟨ret_int HN.out, rfl⟩
end Go.Proofs.Ythlpehiloabfiaa.Cr
