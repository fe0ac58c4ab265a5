/- Contracts of Room and Count, the program's and the document's. -/
import Derived.Test.YtgdjcoodjdckkaaProg
import Derived.Test.YtgdjcoodjdckkaaFrMath
import Derived.WalkKit
import Derived.Below
import Derived.Handy
import Derived.IntWalk
import Derived.Lib.Hide
namespace Go.Proofs.Ytgdjcoodjdckkaa
open Go.RowKit Go.Proofs.PitotFrag

theorem ret_int {a b : Int} (h : a = b) : Ending.returned (.int .i64 a) = .returned (.int .i64 b) := by rw [h]
theorem ret_two {a b : Int} {v : Value} (h : a = b) : Ending.returned (.tuple #[.int .i64 a, v]) = .returned (.tuple #[.int .i64 b, v]) := by rw [h]

set_option maxHeartbeats 400000 in
theorem lastRoom_any (m : Nat) (hm : m ≤ 1479) (w : World) :
    Calls Try.prog 40 #[.int .i64 (m + 39)] w fun e w' => e = .returned (.int .i64 m) ∧ w = w' := by
  go_enter Try.func40, Try.ntmps40
  go_wp2
  go_returns
  exact ⟨ret_int (by omega), rfl⟩

set_option maxHeartbeats 400000 in
theorem room_arg (x : Int) (hx : x < 64 ∨ 1518 < x) (w : World) :
    Calls Try.prog 31 #[.int .i64 x] w fun e w' => e = .returned (.tuple #[.int .i64 0, .int .i64 1]) ∧ w = w' := by
  by_cases h1 : x < 64
  · clear hx
    go_enter Try.func31, Try.ntmps31
    go_wp2
    go_returns
    exact ⟨rfl, rfl⟩
  · have h2 : 1518 < x := by omega
    clear hx
    go_enter Try.func31, Try.ntmps31
    go_wp2
    go_returns
    exact ⟨rfl, rfl⟩

set_option maxHeartbeats 400000 in
theorem room_ok (m : Nat) (h1 : 25 ≤ m) (hm : m ≤ 1479) (w : World) :
    Calls Try.prog 31 #[.int .i64 (m + 39)] w fun e w' => e = .returned (.tuple #[.int .i64 (m / 8 * 8 : Nat), .int .i64 0]) ∧ w = w' := by
  have H := Lib.hid (lastRoom_any m hm)
  go_enter Try.func31, Try.ntmps31
  go_wp2_with (go_at_call 40; (with_reducible refine (H.out _).mono ?_); rintro r w1 ⟨rfl, rfl⟩)
  go_returns
  exact ⟨ret_two (by omega), rfl⟩

/-- How many parts so many bytes become, of which each takes up to m. -/
def cn (l m : Nat) : Nat := cnt l m (m / 8 * 8) + 1

set_option maxHeartbeats 400000 in
theorem count_arg (x y : Int) (hx : x < 64 ∨ 1518 < x) (w : World) :
    Calls Try.prog 32 #[.int .i64 y, .int .i64 x] w fun e w' => e = .returned (.tuple #[.int .i64 0, .int .i64 1]) ∧ w = w' := by
  have H := Lib.hid (room_arg x hx)
  clear hx
  go_enter Try.func32, Try.ntmps32
  go_wp2_with (go_at_call 31; (with_reducible refine (H.out _).mono ?_); rintro r w1 ⟨rfl, rfl⟩)
  go_returns
  exact ⟨rfl, rfl⟩

set_option maxHeartbeats 400000 in
theorem count_neg (m : Nat) (y : Int) (h1 : 25 ≤ m) (hm : m ≤ 1479) (hy : y < 0) (w : World) :
    Calls Try.prog 32 #[.int .i64 y, .int .i64 (m + 39)] w fun e w' => e = .returned (.tuple #[.int .i64 0, .int .i64 1]) ∧ w = w' := by
  have H := Lib.hid (room_ok m h1 hm)
  go_enter Try.func32, Try.ntmps32
  go_wp2_with (go_at_call 31; (with_reducible refine (H.out _).mono ?_); rintro r w1 ⟨rfl, rfl⟩)
  go_returns
  exact ⟨rfl, rfl⟩

set_option maxHeartbeats 400000 in
theorem count_long (m : Nat) (y : Int) (h1 : 25 ≤ m) (hm : m ≤ 1479) (hy : 65515 < y) (w : World) :
    Calls Try.prog 32 #[.int .i64 y, .int .i64 (m + 39)] w fun e w' => e = .returned (.tuple #[.int .i64 0, .int .i64 11]) ∧ w = w' := by
  have H := Lib.hid (room_ok m h1 hm)
  go_enter Try.func32, Try.ntmps32
  go_wp2_with (go_at_call 31; (with_reducible refine (H.out _).mono ?_); rintro r w1 ⟨rfl, rfl⟩)
  go_returns
  exact ⟨rfl, rfl⟩

set_option maxHeartbeats 400000 in
theorem count_ok (m l : Nat) (h1 : 25 ≤ m) (hm : m ≤ 1479) (hl : l ≤ 65515) (w : World) :
    Calls Try.prog 32 #[.int .i64 l, .int .i64 (m + 39)] w fun e w' => e = .returned (.tuple #[.int .i64 (cn l m), .int .i64 0]) ∧ w = w' := by
  have H := room_ok m h1 hm
  have H2 := Lib.hid (lastRoom_any m hm)
  obtain ⟨R, hR⟩ : ∃ R, R = m / 8 * 8 := ⟨_, rfl⟩
  have r1 : 24 ≤ R := by omega
  have r2 : R ≤ 1479 := by omega
  obtain ⟨C, hC⟩ : ∃ C, Hid (C = cn l m) := ⟨_, rfl⟩
  rw [← hC.out]
  rw [← hR] at H
  have H := Lib.hid H
  have HC : Hid (C = (l - m + R - 1) / R + 1) := by show _ = _; rw [hC.out, cn, cnt, ← hR]
  have HD : Hid (∀ X : Int, X = ((l - m + R - 1 : Nat) : Int) → wrap64 (X / R + 1) = C) := by
    show ∀ X : Int, _
    rintro X rfl
    have h := Nat.div_le_self (l - m + R - 1) R
    rw [show ((l - m + R - 1 : Nat) : Int) / (R : Int) + 1 = (C : Int) by rw [HC.out]; simp]
    have : C ≤ 70000 := by rw [HC.out]; omega
    unfold wrap64; omega
  clear hR hC HC
  by_cases hlm : m < l
  · go_enter Try.func32, Try.ntmps32
    go_wp2_with (first
      | (go_at_call 31; (with_reducible refine (H.out _).mono ?_); rintro r w1 ⟨rfl, rfl⟩)
      | (go_at_call 40; (with_reducible refine (H2.out _).mono ?_); rintro r w1 ⟨rfl, rfl⟩))
    go_returns
    exact ⟨ret_two (HD.out _ (by omega)), rfl⟩
  · go_enter Try.func32, Try.ntmps32
    go_wp2_with (first
      | (go_at_call 31; (with_reducible refine (H.out _).mono ?_); rintro r w1 ⟨rfl, rfl⟩)
      | (go_at_call 40; (with_reducible refine (H2.out _).mono ?_); rintro r w1 ⟨rfl, rfl⟩))
    go_returns
    exact ⟨ret_two (HD.out _ (by omega)), rfl⟩

end Go.Proofs.Ytgdjcoodjdckkaa
