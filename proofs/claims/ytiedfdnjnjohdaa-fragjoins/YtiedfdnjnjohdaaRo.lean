/- Contracts of Room and Count, the program's and the document's. -/
import Derived.Test.YtiedfdnjnjohdaaProg
import Derived.Test.YtiedfdnjnjohdaaFrMath
import Derived.WalkKit
import Derived.Below
import Derived.Handy
import Derived.IntWalk
import Derived.Lib.Hide
namespace Go.Proofs.Ytiedfdnjnjohdaa
open Go.RowKit Go.Proofs.PitotFrag

theorem ret_int {a b : Int} (h : a = b) : Ending.returned (.int .i64 a) = .returned (.int .i64 b) := by rw [h]
theorem ret_two {a b : Int} {v : Value} (h : a = b) : Ending.returned (.tuple #[.int .i64 a, v]) = .returned (.tuple #[.int .i64 b, v]) := by rw [h]

set_option maxHeartbeats 400000 in
theorem lastRoom_any (m : Nat) (hm : m ≤ 1479) (w : World) :
    Calls Try.prog 23 #[.int .i64 (m + 39)] w fun e w' => e = .returned (.int .i64 m) ∧ w = w' := by
  go_enter Try.func23, Try.ntmps23
  go_wp2
  go_returns
  exact ⟨ret_int (by omega), rfl⟩

set_option maxHeartbeats 400000 in
theorem room_arg (x : Int) (hx : x < 64 ∨ 1518 < x) (w : World) :
    Calls Try.prog 9 #[.int .i64 x] w fun e w' => e = .returned (.tuple #[.int .i64 0, .int .i64 1]) ∧ w = w' := by
  by_cases h1 : x < 64
  · clear hx
    go_enter Try.func9, Try.ntmps9
    go_wp2
    go_returns
    exact ⟨rfl, rfl⟩
  · have h2 : 1518 < x := by omega
    clear hx
    go_enter Try.func9, Try.ntmps9
    go_wp2
    go_returns
    exact ⟨rfl, rfl⟩

set_option maxHeartbeats 400000 in
theorem room_ok (m : Nat) (h1 : 25 ≤ m) (hm : m ≤ 1479) (w : World) :
    Calls Try.prog 9 #[.int .i64 (m + 39)] w fun e w' => e = .returned (.tuple #[.int .i64 (m / 8 * 8 : Nat), .int .i64 0]) ∧ w = w' := by
  have H := Lib.hid (lastRoom_any m hm)
  go_enter Try.func9, Try.ntmps9
  go_wp2_with (go_at_call 23; (with_reducible refine (H.out _).mono ?_); rintro r w1 ⟨rfl, rfl⟩)
  go_returns
  exact ⟨ret_two (by omega), rfl⟩

set_option maxHeartbeats 400000 in
theorem refRoom_arg (x : Int) (hx : x < 64 ∨ 1518 < x) (w : World) :
    Calls Try.prog 10 #[.int .i64 x] w fun e w' => e = .returned (.tuple #[.int .i64 0, .int .i64 1]) ∧ w = w' := by
  by_cases h1 : x < 64
  · clear hx
    go_enter Try.func10, Try.ntmps10
    go_wp2
    go_returns
    exact ⟨rfl, rfl⟩
  · have h2 : 1518 < x := by omega
    clear hx
    go_enter Try.func10, Try.ntmps10
    go_wp2
    go_returns
    exact ⟨rfl, rfl⟩

set_option maxHeartbeats 400000 in
theorem refRoom_ok (m : Nat) (h1 : 25 ≤ m) (hm : m ≤ 1479) (w : World) :
    Calls Try.prog 10 #[.int .i64 (m + 39)] w fun e w' => e = .returned (.tuple #[.int .i64 (m / 8 * 8 : Nat), .int .i64 0]) ∧ w = w' := by
  go_enter Try.func10, Try.ntmps10
  go_wp2
  go_returns
  exact ⟨ret_two (by omega), rfl⟩

/-- How many parts so many bytes become, of which each takes up to m. -/
def cn (l m : Nat) : Nat := cnt l m (m / 8 * 8) + 1

set_option maxHeartbeats 400000 in
theorem count_arg (x y : Int) (hx : x < 64 ∨ 1518 < x) (w : World) :
    Calls Try.prog 11 #[.int .i64 y, .int .i64 x] w fun e w' => e = .returned (.tuple #[.int .i64 0, .int .i64 1]) ∧ w = w' := by
  have H := Lib.hid (room_arg x hx)
  clear hx
  go_enter Try.func11, Try.ntmps11
  go_wp2_with (go_at_call 9; (with_reducible refine (H.out _).mono ?_); rintro r w1 ⟨rfl, rfl⟩)
  go_returns
  exact ⟨rfl, rfl⟩

set_option maxHeartbeats 400000 in
theorem count_neg (m : Nat) (y : Int) (h1 : 25 ≤ m) (hm : m ≤ 1479) (hy : y < 0) (w : World) :
    Calls Try.prog 11 #[.int .i64 y, .int .i64 (m + 39)] w fun e w' => e = .returned (.tuple #[.int .i64 0, .int .i64 1]) ∧ w = w' := by
  have H := Lib.hid (room_ok m h1 hm)
  go_enter Try.func11, Try.ntmps11
  go_wp2_with (go_at_call 9; (with_reducible refine (H.out _).mono ?_); rintro r w1 ⟨rfl, rfl⟩)
  go_returns
  exact ⟨rfl, rfl⟩

set_option maxHeartbeats 400000 in
theorem count_long (m : Nat) (y : Int) (h1 : 25 ≤ m) (hm : m ≤ 1479) (hy : 65515 < y) (w : World) :
    Calls Try.prog 11 #[.int .i64 y, .int .i64 (m + 39)] w fun e w' => e = .returned (.tuple #[.int .i64 0, .int .i64 11]) ∧ w = w' := by
  have H := Lib.hid (room_ok m h1 hm)
  go_enter Try.func11, Try.ntmps11
  go_wp2_with (go_at_call 9; (with_reducible refine (H.out _).mono ?_); rintro r w1 ⟨rfl, rfl⟩)
  go_returns
  exact ⟨rfl, rfl⟩

set_option maxHeartbeats 400000 in
theorem count_ok (m l : Nat) (h1 : 25 ≤ m) (hm : m ≤ 1479) (hl : l ≤ 65515) (w : World) :
    Calls Try.prog 11 #[.int .i64 l, .int .i64 (m + 39)] w fun e w' => e = .returned (.tuple #[.int .i64 (cn l m), .int .i64 0]) ∧ w = w' := by
  have H := room_ok m h1 hm
  have H2 := Lib.hid (lastRoom_any m hm)
  obtain ⟨R, hR⟩ : ∃ R, R = m / 8 * 8 := ⟨_, rfl⟩
  have r1 : 24 ≤ R := by omega
  have r2 : R ≤ 1479 := by omega
  obtain ⟨C, hC⟩ : ∃ C, Hid (C = cn l m) := ⟨_, rfl⟩
  rw [← hC.out]
  rw [← hR] at H
  have H := Lib.hid H
  have HC : Hid (C = (l - m + R - 1) / R + 1) := by show _ = _; rw [hC.out, cn, cnt, ← hR]
  have HD : Hid (∀ X : Int, X = ((l - m + R - 1 : Nat) : Int) → wrap64 (X / R + 1) = C) := by
    show ∀ X : Int, _
    rintro X rfl
    have h := Nat.div_le_self (l - m + R - 1) R
    rw [show ((l - m + R - 1 : Nat) : Int) / (R : Int) + 1 = (C : Int) by rw [HC.out]; simp]
    have : C ≤ 70000 := by rw [HC.out]; omega
    unfold wrap64; omega
  clear hR hC HC
  by_cases hlm : m < l
  · go_enter Try.func11, Try.ntmps11
    go_wp2_with (first
      | (go_at_call 9; (with_reducible refine (H.out _).mono ?_); rintro r w1 ⟨rfl, rfl⟩)
      | (go_at_call 23; (with_reducible refine (H2.out _).mono ?_); rintro r w1 ⟨rfl, rfl⟩))
    go_returns
    exact ⟨ret_two (HD.out _ (by omega)), rfl⟩
  · go_enter Try.func11, Try.ntmps11
    go_wp2_with (first
      | (go_at_call 9; (with_reducible refine (H.out _).mono ?_); rintro r w1 ⟨rfl, rfl⟩)
      | (go_at_call 23; (with_reducible refine (H2.out _).mono ?_); rintro r w1 ⟨rfl, rfl⟩))
    go_returns
    exact ⟨ret_two (HD.out _ (by omega)), rfl⟩

set_option maxHeartbeats 400000 in
theorem refCount_arg (x y : Int) (hx : x < 64 ∨ 1518 < x) (w : World) :
    Calls Try.prog 12 #[.int .i64 y, .int .i64 x] w fun e w' => e = .returned (.tuple #[.int .i64 0, .int .i64 1]) ∧ w = w' := by
  have H := Lib.hid (refRoom_arg x hx)
  clear hx
  go_enter Try.func12, Try.ntmps12
  go_wp2_with (go_at_call 10; (with_reducible refine (H.out _).mono ?_); rintro r w1 ⟨rfl, rfl⟩)
  go_returns
  exact ⟨rfl, rfl⟩

set_option maxHeartbeats 400000 in
theorem refCount_neg (m : Nat) (y : Int) (h1 : 25 ≤ m) (hm : m ≤ 1479) (hy : y < 0) (w : World) :
    Calls Try.prog 12 #[.int .i64 y, .int .i64 (m + 39)] w fun e w' => e = .returned (.tuple #[.int .i64 0, .int .i64 1]) ∧ w = w' := by
  have H := Lib.hid (refRoom_ok m h1 hm)
  go_enter Try.func12, Try.ntmps12
  go_wp2_with (go_at_call 10; (with_reducible refine (H.out _).mono ?_); rintro r w1 ⟨rfl, rfl⟩)
  go_returns
  exact ⟨rfl, rfl⟩

set_option maxHeartbeats 400000 in
theorem refCount_long (m : Nat) (y : Int) (h1 : 25 ≤ m) (hm : m ≤ 1479) (hy : 65515 < y) (w : World) :
    Calls Try.prog 12 #[.int .i64 y, .int .i64 (m + 39)] w fun e w' => e = .returned (.tuple #[.int .i64 0, .int .i64 11]) ∧ w = w' := by
  have H := Lib.hid (refRoom_ok m h1 hm)
  go_enter Try.func12, Try.ntmps12
  go_wp2_with (go_at_call 10; (with_reducible refine (H.out _).mono ?_); rintro r w1 ⟨rfl, rfl⟩)
  go_returns
  exact ⟨rfl, rfl⟩

set_option maxHeartbeats 400000 in
theorem refCount_ok (m l : Nat) (h1 : 25 ≤ m) (hm : m ≤ 1479) (hl : l ≤ 65515) (w : World) :
    Calls Try.prog 12 #[.int .i64 l, .int .i64 (m + 39)] w fun e w' => e = .returned (.tuple #[.int .i64 (cn l m), .int .i64 0]) ∧ w = w' := by
  have H := refRoom_ok m h1 hm
  obtain ⟨R, hR⟩ : ∃ R, R = m / 8 * 8 := ⟨_, rfl⟩
  have r1 : 24 ≤ R := by omega
  have r2 : R ≤ m := by omega
  obtain ⟨C, hC⟩ : ∃ C, Hid (C = cn l m) := ⟨_, rfl⟩
  rw [← hC.out]
  rw [← hR] at H
  have H := Lib.hid H
  have HC : Hid (C = cnt l m R + 1) := by show _ = _; rw [hC.out, cn, ← hR]
  clear hR hC
  go_enter Try.func12, Try.ntmps12
  go_wp2_with (first
    | (go_at_call 10; (with_reducible refine (H.out _).mono ?_); rintro r w1 ⟨rfl, rfl⟩))
  go_loop [0, 8] (fun v0 v8 => ∃ (k n : Nat), v0 = .int .i64 k ∧ v8 = .int .i64 n ∧ k ≤ l ∧ k + n ≤ 65516 ∧ Hid (C = cnt k m R + n)) (fun v0 _ => (intOf v0).toNat)
  case atStart => exact ⟨l, 1, rfl, rfl, Nat.le_refl _, by omega, HC⟩
  case round =>
    obtain ⟨k, n, rfl, rfl, hk, hkn, ht⟩ := hrel
    by_cases hlt : m < k
    · have HS : Hid (C = cnt (k - R) m R + (n + 1)) := by show _ = _; rw [ht.out, cnt_step (by omega) hlt]; omega
      go_wp2
      go_round
      case rel => exact ⟨k - R, n + 1, by congr 1; omega, by go_num, by omega, by omega, HS⟩
      case measure => simp [intOf]; omega
    · have HS : Hid (C = n) := by show _ = _; rw [ht.out, cnt_zero (by omega) (by omega)]; omega
      go_wp2
      go_returns
      refine ⟨ret_two ?_, rfl⟩
      rw [HS.out]
end Go.Proofs.Ytiedfdnjnjohdaa
