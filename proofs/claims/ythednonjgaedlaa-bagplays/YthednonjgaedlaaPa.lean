/- Contracts of the program's small functions: may, period, New, Period, Count, time. -/
import Derived.Test.YthednonjgaedlaaLs
set_option maxRecDepth 100000
namespace Go.Proofs.Ythednonjgaedlaa
open Go.RowKit

set_option maxHeartbeats 400000 in
theorem may_yes (b : Nat) (hb : b ≤ 7) (w : World) : Calls Try.prog 22 #[.int .i64 b] w fun e w' => e = .returned (.bool true) ∧ w = w' := by
  have h1 : (b : Int) ≤ 7 := by omega
  have h2 : (0 : Int) ≤ b := by omega
  clear hb
  go_enter Try.func22, Try.ntmps22
  go_wp2
  go_returns
  exact ⟨rfl, rfl⟩
set_option maxHeartbeats 400000 in
theorem may_no (x : Int) (hx : x < 0 ∨ 7 < x) (w : World) : Calls Try.prog 22 #[.int .i64 x] w fun e w' => e = .returned (.bool false) ∧ w = w' := by
  rcases hx with hx | hx
  · go_enter Try.func22, Try.ntmps22
    go_wp2
    go_returns
    exact ⟨rfl, rfl⟩
  · have h2 : 0 ≤ x := by omega
    have h3 : ¬ x ≤ 7 := by omega
    go_enter Try.func22, Try.ntmps22
    go_wp2
    go_returns
    exact ⟨rfl, rfl⟩

theorem eight {b : Nat} (h : b ≤ 7) : b = 0 ∨ b = 1 ∨ b = 2 ∨ b = 3 ∨ b = 4 ∨ b = 5 ∨ b = 6 ∨ b = 7 := by omega

set_option maxHeartbeats 400000 in
theorem period_any (b : Nat) (hb : b ≤ 7) (w : World) : Calls Try.prog 25 #[.int .i64 b] w fun e w' => e = .returned (.int .i64 (gap b : Nat)) ∧ w = w' := by
  rcases eight hb with rfl | rfl | rfl | rfl | rfl | rfl | rfl | rfl
  all_goals
    clear hb
    go_enter Try.func25, Try.ntmps25
    go_wp2
    go_returns
    exact ⟨rfl, rfl⟩

set_option maxHeartbeats 400000 in
theorem new_yes (b : Nat) (hb : b ≤ 7) (w : World) : Calls Try.prog 9 #[.int .i64 b] w fun e w' => e = .returned (.tuple #[.pointer (some ⟨w.heap.size, 0, none⟩), .int .i64 0]) ∧ w' = w.alloc (S.new b).obj := by
  have HM := fun w => Lib.hid (may_yes b hb w)
  clear hb
  go_enter Try.func9, Try.ntmps9
  go_wp2_with (go_at_call 22; refine (HM _).out.mono ?_; rintro e w1 ⟨rfl, rfl⟩)
  go_returns
  exact ⟨rfl, rfl⟩
set_option maxHeartbeats 400000 in
theorem new_no (x : Int) (hx : x < 0 ∨ 7 < x) (w : World) : Calls Try.prog 9 #[.int .i64 x] w fun e w' => e = .returned (.tuple #[.pointer none, .int .i64 1]) ∧ w = w' := by
  have HM := fun w => Lib.hid (may_no x hx w)
  clear hx
  go_enter Try.func9, Try.ntmps9
  go_wp2_with (go_at_call 22; refine (HM _).out.mono ?_; rintro e w1 ⟨rfl, rfl⟩)
  go_returns
  exact ⟨rfl, rfl⟩

set_option maxHeartbeats 400000 in
theorem perM_any (p : Nat) (s : S) (hs : s.b ≤ 7) (w : World) (h : w.heap[p]? = some s.obj) : Calls Try.prog 19 #[.pointer (some ⟨p, 0, none⟩)] w fun e w' => e = .returned (.int .i64 (gap s.b : Nat)) ∧ w = w' := by
  have c0 : w.cell? ⟨p, 0, none⟩ = some (.int .i64 s.b) := lies_cell h 0
  have HM := fun w => Lib.hid (period_any s.b hs w)
  clear h hs
  obtain ⟨b, hb⟩ : ∃ b, s.b = b := ⟨_, rfl⟩
  rw [hb] at c0 HM ⊢
  clear hb
  go_enter Try.func19, Try.ntmps19
  go_wp2_with (go_at_call 25; refine (HM _).out.mono ?_; rintro e w1 ⟨rfl, rfl⟩)
  go_returns
  exact ⟨rfl, rfl⟩
set_option maxHeartbeats 400000 in
theorem perM_nil (w : World) : Calls Try.prog 19 #[.pointer none] w fun e w' => e = .returned (.int .i64 0) ∧ w = w' := by
  go_enter Try.func19, Try.ntmps19
  go_wp2
  go_returns
  exact ⟨rfl, rfl⟩
set_option maxHeartbeats 400000 in
theorem count_any (p : Nat) (s : S) (w : World) (h : w.heap[p]? = some s.obj) : Calls Try.prog 18 #[.pointer (some ⟨p, 0, none⟩)] w fun e w' => e = .returned (.int .i64 s.n) ∧ w = w' := by
  have c1 : w.cell? ⟨p, 1, none⟩ = some (.int .i64 s.n) := lies_cell h 1
  clear h
  generalize s.n = n at c1 ⊢
  go_enter Try.func18, Try.ntmps18
  go_wp2
  go_returns
  exact ⟨rfl, rfl⟩
set_option maxHeartbeats 400000 in
theorem count_nil (w : World) : Calls Try.prog 18 #[.pointer none] w fun e w' => e = .returned (.int .i64 0) ∧ w = w' := by
  go_enter Try.func18, Try.ntmps18
  go_wp2
  go_returns
  exact ⟨rfl, rfl⟩
set_option maxHeartbeats 400000 in
theorem reset_nil (w : World) : Calls Try.prog 16 #[.pointer none] w fun e w' => e = .returned (.tuple #[]) ∧ w = w' := by
  go_enter Try.func16, Try.ntmps16
  go_wp2
  go_returns
  exact ⟨rfl, rfl⟩
set_option maxHeartbeats 400000 in
theorem reset_any (p : Nat) (s : S) (w : World) (h : w.heap[p]? = some s.obj) : Calls Try.prog 16 #[.pointer (some ⟨p, 0, none⟩)] w fun e w' => e = .returned (.tuple #[]) ∧ w'.heap[p]? = some s.reset.obj ∧ w.grownBy w' (some p) := by
  have f2 : w.frozen? ⟨p, 2, none⟩ = false := lies_frozen h 2
  have f3 : w.frozen? ⟨p, 3, none⟩ = false := lies_frozen h 3
  have c2 : w.cell? ⟨p, 2, none⟩ = some (.bool s.g) := lies_cell h 2
  have c3 : w.cell? ⟨p, 3, none⟩ = some (.int .i64 s.a) := lies_cell h 3
  have H := Lib.hid h
  clear h
  obtain ⟨g, hg⟩ : ∃ b, s.g = b := ⟨_, rfl⟩
  obtain ⟨a, ha⟩ : ∃ b, s.a = b := ⟨_, rfl⟩
  rw [hg] at c2
  rw [ha] at c3
  clear hg ha
  go_enter Try.func16, Try.ntmps16
  go_wp2
  go_returns
  refine ⟨rfl, ?_, ?_⟩
  · have h1 := lies_set H.out 2 (.bool false)
    exact lies_set h1 3 (.int .i64 0)
  · exact (grown_set p 2 _).trans (grown_set p 3 _)
end Go.Proofs.Ythednonjgaedlaa
