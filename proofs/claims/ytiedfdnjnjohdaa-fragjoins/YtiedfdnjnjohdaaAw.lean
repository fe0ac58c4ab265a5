/- Contracts of Join at nothing, and of awake. -/
import Derived.Test.YtiedfdnjnjohdaaRo
import Derived.Test.YtiedfdnjnjohdaaRh
set_option maxRecDepth 100000
namespace Go.Proofs.Ytiedfdnjnjohdaa
open Go.RowKit Go.Proofs.PitotFrag
open Go.Proofs.Ytiedfdnjnjohdaa.Bi (lies_lt lies_cell lies_frozen lies_alloc)

set_option maxHeartbeats 1000000 in
theorem join_none (w : World) : Calls Try.prog 19 #[.slice none 0 0] w fun e w' => e = .returned (.tuple #[pk0, .int .i64 23]) ∧ Below w.heap.size w w' := by
  go_enter Try.func19, Try.ntmps19
  go_wp2
  (try simp only [Exit.inBlock, Exit.then])
  refine bodyPost_ret (by simp [results, Try.results19, go_sem]; try rfl) rfl ?_
  exact ⟨rfl, (Below.refl _ _).alloc (Nat.le_refl _) _⟩

set_option maxHeartbeats 1000000 in
theorem awake_any (w : World) : Calls Try.prog 13 #[] w fun e w' => e = .returned (.bool true) ∧ Below w.heap.size w w' := by
  have H1 := Lib.hid (fun w => room_ok 25 (by omega) (by omega) w)
  have H2 := Lib.hid (fun w => count_ok 25 25 (by omega) (by omega) (by omega) w)
  have H3 := Lib.hid (fun w => count_ok 25 26 (by omega) (by omega) (by omega) w)
  have H4 := Lib.hid join_none
  have H1 : Hid (∀ w, Calls Try.prog 9 #[.int .i64 64] w fun e w' => e = .returned (.tuple #[.int .i64 24, .int .i64 0]) ∧ w = w') := H1.out
  have H2 : Hid (∀ w, Calls Try.prog 11 #[.int .i64 25, .int .i64 64] w fun e w' => e = .returned (.tuple #[.int .i64 1, .int .i64 0]) ∧ w = w') := H2.out
  have H3 : Hid (∀ w, Calls Try.prog 11 #[.int .i64 26, .int .i64 64] w fun e w' => e = .returned (.tuple #[.int .i64 2, .int .i64 0]) ∧ w = w') := H3.out
  go_enter Try.func13, Try.ntmps13
  go_wp2_with (first
    | (go_at_call 9; (with_reducible refine (H1.out _).mono ?_); rintro r w1 ⟨rfl, rfl⟩)
    | (go_at_call 11; (with_reducible refine (H2.out _).mono ?_); rintro r w1 ⟨rfl, rfl⟩)
    | (go_at_call 11; (with_reducible refine (H3.out _).mono ?_); rintro r w1 ⟨rfl, rfl⟩)
    | (go_at_call 19; (with_reducible refine (H4.out _).mono ?_); rintro r w2 ⟨rfl, hb⟩))
  go_returns
  exact ⟨rfl, hb.alloc hb.size _⟩
end Go.Proofs.Ytiedfdnjnjohdaa
