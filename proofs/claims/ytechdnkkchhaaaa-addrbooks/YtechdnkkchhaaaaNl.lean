/- Contracts of the book's functions where there is no book. -/
import Derived.Test.YtechdnkkchhaaaaVl
set_option maxRecDepth 100000
namespace Go.Proofs.Ytechdnkkchhaaaa
open Go.RowKit Go.Proofs.PitotAddr

theorem put_nil (a b c d e f : UInt8) (n : Int) (w : World) :
    Calls Try.prog 32 #[.pointer none, mac a b c d e f, .int .i64 n] w fun r w' => r = .returned (.tuple #[.int .i64 0, .bool false]) ∧ Below w.heap.size w w' := by
  go_enter Try.func32, Try.ntmps32
  go_wp2
  go_returns
  exact ⟨rfl, below_new (Below.refl _ _) _⟩
theorem get_nil (a b c d e f : UInt8) (w : World) :
    Calls Try.prog 34 #[.pointer none, mac a b c d e f] w fun r w' => r = .returned (.tuple #[.int .i64 0, .bool false]) ∧ Below w.heap.size w w' := by
  go_enter Try.func34, Try.ntmps34
  go_wp2
  go_returns
  exact ⟨rfl, below_new (Below.refl _ _) _⟩
theorem drop_nil (a b c d e f : UInt8) (w : World) :
    Calls Try.prog 36 #[.pointer none, mac a b c d e f] w fun r w' => r = .returned (.bool false) ∧ Below w.heap.size w w' := by
  go_enter Try.func36, Try.ntmps36
  go_wp2_with (go_at_call 34; (with_reducible refine (get_nil a b c d e f _).mono ?_); rintro r w1 ⟨rfl, hb1⟩)
  go_returns
  exact ⟨rfl, ((Below.refl _ w).alloc (Nat.le_refl _) _).trans (hb1.mono (by simp))⟩
theorem all_nil (w : World) :
    Calls Try.prog 38 #[.pointer none] w fun r w' => r = .returned (.slice none 0 0) ∧ w = w' := by
  go_enter Try.func38, Try.ntmps38
  go_wp2
  go_returns
  exact ⟨rfl, rfl⟩
end Go.Proofs.Ytechdnkkchhaaaa
