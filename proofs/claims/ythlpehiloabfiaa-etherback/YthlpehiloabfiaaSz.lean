/- Contracts of Size (the program's, the document's): how long a frame is. -/
import Derived.Test.YthlpehiloabfiaaProg
import Derived.Test.YthlpehiloabfiaaEtMath
import Derived.WalkKit
import Derived.ProofKit
import Derived.Handy
import Derived.Lib.Hide
namespace Go.Proofs.Ythlpehiloabfiaa
open Go.RowKit

/-- How many bytes a frame has that carries so many. -/
def sz (n : Int) : Int := max 64 (min n 1499 + 19)

theorem sz_nat (n : Nat) (h : n ≤ 1499) : sz n = ((max n 45 + 19 : Nat) : Int) := by unfold sz; omega

theorem ret_int {k : IntKind} {a b : Int} (h : a = b) : Ending.returned (.int k a) = .returned (.int k b) := by rw [h]

set_option maxHeartbeats 400000 in
theorem size_any (n : Int) (w : World) (h : -9223372036854775808 ≤ n) :
    Calls Try.prog 12 #[.int .i64 n] w fun e w' => e = .returned (.int .i64 (sz n)) ∧ w = w' := by
  by_cases h1 : n < 1499
  · by_cases h2 : n < 45
    · go_enter Try.func12, Try.ntmps12
      go_wp2
      go_returns
      exact ⟨ret_int (by unfold sz; omega), rfl⟩
    · go_enter Try.func12, Try.ntmps12
      go_wp2
      all_goals
        go_returns
        exact ⟨ret_int (by unfold sz; omega), rfl⟩
  · go_enter Try.func12, Try.ntmps12
    go_wp2
    all_goals
      go_returns
      exact ⟨ret_int (by unfold sz; omega), rfl⟩

set_option maxHeartbeats 400000 in
theorem refSize_any (n : Int) (w : World) (h : -9223372036854775808 ≤ n) :
    Calls Try.prog 13 #[.int .i64 n] w fun e w' => e = .returned (.int .i64 (sz n)) ∧ w = w' := by
  by_cases h1 : n < 1499
  · by_cases h2 : n < 45
    · go_enter Try.func13, Try.ntmps13
      go_wp2
      go_returns
      exact ⟨ret_int (by unfold sz; omega), rfl⟩
    · go_enter Try.func13, Try.ntmps13
      go_wp2
      all_goals
        go_returns
        exact ⟨ret_int (by unfold sz; omega), rfl⟩
  · go_enter Try.func13, Try.ntmps13
    go_wp2
    all_goals
      go_returns
      exact ⟨ret_int (by unfold sz; omega), rfl⟩

/-- The bytes 0 behind so many. -/
def fill (n : Nat) : List UInt8 := List.replicate (45 - n) 0
end Go.Proofs.Ythlpehiloabfiaa
