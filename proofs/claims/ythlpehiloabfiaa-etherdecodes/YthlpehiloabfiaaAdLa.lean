/- Contracts of Link, Source, Part, Group: the program's. -/
import Derived.Test.YthlpehiloabfiaaAdBa
namespace Go.Proofs.Ythlpehiloabfiaa.Ad
open Go.RowKit Go.Proofs.PitotAddr

theorem below_new {w w' : World} (h : Below (w.heap.size) w w') (o : Obj) : Below w.heap.size w (w'.alloc o) := h.alloc h.size _

theorem link_bad (v : Int) (w : World) (hv : ¬ (1 ≤ v ∧ v ≤ 65535)) :
    Calls Try.prog 18 #[.int .i64 v] w fun e w' => e = .returned (.tuple #[.agg #[.int .u8 0, .int .u8 0, .int .u8 0, .int .u8 0, .int .u8 0, .int .u8 0], .int .i64 1]) ∧ Below w.heap.size w w' := by
  have h1 := fun w => isLink_any v w
  rw [decide_eq_false hv] at h1
  have H1 := Lib.hid h1; clear h1
  have HV := Lib.hid hv; clear hv
  go_enter Try.func18, Try.ntmps18
  go_wp2_with (first | (go_at_call 40; (with_reducible refine (H1.out _).mono ?_); rintro e w1 ⟨rfl, rfl⟩))
  go_returns
  exact ⟨rfl, below_new (Below.refl _ _) _⟩

theorem link_ok (n : Nat) (w : World) (h1 : 1 ≤ n) (h2 : n ≤ 65535) :
    Calls Try.prog 18 #[.int .i64 n] w fun e w' => e = .returned (.tuple #[.agg #[.int .u8 3, .int .u8 0, .int .u8 0, .int .u8 0, .int .u8 (hi n).toNat, .int .u8 (lo n).toNat], .int .i64 0]) ∧ Below w.heap.size w w' := by
  have h3 := fun w => isLink_any n w
  rw [decide_eq_true (by omega)] at h3
  have H1 := Lib.hid h3; clear h3
  have hn : n < 65536 := by omega
  go_enter Try.func18, Try.ntmps18
  go_wp2_with (first
    | (go_at_call 40; (with_reducible refine (H1.out _).mono ?_); rintro e w1 ⟨rfl, rfl⟩)
    | (go_at_call 41; (with_reducible refine (high_any n _ hn).mono ?_); rintro e w1 ⟨rfl, rfl⟩)
    | (go_at_call 42; (with_reducible refine (low_any n _ hn).mono ?_); rintro e w1 ⟨rfl, rfl⟩))
  go_returns
  exact ⟨rfl, below_new (Below.refl _ _) _⟩

theorem source_bad (v p : Int) (w : World) (hv : ¬ (0 ≤ v ∧ v ≤ 4095 ∧ 0 ≤ p ∧ p ≤ 1)) :
    Calls Try.prog 19 #[.agg #[.int .i64 v, .int .i64 p]] w fun e w' => e = .returned (.tuple #[.agg #[.int .u8 0, .int .u8 0, .int .u8 0, .int .u8 0, .int .u8 0, .int .u8 0], .int .i64 1]) ∧ Below w.heap.size w w' := by
  by_cases hh : 0 ≤ v ∧ v ≤ 4095
  · have h1 := fun w => isHost_any v w
    rw [decide_eq_true hh] at h1
    have H1 := Lib.hid h1; clear h1
    have hp : ¬ (0 ≤ p ∧ p ≤ 1) := fun h => hv ⟨hh.1, hh.2, h⟩
    clear hv hh
    by_cases h0 : p < 0
    · clear hp
      go_enter Try.func19, Try.ntmps19
      go_wp2_with (first | (go_at_call 43; (with_reducible refine (H1.out _).mono ?_); rintro e w1 ⟨rfl, rfl⟩))
      go_returns
      exact ⟨rfl, below_new (below_new (Below.refl _ _) _) _⟩
    · have h5 : 1 < p := by omega
      clear hp
      go_enter Try.func19, Try.ntmps19
      go_wp2_with (first | (go_at_call 43; (with_reducible refine (H1.out _).mono ?_); rintro e w1 ⟨rfl, rfl⟩))
      go_returns
      exact ⟨rfl, below_new (below_new (Below.refl _ _) _) _⟩
  · have h1 := fun w => isHost_any v w
    rw [decide_eq_false hh] at h1
    have H1 := Lib.hid h1; clear h1 hh hv
    go_enter Try.func19, Try.ntmps19
    go_wp2_with (first | (go_at_call 43; (with_reducible refine (H1.out _).mono ?_); rintro e w1 ⟨rfl, rfl⟩))
    go_returns
    exact ⟨rfl, below_new (below_new (Below.refl _ _) _) _⟩

end Go.Proofs.Ythlpehiloabfiaa.Ad
