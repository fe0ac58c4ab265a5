/- Contracts of same, awake (the law's). -/
import Derived.Test.YtechdnkkchhaaaaPr
import Derived.Test.YtechdnkkchhaaaaWh
namespace Go.Proofs.Ytechdnkkchhaaaa
open Go.RowKit Go.Proofs.PitotAddr

set_option maxRecDepth 100000 in
set_option maxHeartbeats 2000000 in
theorem same_ok (a b c d e f : UInt8) (w : World) :
    Calls Try.prog 12 #[mac a b c d e f, .int .i64 0, .string ⟨#[a, b, c, d, e, f]⟩, .int .i64 0] w fun r w' => r = .returned (.bool true) ∧ Below w.heap.size w w' := by
  obtain ⟨S, HS⟩ : ∃ S : ByteArray, Hid (S = ⟨#[a, b, c, d, e, f]⟩) := ⟨_, rfl⟩
  have ht := fun w => text_any a b c d e f w
  rw [← HS.out] at ht ⊢
  have HT := Lib.hid ht; clear ht
  go_enter Try.func12, Try.ntmps12
  go_wp2_with (first
    | (go_at_call 23; (with_reducible refine (HT.out _).mono ?_); rintro r w1 ⟨rfl, hb1⟩))
  go_returns
  exact ⟨rfl, ((Below.refl _ _).alloc (Nat.le_refl _) _).trans (hb1.mono (by simp))⟩

set_option maxRecDepth 100000 in
set_option maxHeartbeats 2000000 in
theorem same_bad (k : Int) (s : ByteArray) (w : World) (hk : k ≠ 0) :
    Calls Try.prog 12 #[.agg #[.int .u8 0, .int .u8 0, .int .u8 0, .int .u8 0, .int .u8 0, .int .u8 0], .int .i64 k, .string s, .int .i64 k] w fun r w' => r = .returned (.bool true) ∧ Below w.heap.size w w' := by
  have heq : ∀ w, (Go.Op.equalIn 10000 23 (.agg #[.int .u8 0, .int .u8 0, .int .u8 0, .int .u8 0, .int .u8 0, .int .u8 0]) (.agg #[.int .u8 0, .int .u8 0, .int .u8 0, .int .u8 0, .int .u8 0, .int .u8 0])).run Try.prog w = .ok true w := fun w => by
    rw [eq6]; rfl
  have h1 : (k == 0) = false := by simp [hk]
  have h2 : (k != 0) = true := by simp [hk]
  go_enter Try.func12, Try.ntmps12
  go_wp2
  go_returns
  exact ⟨rfl, (Below.refl _ _).alloc (Nat.le_refl _) _⟩

theorem known : pk [3, 0, 0, 0, 1, 2] 6 = [48, 51, 58, 48, 48, 58, 48, 48, 58, 48, 48, 58, 48, 49, 58, 48, 50] := by decide

set_option maxRecDepth 100000 in
set_option maxHeartbeats 2000000 in
theorem awake_any (w : World) : Calls Try.prog 20 #[] w fun e w' => e = .returned (.bool true) ∧ Below w.heap.size w w' := by
  have h1 := fun w => link_ok 258 w (by omega) (by omega)
  have h2 := fun w => of_any 2 0 0 0 7 64 w
  have h3 := fun w => whose_any 10 0 7 2 w
  have h4 := fun w => print_any 3 0 0 0 1 2 w
  rw [known] at h4
  have e2 : ofA ⟨2, 0, 0, 0, 7, 64⟩ = .tuple #[.agg #[.int .i64 7, .int .i64 1], .int .i64 0] := rfl
  have e3 : whoA 10 0 7 2 = .tuple #[.int .i64 7, .int .i64 2, .int .i64 0, .int .i64 0] := rfl
  rw [e2] at h2
  rw [e3] at h3
  replace h1 : ∀ w, Calls Try.prog 10 #[.int .i64 258] w fun e w' => e = .returned (.tuple #[.agg #[.int .u8 3, .int .u8 0, .int .u8 0, .int .u8 0, .int .u8 1, .int .u8 2], .int .i64 0]) ∧ Below w.heap.size w w' := h1
  replace h2 : ∀ w, Calls Try.prog 24 #[.agg #[.int .u8 2, .int .u8 0, .int .u8 0, .int .u8 0, .int .u8 7, .int .u8 64]] w fun r w' => Hid (r = .returned (.tuple #[.agg #[.int .i64 7, .int .i64 1], .int .i64 0])) ∧ Below w.heap.size w w' := h2
  replace h3 : ∀ w, Calls Try.prog 26 #[.agg #[.int .u8 10, .int .u8 0, .int .u8 7, .int .u8 2]] w fun r w' => Hid (r = .returned (.tuple #[.int .i64 7, .int .i64 2, .int .i64 0, .int .i64 0])) ∧ Below w.heap.size w w' := h3
  replace h4 : ∀ w, Calls Try.prog 30 #[.agg #[.int .u8 3, .int .u8 0, .int .u8 0, .int .u8 0, .int .u8 1, .int .u8 2]] w fun r w' => Hid (r = .returned (.string ⟨#[48, 51, 58, 48, 48, 58, 48, 48, 58, 48, 48, 58, 48, 49, 58, 48, 50]⟩)) ∧ Below w.heap.size w w' := h4
  have H1 := Lib.hid h1; clear h1
  have H2 := Lib.hid h2; clear h2
  have H3 := Lib.hid h3; clear h3
  have H4 := Lib.hid h4; clear h4
  clear e2 e3
  go_enter Try.func20, Try.ntmps20
  go_wp2_with (first
    | (go_at_call 10; (with_reducible refine (H1.out _).mono ?_); rintro e w1 ⟨rfl, hb1⟩)
    | (go_at_call 24; (with_reducible refine (H2.out _).mono ?_); rintro e w2 ⟨he, hb2⟩; (obtain rfl := he.out)
       (have L2 := Lib.hid (fun o => lies_alloc (lies_below (heap_alloc_new w1 _) hb2 (by simp)) o)))
    | (go_at_call 26; (with_reducible refine (H3.out _).mono ?_); rintro e w3 ⟨he, hb3⟩; (obtain rfl := he.out)
       (have L3 := lies_below (L2.out _) hb3 (lies_lt (L2.out _)))
       (have L4 := lies_below (heap_alloc_new w2 _) hb3 (by simp))
       (obtain ⟨k0, k1, k2, k3, k4, k5⟩ := six L3)
       (have L4 := Lib.hid L4); clear L3)
    | (go_at_call 30; (with_reducible refine (H4.out _).mono ?_); rintro e w4 ⟨he, hb4⟩; (obtain rfl := he.out)
       (have L5 := lies_below L4.out hb4 (lies_lt L4.out))
       (obtain ⟨j0, j1⟩ := two L5)))
  go_returns
  refine ⟨rfl, ?_⟩
  have g1 := below_new hb1 (.cells #[.int .u8 3, .int .u8 0, .int .u8 0, .int .u8 0, .int .u8 1, .int .u8 2] 23)
  have g2 := below_new (g1.trans (hb2.mono g1.size)) (.cells #[.int .i64 7, .int .i64 1] 32)
  have g3 := g2.trans (hb3.mono g2.size)
  exact g3.trans (hb4.mono g3.size)
end Go.Proofs.Ytechdnkkchhaaaa
