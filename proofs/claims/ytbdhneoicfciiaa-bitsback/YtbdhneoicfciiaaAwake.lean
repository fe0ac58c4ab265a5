/- The examples of chapter 1 hold: awake answers true. -/
import Derived.Test.YtbdhneoicfciiaaWy
namespace Go.Proofs.Ytbdhneoicfciiaa
open Go.RowKit Go.Proofs.PitotMath

set_option maxHeartbeats 400000 in
theorem bytes_nil (w : World) : Calls Try.prog 13 #[.pointer none] w fun e w' => e = .returned (.tuple #[.string ⟨#[]⟩, .int .i64 2]) ∧ w = w' := by
  go_enter Try.func13, Try.ntmps13
  go_wp2
  go_returns
  exact ⟨rfl, rfl⟩

set_option maxHeartbeats 400000 in
theorem bytes_wrong (b n : Nat) (w : World) (h : WrAt w b n none) : Calls Try.prog 13 #[.pointer (some ⟨b, 0, none⟩)] w fun e w' => e = .returned (.tuple #[.string ⟨#[]⟩, .int .i64 1]) ∧ w = w' := by
  have c2 : w.cell? ⟨b, 2, none⟩ = some (.bool true) := lies_cell h 2
  clear h
  go_enter Try.func13, Try.ntmps13
  go_wp2
  go_returns
  exact ⟨rfl, rfl⟩

theorem wr_zero {w : World} {b : Nat} (h : w.heap[b]? = some (.cells #[.pointer none, .string ⟨#[]⟩, .bool false] 28)) : WrAt w b 0 (some []) :=
  ⟨none, ⟨#[]⟩, [], h, rfl, Nat.le_refl _, rfl⟩

theorem ints_two {w : World} (x y : Int) (k : Nat) (hk : w.heap[k]? = some (.cells #[.int .i64 x, .int .i64 y] 3)) : IntsAt w (some ⟨k, 0, none⟩) [x, y] := by
  intro _
  refine ⟨k, 0, rfl, lies_lt hk, fun i hi => ?_⟩
  have : i = 0 ∨ i = 1 := by simp at hi; omega
  rcases this with rfl | rfl
  · exact lies_cell hk 0
  · exact lies_cell hk 1

theorem step_258 : putStep (some []) 2 258 = some [1, 2] := by decide
theorem step_45 : bitsStep (some [1, 2]) [4, 4] [4, 5] = some [1, 2, 69] := by decide
theorem ones_4500 : ones [69, 0] = 47871 := by decide

/-- Bits of two widths and two numbers that were laid out just now. -/
theorem bits_two (b n : Nat) (st : Option (List UInt8)) (x y u v : Int) (w : World) (h : WrAt w b n st) (hll : ∀ l, st = some l → l.length ≤ 900000) :
    Calls Try.prog 30 #[.pointer (some ⟨b, 0, none⟩), .slice (some ⟨w.heap.size, 0, none⟩) 2 2, .slice (some ⟨w.heap.size + 1, 0, none⟩) 2 2] ((w.alloc (.cells #[.int .i64 x, .int .i64 y] 3)).alloc (.cells #[.int .i64 u, .int .i64 v] 3))
      fun e w' => e = .returned (.tuple #[]) ∧ WrAt w' b (n + 1) (bitsStep st [x, y] [u, v]) ∧ w.grownBy w' (some b) := by
  have hb : Below w.heap.size w ((w.alloc (.cells #[.int .i64 x, .int .i64 y] 3)).alloc (.cells #[.int .i64 u, .int .i64 v] 3)) := ((Below.refl _ _).alloc (Nat.le_refl _) _).alloc (by simp) _
  have hx : IntsAt ((w.alloc (.cells #[.int .i64 x, .int .i64 y] 3)).alloc (.cells #[.int .i64 u, .int .i64 v] 3)) (some ⟨w.heap.size, 0, none⟩) [x, y] := ints_two _ _ _ (lies_alloc (heap_alloc_new w _) _)
  have hy : IntsAt ((w.alloc (.cells #[.int .i64 x, .int .i64 y] 3)).alloc (.cells #[.int .i64 u, .int .i64 v] 3)) (some ⟨w.heap.size + 1, 0, none⟩) [u, v] := ints_two _ _ _ (by have := heap_alloc_new (w.alloc (.cells #[.int .i64 x, .int .i64 y] 3)) (.cells #[.int .i64 u, .int .i64 v] 3); simpa using this)
  have h1 := bits_any b n st _ _ 2 2 _ _ _ (h.below hb) hx hy (by simp) hll
  exact h1.mono fun e w' ⟨he, hw, hg⟩ => ⟨he, hw, grown_trans (grown_of_below hb) hg⟩

set_option maxHeartbeats 1000000 in
theorem awake_any (w : World) : Calls Try.prog 10 #[] w fun e w' => e = .returned (.bool true) ∧ Below w.heap.size w w' := by
  have hw0 := wr_zero (heap_alloc_new w (.cells #[.pointer none, .string ⟨#[]⟩, .bool false] 28))
  have hb0 : Below w.heap.size w (w.alloc (.cells #[.pointer none, .string ⟨#[]⟩, .bool false] 28)) := (Below.refl _ _).alloc (Nat.le_refl _) _
  go_enter Try.func10, Try.ntmps10
  go_wp2_with (first
    | (go_at_call 27; refine (u16_any w.heap.size 0 (some []) 258 _ hw0 (fun l e => by cases e; simp)).mono ?_; rintro e w1 ⟨rfl, h1, hg1⟩; rw [step_258] at h1)
    | (go_at_call 30; refine (bits_two w.heap.size 1 (some [1, 2]) 4 4 4 5 w1 h1 (fun l e => by cases e; simp)).mono ?_; rintro e w2 ⟨rfl, h2, hg2⟩; rw [step_45] at h2)
    | (go_at_call 13; refine (bytes_any w.heap.size 2 [1, 2, 69] w2 h2 (by omega) (by simp)).mono ?_; rintro e w3 ⟨rfl, hb3⟩)
    | (go_at_call 15; refine (ones_any _ w3 (by decide)).mono ?_; rintro e w4 ⟨rfl, rfl⟩))
  go_returns
  refine ⟨ret_bool (by rw [ones_4500]; rfl), ?_⟩
  have hb1 := hb0.grown hg1 hb0.size (fun k hk => by cases hk; exact Nat.le_refl _)
  have hb2 := hb1.grown hg2 hb1.size (fun k hk => by cases hk; exact Nat.le_refl _)
  exact hb2.trans (hb3.mono hb2.size)
end Go.Proofs.Ytbdhneoicfciiaa
