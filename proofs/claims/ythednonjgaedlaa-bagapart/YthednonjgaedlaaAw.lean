/- awake: the chapter's examples. -/
import Derived.Test.YthednonjgaedlaaTa
import Derived.Test.YthednonjgaedlaaBo
set_option maxRecDepth 100000
set_option linter.unusedVariables false
namespace Go.Proofs.Ythednonjgaedlaa
open Go.RowKit

theorem grown_below {B p : Nat} {a w w' : World} (h : Below B a w) (hg : w.grownBy w' (some p)) (hB : B ≤ w.heap.size) (hp : B ≤ p) : Below B a w' := h.grown hg hB (fun k e => by cases e; exact hp)
theorem below_of {p : Nat} {w w' : World} (h : w.grownBy w' (some p)) {B : Nat} (hB : B ≤ p) (hw : B ≤ w.heap.size) : Below B w w' := grown_below (Below.refl _ _) h hw hB

def A1 : S := ⟨0, 1, true, 5, 5⟩
def A2 : S := ⟨0, 2, true, 12505, 12505⟩
theorem A1_ok : A1.Ok := ⟨by decide, by decide, by decide, by decide, fun e => by cases e⟩

set_option maxHeartbeats 2000000 in
theorem awake_any (w : World) : Calls Try.prog 11 #[] w fun e w' => e = .returned (.bool true) ∧ Below w.heap.size w w' := by
  have HN : Hid (Calls Try.prog 9 #[.int .i64 0] w fun e w' => e = .returned (.tuple #[.pointer (some ⟨w.heap.size, 0, none⟩), .int .i64 0]) ∧ w' = w.alloc (S.new 0).obj) := new_yes 0 (by omega) w
  have h0 : Hid ((w.alloc (S.new 0).obj).heap[w.heap.size]? = some (S.new 0).obj) := heap_alloc_new _ _
  have b0 : Hid (Below w.heap.size w (w.alloc (S.new 0).obj)) := (Below.refl _ w).alloc (Nat.le_refl _) _
  have HT1 : Hid (∀ w1 : World, w1.heap[w.heap.size]? = some (S.new 0).obj → Calls Try.prog 12 #[.pointer (some ⟨w.heap.size, 0, none⟩), .int .i64 5] w1 fun e w' => e = .returned (.int .i64 0) ∧ w'.heap[w.heap.size]? = some A1.obj ∧ w1.grownBy w' (some w.heap.size)) := fun w1 h1 => by
    have := take_any w.heap.size (S.new 0) (ok_new (by omega)) 5 (by rfl) w1 h1
    have e1 : (S.new 0).code 5 = 0 := by decide
    have e2 : (S.new 0).next 5 = A1 := by unfold S.next; rw [if_pos e1]; rfl
    rw [e1, e2] at this
    exact this
  have HT2 : Hid (∀ w1 : World, w1.heap[w.heap.size]? = some A1.obj → Calls Try.prog 12 #[.pointer (some ⟨w.heap.size, 0, none⟩), .int .i64 12504] w1 fun e w' => e = .returned (.int .i64 26) ∧ w'.heap[w.heap.size]? = some A1.obj ∧ w1.grownBy w' (some w.heap.size)) := fun w1 h1 => by
    have := take_any w.heap.size A1 A1_ok 12504 (by rfl) w1 h1
    have e1 : A1.code 12504 = 26 := by decide
    have e2 : A1.next 12504 = A1 := by unfold S.next; rw [if_neg (by rw [e1]; decide)]
    rw [e1, e2] at this
    exact this
  have HT3 : Hid (∀ w1 : World, w1.heap[w.heap.size]? = some A1.obj → Calls Try.prog 12 #[.pointer (some ⟨w.heap.size, 0, none⟩), .int .i64 12505] w1 fun e w' => e = .returned (.int .i64 0) ∧ w'.heap[w.heap.size]? = some A2.obj ∧ w1.grownBy w' (some w.heap.size)) := fun w1 h1 => by
    have := take_any w.heap.size A1 A1_ok 12505 (by rfl) w1 h1
    have e1 : A1.code 12505 = 0 := by decide
    have e2 : A1.next 12505 = A2 := by unfold S.next; rw [if_pos e1]; rfl
    rw [e1, e2] at this
    exact this
  have HB : Hid (∀ w1 : World, Calls Try.prog 20 #[.int .i64 1, .int .i64 25001] w1 fun e w' => e = .returned (.tuple #[.int .i64 2, .int .i64 0]) ∧ w1 = w') := fun w1 => bound_yes 1 25001 (by omega) (by omega) w1
  generalize hA : w.alloc (S.new 0).obj = W0 at HN h0 b0
  clear hA
  have hn : Hid (∀ {A : World}, Below w.heap.size w A → w.heap.size ≤ A.heap.size) := fun h => h.size
  go_enter Try.func11, Try.ntmps11
  go_wp2_with (first
    | (go_at_call 9; (with_reducible refine HN.out.mono ?_); rintro e w1 ⟨rfl, rfl⟩)
    | (go_at_call 12; (with_reducible refine (HT1.out _ h0.out).mono ?_); rintro e w2 ⟨rfl, h1, g1⟩; (have h1 := Lib.hid h1); (have g1 := Lib.hid g1))
    | (go_at_call 12; (with_reducible refine (HT2.out _ h1.out).mono ?_); rintro e w3 ⟨rfl, h2, g2⟩; (have h2 := Lib.hid h2); (have g2 := Lib.hid g2))
    | (go_at_call 12; (with_reducible refine (HT3.out _ h2.out).mono ?_); rintro e w4 ⟨rfl, h3, g3⟩; (have h3 := Lib.hid h3); (have g3 := Lib.hid g3))
    | (go_at_call 20; (with_reducible refine (HB.out _).mono ?_); rintro e w5 ⟨rfl, rfl⟩))
  go_returns
  have k1 := grown_below b0.out g1.out b0.out.size (Nat.le_refl _)
  have k2 := grown_below k1 g2.out k1.size (Nat.le_refl _)
  exact ⟨rfl, grown_below k2 g3.out k2.size (Nat.le_refl _)⟩
end Go.Proofs.Ythednonjgaedlaa
