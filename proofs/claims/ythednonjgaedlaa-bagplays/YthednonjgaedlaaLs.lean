/- Blocks of cells: read, stored into; the regulator's state, plain, and as it lies in memory. -/
import Derived.Test.YthednonjgaedlaaRows
import Derived.WalkKit
import Derived.WalkSpells
import Derived.WalkLawsBesides
import Derived.BigQuiet
import Derived.BigRegion
import Derived.Handy
import Derived.Below
import Derived.Lib.Hide
import Derived.Deep.QuietTactic
namespace Go.Proofs.Ythednonjgaedlaa
open Go.RowKit
section
variable {w w' : World} {g : Nat} {t : TypeId} {cs : Array Value}
theorem lies_lt (h : w.heap[g]? = some (.cells cs t)) : g < w.heap.size := by
  rcases Nat.lt_or_ge g w.heap.size with h1 | h1
  · exact h1
  · rw [Array.getElem?_eq_none h1] at h; cases h
theorem lies_cell (h : w.heap[g]? = some (.cells cs t)) (i : Nat) : w.cell? ⟨g, i, none⟩ = cs[i]? := by simp [World.cell?, h]
theorem lies_frozen (h : w.heap[g]? = some (.cells cs t)) (i : Nat) : w.frozen? ⟨g, i, none⟩ = false := by simp [World.frozen?, h]
theorem lies_set (h : w.heap[g]? = some (.cells cs t)) (i : Nat) (u : Value) : (w.setCell ⟨g, i, none⟩ u).heap[g]? = some (.cells (cs.setIfInBounds i u) t) := by
  simp [World.setCell, Array.getElem?_modify, h]
theorem lies_alloc (h : w.heap[g]? = some (.cells cs t)) (o : Obj) : (w.alloc o).heap[g]? = some (.cells cs t) := (Below.heap_alloc w o g (lies_lt h)).trans h
theorem lies_below {n : Nat} (h : w.heap[g]? = some (.cells cs t)) (hb : Below n w w') (hl : g < n) : w'.heap[g]? = some (.cells cs t) := (hb.block g hl).trans h
theorem lies_grown {b : Nat} (h : w.heap[g]? = some (.cells cs t)) (hg : w.grownBy w' (some b)) (hne : g ≠ b) : w'.heap[g]? = some (.cells cs t) :=
  (hg.block g (lies_lt h) (by simpa using hne)).trans h
end
theorem heap_new (w : World) (o : Obj) : (w.alloc o).heap[w.heap.size]? = some o := heap_alloc_new w o
theorem grown_set {w : World} (b i : Nat) (u : Value) : w.grownBy (w.setCell ⟨b, i, none⟩ u) (some b) :=
  ⟨rfl, rfl, rfl, by simp, fun k _ h2 => Below.heap_setCell w _ u k (by simpa using h2)⟩
theorem grown_drewN {a w : World} {r : Option Nat} (h : a.grownBy w r) (n : Nat) : a.grownBy (w.drewN n) r := ⟨h.os, h.tape, h.output, h.size, h.block⟩

/-- How many ticks frames of a BAG are apart. -/
def gap (b : Nat) : Nat := 12500 * 2 ^ b
theorem gap_pos (b : Nat) : 0 < gap b := by unfold gap; have := Nat.two_pow_pos b; omega
theorem gap_le {b : Nat} (h : b ≤ 7) : gap b ≤ 1600000 := by
  unfold gap
  have : 2 ^ b ≤ 2 ^ 7 := Nat.pow_le_pow_right (by omega) h
  omega
theorem gap_ge (b : Nat) : 12500 ≤ gap b := by
  unfold gap
  have := Nat.two_pow_pos b
  omega
theorem gap_succ (b : Nat) : gap (b + 1) = 2 * gap b := by
  unfold gap
  rw [Nat.pow_succ]
  omega

/-- What a regulator knows: its BAG, how many frames went, whether the last one is known, when it went (0 if it isn't known), and the tick of the last one. -/
structure S where
  b : Nat
  n : Nat
  g : Bool
  a : Nat
  l : Nat
/-- The program's, in memory. -/
def S.obj (s : S) : Obj := .cells #[.int .i64 s.b, .int .i64 s.n, .bool s.g, .int .i64 s.a, .int .i64 s.l] 50
/-- The document's, in memory; z is its Last. -/
def S.ref (s : S) (z : Nat) : Obj := .cells #[.int .i64 (gap s.b : Nat), .bool s.g, .int .i64 z, .int .i64 s.l, .int .i64 s.n] 37
structure S.Ok (s : S) : Prop where
  b : s.b ≤ 7
  a : s.a ≤ 1125899906842624
  l : s.l ≤ 1125899906842624
  n : s.n ≤ 1000000
  z : s.g = false → s.a = 0
/-- What Take answers. -/
def S.code (s : S) (x : Int) : Int :=
  if x < 0 ∨ 1125899906842624 < x then 1 else if x < s.l then 24 else if s.g = true ∧ x < s.a + gap s.b then 26 else 0
def S.took (s : S) (x : Int) : S := ⟨s.b, s.n + 1, true, x.toNat, x.toNat⟩
def S.next (s : S) (x : Int) : S := if s.code x = 0 then s.took x else s
/-- What When answers. -/
def S.soon (s : S) (x : Int) : Int := if s.g = true then max x (s.a + gap s.b) else x
def S.reset (s : S) : S := ⟨s.b, s.n, false, 0, s.l⟩
def S.new (b : Nat) : S := ⟨b, 0, false, 0, 0⟩
theorem ok_new {b : Nat} (h : b ≤ 7) : (S.new b).Ok := ⟨h, Nat.zero_le _, Nat.zero_le _, Nat.zero_le _, fun _ => rfl⟩
theorem ok_reset {s : S} (h : s.Ok) : s.reset.Ok := ⟨h.b, Nat.zero_le _, h.l, h.n, fun _ => rfl⟩
theorem code_zero {s : S} {x : Int} (h : s.code x = 0) : 0 ≤ x ∧ x ≤ 1125899906842624 ∧ s.l ≤ x ∧ (s.g = true → s.a + gap s.b ≤ x) := by
  unfold S.code at h
  split at h
  · omega
  · split at h
    · omega
    · split at h
      · omega
      · rename_i h1 h2 h3
        refine ⟨by omega, by omega, by omega, fun hg => ?_⟩
        rcases Int.lt_or_le x (s.a + gap s.b) with h4 | h4
        · exact absurd ⟨hg, h4⟩ h3
        · exact h4
theorem ok_next {s : S} (h : s.Ok) (x : Int) (hn : s.n < 1000000) : (s.next x).Ok := by
  unfold S.next
  split
  · rename_i hc
    have := code_zero hc
    refine ⟨h.b, ?_, ?_, ?_, fun e => by cases e⟩
    · show x.toNat ≤ _; omega
    · show x.toNat ≤ _; omega
    · show s.n + 1 ≤ _; omega
  · exact h
theorem next_b (s : S) (x : Int) : (s.next x).b = s.b := by unfold S.next; split <;> rfl
theorem next_n (s : S) (x : Int) : (s.next x).n = if s.code x = 0 then s.n + 1 else s.n := by unfold S.next; split <;> rfl
theorem next_n_le (s : S) (x : Int) : (s.next x).n ≤ s.n + 1 := by rw [next_n]; split <;> omega
end Go.Proofs.Ythednonjgaedlaa
