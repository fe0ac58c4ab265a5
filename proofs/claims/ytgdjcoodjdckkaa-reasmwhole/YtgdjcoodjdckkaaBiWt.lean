/- The program's Writer in memory; contracts of Text, fail, Bits. -/
import Derived.Test.YtgdjcoodjdckkaaBiWr
import Derived.BigRegion
import Derived.Handy
namespace Go.Proofs.Ytgdjcoodjdckkaa.Bi
open Go.RowKit Go.Proofs.PitotMath

section
variable {w w' : World} {g : Nat} {t : TypeId} {cs : Array Value}

theorem lies_lt (h : w.heap[g]? = some (.cells cs t)) : g < w.heap.size := by
  rcases Nat.lt_or_ge g w.heap.size with h1 | h1
  · exact h1
  · rw [Array.getElem?_eq_none h1] at h; cases h
theorem lies_cell (h : w.heap[g]? = some (.cells cs t)) (i : Nat) : w.cell? ⟨g, i, none⟩ = cs[i]? := by simp [World.cell?, h]
theorem lies_frozen (h : w.heap[g]? = some (.cells cs t)) (i : Nat) : w.frozen? ⟨g, i, none⟩ = false := by simp [World.frozen?, h]
theorem lies_set (h : w.heap[g]? = some (.cells cs t)) (i : Nat) (u : Value) : (w.setCell ⟨g, i, none⟩ u).heap[g]? = some (.cells (cs.setIfInBounds i u) t) := by
  simp [World.setCell, Array.getElem?_modify, h]
theorem lies_alloc (h : w.heap[g]? = some (.cells cs t)) (o : Obj) : (w.alloc o).heap[g]? = some (.cells cs t) := (Below.heap_alloc w o g (lies_lt h)).trans h
end

theorem new_at {w : World} {o : Obj} {k : Nat} (hk : w.heap.size = k) : (w.alloc o).drew.heap[k]? = some o := by
  subst hk; exact heap_alloc_new w o

/-- What pieces are together, the eldest one first. -/
def flat : List ByteArray → List UInt8
  | [] => []
  | t :: ts => flat ts ++ t.data.toList

theorem grown_set {w : World} (b i : Nat) (u : Value) : w.grownBy (w.setCell ⟨b, i, none⟩ u) (some b) :=
  ⟨rfl, rfl, rfl, by simp [World.setCell], fun k _ hk => Below.heap_setCell w _ u k (by intro e; exact hk (by rw [e]))⟩

theorem grown_trans {a b c : World} {r : Option Nat} (h : a.grownBy b r) (k : b.grownBy c r) : a.grownBy c r :=
  ⟨k.os.trans h.os, k.tape.trans h.tape, k.output.trans h.output, Nat.le_trans h.size k.size, fun i hi hr => (k.block i (Nat.lt_of_lt_of_le hi h.size) hr).trans (h.block i hi hr)⟩

theorem grown_alloc {w : World} {r : Option Nat} (o : Obj) : w.grownBy (w.alloc o) r := World.grownBy_alloc w o r

theorem grown_drew {a w : World} {r : Option Nat} (h : a.grownBy w r) : a.grownBy w.drew r := ⟨h.os, h.tape, h.output, h.size, h.block⟩

theorem flat_bd {ts : List ByteArray} {last : ByteArray} {l : List UInt8} (h : l = flat ts ++ last.data.toList) : last.size ≤ l.length := by
  rw [h, List.length_append]; show last.data.size ≤ _; simp

end Go.Proofs.Ytgdjcoodjdckkaa.Bi
