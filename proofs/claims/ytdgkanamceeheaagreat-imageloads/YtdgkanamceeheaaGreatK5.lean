/- Blocks of cells: read, stored into. The program's small questions about a network. The program's Writer where all fits: Text, U16, U32, Bits; a list of numbers. -/
import Derived.Test.YtdgkanamceeheaaGreatK4
import Derived.Test.YtdgkanamceeheaaGreatK2
import Derived.Test.YtdgkanamceeheaaGreatK3
import Derived.Below
import Derived.Lib.Hide
import Derived.Handy
set_option linter.unusedVariables false
namespace Go.Proofs.YtdgkanamceeheaaGreat
open Go.RowKit
section
variable {w w' : World} {g : Nat} {t : TypeId} {cs : Array Value}
theorem lies_lt (h : w.heap[g]? = some (.cells cs t)) : g < w.heap.size := by
  rcases Nat.lt_or_ge g w.heap.size with h1 | h1
  · exact h1
  · rw [Array.getElem?_eq_none h1] at h;cases h
theorem lies_cell (h : w.heap[g]? = some (.cells cs t)) (i : Nat) : w.cell? ⟨g,i,none⟩ = cs[i]? := by simp [World.cell?,h]
theorem lies_frozen (h : w.heap[g]? = some (.cells cs t)) (i : Nat) : w.frozen? ⟨g,i,none⟩ = false := by simp [World.frozen?,h]
theorem lies_set (h : w.heap[g]? = some (.cells cs t)) (i : Nat) (u : Value) : (w.setCell ⟨g,i,none⟩ u).heap[g]? = some (.cells (cs.setIfInBounds i u) t) := by
  simp [World.setCell,Array.getElem?_modify,h]
theorem lies_alloc (h : w.heap[g]? = some (.cells cs t)) (o : Obj) : (w.alloc o).heap[g]? = some (.cells cs t) := (Below.heap_alloc w o g (lies_lt h)).trans h
theorem lies_below {n : Nat} (h : w.heap[g]? = some (.cells cs t)) (hb : Below n w w') (hl : g < n) : w'.heap[g]? = some (.cells cs t) := (hb.block g hl).trans h
end
theorem cells_3 {w : World} {g : Nat} {t : TypeId} {x0 x1 x2 : Value} (h : w.heap[g]? = some (.cells #[x0,x1,x2] t)) : w.cell? ⟨g,0,none⟩ = some x0 ∧ w.cell? ⟨g,1,none⟩ = some x1 ∧ w.cell? ⟨g,2,none⟩ = some x2 :=
  ⟨lies_cell h 0,lies_cell h 1,lies_cell h 2⟩
theorem read_3 {W : World} {g : Nat} {x0 x1 x2 y0 y1 y2 : Value} {t : TypeId} (h : W.heap[g]? = some (.cells #[x0,x1,x2] t)) :
    (W.setCell ⟨g,0,none⟩ y0).cell? ⟨g,0,none⟩ = some y0 ∧ ((W.setCell ⟨g,0,none⟩ y0).setCell ⟨g,1,none⟩ y1).cell? ⟨g,1,none⟩ = some y1 ∧ (((W.setCell ⟨g,0,none⟩ y0).setCell ⟨g,1,none⟩ y1).setCell ⟨g,2,none⟩ y2).cell? ⟨g,2,none⟩ = some y2 ∧
    (((W.setCell ⟨g,0,none⟩ y0).setCell ⟨g,1,none⟩ y1).setCell ⟨g,2,none⟩ y2).heap[g]? = some (.cells #[y0,y1,y2] t) := by
  have h0 : (W.setCell ⟨g,0,none⟩ y0).heap[g]? = some (.cells #[y0,x1,x2] t) := lies_set h 0 _
  have h1 : ((W.setCell ⟨g,0,none⟩ y0).setCell ⟨g,1,none⟩ y1).heap[g]? = some (.cells #[y0,y1,x2] t) := lies_set h0 1 _
  have h2 : (((W.setCell ⟨g,0,none⟩ y0).setCell ⟨g,1,none⟩ y1).setCell ⟨g,2,none⟩ y2).heap[g]? = some (.cells #[y0,y1,y2] t) := lies_set h1 2 _
  exact ⟨lies_cell h0 0,lies_cell h1 1,lies_cell h2 2,h2⟩
theorem cells_6 {w : World} {g : Nat} {t : TypeId} {x0 x1 x2 x3 x4 x5 : Value} (h : w.heap[g]? = some (.cells #[x0,x1,x2,x3,x4,x5] t)) : w.cell? ⟨g,0,none⟩ = some x0 ∧ w.cell? ⟨g,1,none⟩ = some x1 ∧ w.cell? ⟨g,2,none⟩ = some x2 ∧ w.cell? ⟨g,3,none⟩ = some x3 ∧ w.cell? ⟨g,4,none⟩ = some x4 ∧ w.cell? ⟨g,5,none⟩ = some x5 :=
  ⟨lies_cell h 0,lies_cell h 1,lies_cell h 2,lies_cell h 3,lies_cell h 4,lies_cell h 5⟩
theorem read_6 {W : World} {g : Nat} {x0 x1 x2 x3 x4 x5 y0 y1 y2 y3 y4 y5 : Value} {t : TypeId} (h : W.heap[g]? = some (.cells #[x0,x1,x2,x3,x4,x5] t)) :
    (W.setCell ⟨g,0,none⟩ y0).cell? ⟨g,0,none⟩ = some y0 ∧ ((W.setCell ⟨g,0,none⟩ y0).setCell ⟨g,1,none⟩ y1).cell? ⟨g,1,none⟩ = some y1 ∧ (((W.setCell ⟨g,0,none⟩ y0).setCell ⟨g,1,none⟩ y1).setCell ⟨g,2,none⟩ y2).cell? ⟨g,2,none⟩ = some y2 ∧ ((((W.setCell ⟨g,0,none⟩ y0).setCell ⟨g,1,none⟩ y1).setCell ⟨g,2,none⟩ y2).setCell ⟨g,3,none⟩ y3).cell? ⟨g,3,none⟩ = some y3 ∧ (((((W.setCell ⟨g,0,none⟩ y0).setCell ⟨g,1,none⟩ y1).setCell ⟨g,2,none⟩ y2).setCell ⟨g,3,none⟩ y3).setCell ⟨g,4,none⟩ y4).cell? ⟨g,4,none⟩ = some y4 ∧ ((((((W.setCell ⟨g,0,none⟩ y0).setCell ⟨g,1,none⟩ y1).setCell ⟨g,2,none⟩ y2).setCell ⟨g,3,none⟩ y3).setCell ⟨g,4,none⟩ y4).setCell ⟨g,5,none⟩ y5).cell? ⟨g,5,none⟩ = some y5 ∧
    ((((((W.setCell ⟨g,0,none⟩ y0).setCell ⟨g,1,none⟩ y1).setCell ⟨g,2,none⟩ y2).setCell ⟨g,3,none⟩ y3).setCell ⟨g,4,none⟩ y4).setCell ⟨g,5,none⟩ y5).heap[g]? = some (.cells #[y0,y1,y2,y3,y4,y5] t) := by
  have h0 : (W.setCell ⟨g,0,none⟩ y0).heap[g]? = some (.cells #[y0,x1,x2,x3,x4,x5] t) := lies_set h 0 _
  have h1 : ((W.setCell ⟨g,0,none⟩ y0).setCell ⟨g,1,none⟩ y1).heap[g]? = some (.cells #[y0,y1,x2,x3,x4,x5] t) := lies_set h0 1 _
  have h2 : (((W.setCell ⟨g,0,none⟩ y0).setCell ⟨g,1,none⟩ y1).setCell ⟨g,2,none⟩ y2).heap[g]? = some (.cells #[y0,y1,y2,x3,x4,x5] t) := lies_set h1 2 _
  have h3 : ((((W.setCell ⟨g,0,none⟩ y0).setCell ⟨g,1,none⟩ y1).setCell ⟨g,2,none⟩ y2).setCell ⟨g,3,none⟩ y3).heap[g]? = some (.cells #[y0,y1,y2,y3,x4,x5] t) := lies_set h2 3 _
  have h4 : (((((W.setCell ⟨g,0,none⟩ y0).setCell ⟨g,1,none⟩ y1).setCell ⟨g,2,none⟩ y2).setCell ⟨g,3,none⟩ y3).setCell ⟨g,4,none⟩ y4).heap[g]? = some (.cells #[y0,y1,y2,y3,y4,x5] t) := lies_set h3 4 _
  have h5 : ((((((W.setCell ⟨g,0,none⟩ y0).setCell ⟨g,1,none⟩ y1).setCell ⟨g,2,none⟩ y2).setCell ⟨g,3,none⟩ y3).setCell ⟨g,4,none⟩ y4).setCell ⟨g,5,none⟩ y5).heap[g]? = some (.cells #[y0,y1,y2,y3,y4,y5] t) := lies_set h4 5 _
  exact ⟨lies_cell h0 0,lies_cell h1 1,lies_cell h2 2,lies_cell h3 3,lies_cell h4 4,lies_cell h5 5,h5⟩
theorem below_6 {B g : Nat} {A X : World} (h : Below B A X) (hg : B ≤ g) (y0 y1 y2 y3 y4 y5 : Value) : Below B A ((((((X.setCell ⟨g,0,none⟩ y0).setCell ⟨g,1,none⟩ y1).setCell ⟨g,2,none⟩ y2).setCell ⟨g,3,none⟩ y3).setCell ⟨g,4,none⟩ y4).setCell ⟨g,5,none⟩ y5) := by
  have e : ∀ {Y : World} (k : Nat) (v : Value),Below B A Y → Below B A (Y.setCell ⟨g,k,none⟩ v) := fun {Y} k v hY => hY.setCell (show B ≤ (⟨g,k,none⟩ : Addr).block from hg) v
  exact e _ _ (e _ _ (e _ _ (e _ _ (e _ _ (e _ _ (h))))))
theorem cells_8 {w : World} {g : Nat} {t : TypeId} {x0 x1 x2 x3 x4 x5 x6 x7 : Value} (h : w.heap[g]? = some (.cells #[x0,x1,x2,x3,x4,x5,x6,x7] t)) : w.cell? ⟨g,0,none⟩ = some x0 ∧ w.cell? ⟨g,1,none⟩ = some x1 ∧ w.cell? ⟨g,2,none⟩ = some x2 ∧ w.cell? ⟨g,3,none⟩ = some x3 ∧ w.cell? ⟨g,4,none⟩ = some x4 ∧ w.cell? ⟨g,5,none⟩ = some x5 ∧ w.cell? ⟨g,6,none⟩ = some x6 ∧ w.cell? ⟨g,7,none⟩ = some x7 :=
  ⟨lies_cell h 0,lies_cell h 1,lies_cell h 2,lies_cell h 3,lies_cell h 4,lies_cell h 5,lies_cell h 6,lies_cell h 7⟩
theorem read_8 {W : World} {g : Nat} {x0 x1 x2 x3 x4 x5 x6 x7 y0 y1 y2 y3 y4 y5 y6 y7 : Value} {t : TypeId} (h : W.heap[g]? = some (.cells #[x0,x1,x2,x3,x4,x5,x6,x7] t)) :
    (W.setCell ⟨g,0,none⟩ y0).cell? ⟨g,0,none⟩ = some y0 ∧ ((W.setCell ⟨g,0,none⟩ y0).setCell ⟨g,1,none⟩ y1).cell? ⟨g,1,none⟩ = some y1 ∧ (((W.setCell ⟨g,0,none⟩ y0).setCell ⟨g,1,none⟩ y1).setCell ⟨g,2,none⟩ y2).cell? ⟨g,2,none⟩ = some y2 ∧ ((((W.setCell ⟨g,0,none⟩ y0).setCell ⟨g,1,none⟩ y1).setCell ⟨g,2,none⟩ y2).setCell ⟨g,3,none⟩ y3).cell? ⟨g,3,none⟩ = some y3 ∧ (((((W.setCell ⟨g,0,none⟩ y0).setCell ⟨g,1,none⟩ y1).setCell ⟨g,2,none⟩ y2).setCell ⟨g,3,none⟩ y3).setCell ⟨g,4,none⟩ y4).cell? ⟨g,4,none⟩ = some y4 ∧ ((((((W.setCell ⟨g,0,none⟩ y0).setCell ⟨g,1,none⟩ y1).setCell ⟨g,2,none⟩ y2).setCell ⟨g,3,none⟩ y3).setCell ⟨g,4,none⟩ y4).setCell ⟨g,5,none⟩ y5).cell? ⟨g,5,none⟩ = some y5 ∧ (((((((W.setCell ⟨g,0,none⟩ y0).setCell ⟨g,1,none⟩ y1).setCell ⟨g,2,none⟩ y2).setCell ⟨g,3,none⟩ y3).setCell ⟨g,4,none⟩ y4).setCell ⟨g,5,none⟩ y5).setCell ⟨g,6,none⟩ y6).cell? ⟨g,6,none⟩ = some y6 ∧ ((((((((W.setCell ⟨g,0,none⟩ y0).setCell ⟨g,1,none⟩ y1).setCell ⟨g,2,none⟩ y2).setCell ⟨g,3,none⟩ y3).setCell ⟨g,4,none⟩ y4).setCell ⟨g,5,none⟩ y5).setCell ⟨g,6,none⟩ y6).setCell ⟨g,7,none⟩ y7).cell? ⟨g,7,none⟩ = some y7 ∧
    ((((((((W.setCell ⟨g,0,none⟩ y0).setCell ⟨g,1,none⟩ y1).setCell ⟨g,2,none⟩ y2).setCell ⟨g,3,none⟩ y3).setCell ⟨g,4,none⟩ y4).setCell ⟨g,5,none⟩ y5).setCell ⟨g,6,none⟩ y6).setCell ⟨g,7,none⟩ y7).heap[g]? = some (.cells #[y0,y1,y2,y3,y4,y5,y6,y7] t) := by
  have h0 : (W.setCell ⟨g,0,none⟩ y0).heap[g]? = some (.cells #[y0,x1,x2,x3,x4,x5,x6,x7] t) := lies_set h 0 _
  have h1 : ((W.setCell ⟨g,0,none⟩ y0).setCell ⟨g,1,none⟩ y1).heap[g]? = some (.cells #[y0,y1,x2,x3,x4,x5,x6,x7] t) := lies_set h0 1 _
  have h2 : (((W.setCell ⟨g,0,none⟩ y0).setCell ⟨g,1,none⟩ y1).setCell ⟨g,2,none⟩ y2).heap[g]? = some (.cells #[y0,y1,y2,x3,x4,x5,x6,x7] t) := lies_set h1 2 _
  have h3 : ((((W.setCell ⟨g,0,none⟩ y0).setCell ⟨g,1,none⟩ y1).setCell ⟨g,2,none⟩ y2).setCell ⟨g,3,none⟩ y3).heap[g]? = some (.cells #[y0,y1,y2,y3,x4,x5,x6,x7] t) := lies_set h2 3 _
  have h4 : (((((W.setCell ⟨g,0,none⟩ y0).setCell ⟨g,1,none⟩ y1).setCell ⟨g,2,none⟩ y2).setCell ⟨g,3,none⟩ y3).setCell ⟨g,4,none⟩ y4).heap[g]? = some (.cells #[y0,y1,y2,y3,y4,x5,x6,x7] t) := lies_set h3 4 _
  have h5 : ((((((W.setCell ⟨g,0,none⟩ y0).setCell ⟨g,1,none⟩ y1).setCell ⟨g,2,none⟩ y2).setCell ⟨g,3,none⟩ y3).setCell ⟨g,4,none⟩ y4).setCell ⟨g,5,none⟩ y5).heap[g]? = some (.cells #[y0,y1,y2,y3,y4,y5,x6,x7] t) := lies_set h4 5 _
  have h6 : (((((((W.setCell ⟨g,0,none⟩ y0).setCell ⟨g,1,none⟩ y1).setCell ⟨g,2,none⟩ y2).setCell ⟨g,3,none⟩ y3).setCell ⟨g,4,none⟩ y4).setCell ⟨g,5,none⟩ y5).setCell ⟨g,6,none⟩ y6).heap[g]? = some (.cells #[y0,y1,y2,y3,y4,y5,y6,x7] t) := lies_set h5 6 _
  have h7 : ((((((((W.setCell ⟨g,0,none⟩ y0).setCell ⟨g,1,none⟩ y1).setCell ⟨g,2,none⟩ y2).setCell ⟨g,3,none⟩ y3).setCell ⟨g,4,none⟩ y4).setCell ⟨g,5,none⟩ y5).setCell ⟨g,6,none⟩ y6).setCell ⟨g,7,none⟩ y7).heap[g]? = some (.cells #[y0,y1,y2,y3,y4,y5,y6,y7] t) := lies_set h6 7 _
  exact ⟨lies_cell h0 0,lies_cell h1 1,lies_cell h2 2,lies_cell h3 3,lies_cell h4 4,lies_cell h5 5,lies_cell h6 6,lies_cell h7 7,h7⟩
theorem below_8 {B g : Nat} {A X : World} (h : Below B A X) (hg : B ≤ g) (y0 y1 y2 y3 y4 y5 y6 y7 : Value) : Below B A ((((((((X.setCell ⟨g,0,none⟩ y0).setCell ⟨g,1,none⟩ y1).setCell ⟨g,2,none⟩ y2).setCell ⟨g,3,none⟩ y3).setCell ⟨g,4,none⟩ y4).setCell ⟨g,5,none⟩ y5).setCell ⟨g,6,none⟩ y6).setCell ⟨g,7,none⟩ y7) := by
  have e : ∀ {Y : World} (k : Nat) (v : Value),Below B A Y → Below B A (Y.setCell ⟨g,k,none⟩ v) := fun {Y} k v hY => hY.setCell (show B ≤ (⟨g,k,none⟩ : Addr).block from hg) v
  exact e _ _ (e _ _ (e _ _ (e _ _ (e _ _ (e _ _ (e _ _ (e _ _ (h))))))))
theorem cells_11 {w : World} {g : Nat} {t : TypeId} {x0 x1 x2 x3 x4 x5 x6 x7 x8 x9 x10 : Value} (h : w.heap[g]? = some (.cells #[x0,x1,x2,x3,x4,x5,x6,x7,x8,x9,x10] t)) : w.cell? ⟨g,0,none⟩ = some x0 ∧ w.cell? ⟨g,1,none⟩ = some x1 ∧ w.cell? ⟨g,2,none⟩ = some x2 ∧ w.cell? ⟨g,3,none⟩ = some x3 ∧ w.cell? ⟨g,4,none⟩ = some x4 ∧ w.cell? ⟨g,5,none⟩ = some x5 ∧ w.cell? ⟨g,6,none⟩ = some x6 ∧ w.cell? ⟨g,7,none⟩ = some x7 ∧ w.cell? ⟨g,8,none⟩ = some x8 ∧ w.cell? ⟨g,9,none⟩ = some x9 ∧ w.cell? ⟨g,10,none⟩ = some x10 :=
  ⟨lies_cell h 0,lies_cell h 1,lies_cell h 2,lies_cell h 3,lies_cell h 4,lies_cell h 5,lies_cell h 6,lies_cell h 7,lies_cell h 8,lies_cell h 9,lies_cell h 10⟩
theorem read_11 {W : World} {g : Nat} {x0 x1 x2 x3 x4 x5 x6 x7 x8 x9 x10 y0 y1 y2 y3 y4 y5 y6 y7 y8 y9 y10 : Value} {t : TypeId} (h : W.heap[g]? = some (.cells #[x0,x1,x2,x3,x4,x5,x6,x7,x8,x9,x10] t)) :
    (W.setCell ⟨g,0,none⟩ y0).cell? ⟨g,0,none⟩ = some y0 ∧ ((W.setCell ⟨g,0,none⟩ y0).setCell ⟨g,1,none⟩ y1).cell? ⟨g,1,none⟩ = some y1 ∧ (((W.setCell ⟨g,0,none⟩ y0).setCell ⟨g,1,none⟩ y1).setCell ⟨g,2,none⟩ y2).cell? ⟨g,2,none⟩ = some y2 ∧ ((((W.setCell ⟨g,0,none⟩ y0).setCell ⟨g,1,none⟩ y1).setCell ⟨g,2,none⟩ y2).setCell ⟨g,3,none⟩ y3).cell? ⟨g,3,none⟩ = some y3 ∧ (((((W.setCell ⟨g,0,none⟩ y0).setCell ⟨g,1,none⟩ y1).setCell ⟨g,2,none⟩ y2).setCell ⟨g,3,none⟩ y3).setCell ⟨g,4,none⟩ y4).cell? ⟨g,4,none⟩ = some y4 ∧ ((((((W.setCell ⟨g,0,none⟩ y0).setCell ⟨g,1,none⟩ y1).setCell ⟨g,2,none⟩ y2).setCell ⟨g,3,none⟩ y3).setCell ⟨g,4,none⟩ y4).setCell ⟨g,5,none⟩ y5).cell? ⟨g,5,none⟩ = some y5 ∧ (((((((W.setCell ⟨g,0,none⟩ y0).setCell ⟨g,1,none⟩ y1).setCell ⟨g,2,none⟩ y2).setCell ⟨g,3,none⟩ y3).setCell ⟨g,4,none⟩ y4).setCell ⟨g,5,none⟩ y5).setCell ⟨g,6,none⟩ y6).cell? ⟨g,6,none⟩ = some y6 ∧ ((((((((W.setCell ⟨g,0,none⟩ y0).setCell ⟨g,1,none⟩ y1).setCell ⟨g,2,none⟩ y2).setCell ⟨g,3,none⟩ y3).setCell ⟨g,4,none⟩ y4).setCell ⟨g,5,none⟩ y5).setCell ⟨g,6,none⟩ y6).setCell ⟨g,7,none⟩ y7).cell? ⟨g,7,none⟩ = some y7 ∧ (((((((((W.setCell ⟨g,0,none⟩ y0).setCell ⟨g,1,none⟩ y1).setCell ⟨g,2,none⟩ y2).setCell ⟨g,3,none⟩ y3).setCell ⟨g,4,none⟩ y4).setCell ⟨g,5,none⟩ y5).setCell ⟨g,6,none⟩ y6).setCell ⟨g,7,none⟩ y7).setCell ⟨g,8,none⟩ y8).cell? ⟨g,8,none⟩ = some y8 ∧ ((((((((((W.setCell ⟨g,0,none⟩ y0).setCell ⟨g,1,none⟩ y1).setCell ⟨g,2,none⟩ y2).setCell ⟨g,3,none⟩ y3).setCell ⟨g,4,none⟩ y4).setCell ⟨g,5,none⟩ y5).setCell ⟨g,6,none⟩ y6).setCell ⟨g,7,none⟩ y7).setCell ⟨g,8,none⟩ y8).setCell ⟨g,9,none⟩ y9).cell? ⟨g,9,none⟩ = some y9 ∧ (((((((((((W.setCell ⟨g,0,none⟩ y0).setCell ⟨g,1,none⟩ y1).setCell ⟨g,2,none⟩ y2).setCell ⟨g,3,none⟩ y3).setCell ⟨g,4,none⟩ y4).setCell ⟨g,5,none⟩ y5).setCell ⟨g,6,none⟩ y6).setCell ⟨g,7,none⟩ y7).setCell ⟨g,8,none⟩ y8).setCell ⟨g,9,none⟩ y9).setCell ⟨g,10,none⟩ y10).cell? ⟨g,10,none⟩ = some y10 ∧
    (((((((((((W.setCell ⟨g,0,none⟩ y0).setCell ⟨g,1,none⟩ y1).setCell ⟨g,2,none⟩ y2).setCell ⟨g,3,none⟩ y3).setCell ⟨g,4,none⟩ y4).setCell ⟨g,5,none⟩ y5).setCell ⟨g,6,none⟩ y6).setCell ⟨g,7,none⟩ y7).setCell ⟨g,8,none⟩ y8).setCell ⟨g,9,none⟩ y9).setCell ⟨g,10,none⟩ y10).heap[g]? = some (.cells #[y0,y1,y2,y3,y4,y5,y6,y7,y8,y9,y10] t) := by
  have h0 : (W.setCell ⟨g,0,none⟩ y0).heap[g]? = some (.cells #[y0,x1,x2,x3,x4,x5,x6,x7,x8,x9,x10] t) := lies_set h 0 _
  have h1 : ((W.setCell ⟨g,0,none⟩ y0).setCell ⟨g,1,none⟩ y1).heap[g]? = some (.cells #[y0,y1,x2,x3,x4,x5,x6,x7,x8,x9,x10] t) := lies_set h0 1 _
  have h2 : (((W.setCell ⟨g,0,none⟩ y0).setCell ⟨g,1,none⟩ y1).setCell ⟨g,2,none⟩ y2).heap[g]? = some (.cells #[y0,y1,y2,x3,x4,x5,x6,x7,x8,x9,x10] t) := lies_set h1 2 _
  have h3 : ((((W.setCell ⟨g,0,none⟩ y0).setCell ⟨g,1,none⟩ y1).setCell ⟨g,2,none⟩ y2).setCell ⟨g,3,none⟩ y3).heap[g]? = some (.cells #[y0,y1,y2,y3,x4,x5,x6,x7,x8,x9,x10] t) := lies_set h2 3 _
  have h4 : (((((W.setCell ⟨g,0,none⟩ y0).setCell ⟨g,1,none⟩ y1).setCell ⟨g,2,none⟩ y2).setCell ⟨g,3,none⟩ y3).setCell ⟨g,4,none⟩ y4).heap[g]? = some (.cells #[y0,y1,y2,y3,y4,x5,x6,x7,x8,x9,x10] t) := lies_set h3 4 _
  have h5 : ((((((W.setCell ⟨g,0,none⟩ y0).setCell ⟨g,1,none⟩ y1).setCell ⟨g,2,none⟩ y2).setCell ⟨g,3,none⟩ y3).setCell ⟨g,4,none⟩ y4).setCell ⟨g,5,none⟩ y5).heap[g]? = some (.cells #[y0,y1,y2,y3,y4,y5,x6,x7,x8,x9,x10] t) := lies_set h4 5 _
  have h6 : (((((((W.setCell ⟨g,0,none⟩ y0).setCell ⟨g,1,none⟩ y1).setCell ⟨g,2,none⟩ y2).setCell ⟨g,3,none⟩ y3).setCell ⟨g,4,none⟩ y4).setCell ⟨g,5,none⟩ y5).setCell ⟨g,6,none⟩ y6).heap[g]? = some (.cells #[y0,y1,y2,y3,y4,y5,y6,x7,x8,x9,x10] t) := lies_set h5 6 _
  have h7 : ((((((((W.setCell ⟨g,0,none⟩ y0).setCell ⟨g,1,none⟩ y1).setCell ⟨g,2,none⟩ y2).setCell ⟨g,3,none⟩ y3).setCell ⟨g,4,none⟩ y4).setCell ⟨g,5,none⟩ y5).setCell ⟨g,6,none⟩ y6).setCell ⟨g,7,none⟩ y7).heap[g]? = some (.cells #[y0,y1,y2,y3,y4,y5,y6,y7,x8,x9,x10] t) := lies_set h6 7 _
  have h8 : (((((((((W.setCell ⟨g,0,none⟩ y0).setCell ⟨g,1,none⟩ y1).setCell ⟨g,2,none⟩ y2).setCell ⟨g,3,none⟩ y3).setCell ⟨g,4,none⟩ y4).setCell ⟨g,5,none⟩ y5).setCell ⟨g,6,none⟩ y6).setCell ⟨g,7,none⟩ y7).setCell ⟨g,8,none⟩ y8).heap[g]? = some (.cells #[y0,y1,y2,y3,y4,y5,y6,y7,y8,x9,x10] t) := lies_set h7 8 _
  have h9 : ((((((((((W.setCell ⟨g,0,none⟩ y0).setCell ⟨g,1,none⟩ y1).setCell ⟨g,2,none⟩ y2).setCell ⟨g,3,none⟩ y3).setCell ⟨g,4,none⟩ y4).setCell ⟨g,5,none⟩ y5).setCell ⟨g,6,none⟩ y6).setCell ⟨g,7,none⟩ y7).setCell ⟨g,8,none⟩ y8).setCell ⟨g,9,none⟩ y9).heap[g]? = some (.cells #[y0,y1,y2,y3,y4,y5,y6,y7,y8,y9,x10] t) := lies_set h8 9 _
  have h10 : (((((((((((W.setCell ⟨g,0,none⟩ y0).setCell ⟨g,1,none⟩ y1).setCell ⟨g,2,none⟩ y2).setCell ⟨g,3,none⟩ y3).setCell ⟨g,4,none⟩ y4).setCell ⟨g,5,none⟩ y5).setCell ⟨g,6,none⟩ y6).setCell ⟨g,7,none⟩ y7).setCell ⟨g,8,none⟩ y8).setCell ⟨g,9,none⟩ y9).setCell ⟨g,10,none⟩ y10).heap[g]? = some (.cells #[y0,y1,y2,y3,y4,y5,y6,y7,y8,y9,y10] t) := lies_set h9 10 _
  exact ⟨lies_cell h0 0,lies_cell h1 1,lies_cell h2 2,lies_cell h3 3,lies_cell h4 4,lies_cell h5 5,lies_cell h6 6,lies_cell h7 7,lies_cell h8 8,lies_cell h9 9,lies_cell h10 10,h10⟩
end Go.Proofs.YtdgkanamceeheaaGreat
set_option maxRecDepth 100000
namespace Go.Proofs.YtdgkanamceeheaaGreat
open Go.RowKit
theorem within_any (n a b : Int) (w : World) : Calls Tryz.prog 75 #[.int .i64 n,.int .i64 a,.int .i64 b] w fun e w' => e = .returned (.bool (decide (a ≤ n) && decide (n ≤ b))) ∧ w = w' := by
  by_cases h1 : a ≤ n
  · have e1 : decide (a ≤ n) = true := decide_eq_true h1
    by_cases h2 : n ≤ b
    · have e2 : decide (n ≤ b) = true := decide_eq_true h2
      go_enter Tryz.func75,Tryz.ntmps75
      go_wp2
      go_returns
      (try rw [e1,e2]);exact ⟨rfl,rfl⟩
    · have e2 : decide (n ≤ b) = false := decide_eq_false h2
      go_enter Tryz.func75,Tryz.ntmps75
      go_wp2
      go_returns
      exact ⟨rfl,rfl⟩
  · have e1 : decide (a ≤ n) = false := decide_eq_false h1
    go_enter Tryz.func75,Tryz.ntmps75
    go_wp2
    go_returns
    exact ⟨rfl,rfl⟩
theorem isHost_any (hosts major : Int) (pA wA vA qA : Option Addr) (pl pc wl wk vl vc ql qc : Nat) (n : Int) (w : World) (h0 : -9223372036854775807 ≤ hosts) (h1 : hosts ≤ 9223372036854775807) : Calls Tryz.prog 76 #[.agg #[.int .i64 hosts,.slice pA pl pc,.int .i64 major,.slice wA wl wk,.slice vA vl vc,.slice qA ql qc],.int .i64 n] w fun e w' => e = .returned (.bool (PitotConf.isHost hosts n)) ∧ Below w.heap.size w w' := by
  have kb : Hid (Below w.heap.size w (w.alloc (.cells #[.int .i64 hosts,.slice pA pl pc,.int .i64 major,.slice wA wl wk,.slice vA vl vc,.slice qA ql qc] 28))) := (Below.refl _ w).alloc (Nat.le_refl _) _
  have HW := fun w => within_any n 0 (hosts - 1) w
  have hE : (decide (0 ≤ n) && decide (n ≤ hosts - 1)) = PitotConf.isHost hosts n := by
    rw [PitotConf.isHost];congr 1;exact decide_eq_decide.2 ⟨fun h => by omega,fun h => by omega⟩
  rw [hE] at HW
  have HW := Lib.hid HW
  clear hE
  go_enter Tryz.func76,Tryz.ntmps76
  go_wp2_with (go_at_call 75;(with_reducible refine (HW.out _).mono ?_);rintro e w2 ⟨rfl,rfl⟩)
  go_returns
  exact ⟨rfl,kb.out⟩
theorem isPart_any (hosts major : Int) (pA wA vA qA : Option Addr) (pl pc wl wk vl vc ql qc : Nat) (n : Int) (w : World) (h1 : pl ≤ maxLen) : Calls Tryz.prog 101 #[.agg #[.int .i64 hosts,.slice pA pl pc,.int .i64 major,.slice wA wl wk,.slice vA vl vc,.slice qA ql qc],.int .i64 n] w fun e w' => e = .returned (.bool (decide (0 ≤ n) && decide (n < (pl : Int)))) ∧ Below w.heap.size w w' := by
  unfold maxLen at h1
  have kb : Hid (Below w.heap.size w (w.alloc (.cells #[.int .i64 hosts,.slice pA pl pc,.int .i64 major,.slice wA wl wk,.slice vA vl vc,.slice qA ql qc] 28))) := (Below.refl _ w).alloc (Nat.le_refl _) _
  have HW := fun w => within_any n 0 ((pl : Int) - 1) w
  have hE : (decide (0 ≤ n) && decide (n ≤ (pl : Int) - 1)) = (decide (0 ≤ n) && decide (n < (pl : Int))) := by
    congr 1;exact decide_eq_decide.2 ⟨fun h => by omega,fun h => by omega⟩
  rw [hE] at HW
  have HW := Lib.hid HW
  clear hE
  go_enter Tryz.func101,Tryz.ntmps101
  go_wp2_with (go_at_call 75;(with_reducible refine (HW.out _).mono ?_);rintro e w2 ⟨rfl,rfl⟩)
  go_returns
  exact ⟨rfl,kb.out⟩
theorem judgeHosts_any (hosts major : Int) (pA wA vA qA : Option Addr) (pl pc wl wk vl vc ql qc : Nat) (w : World) : Calls Tryz.prog 28 #[.agg #[.int .i64 hosts,.slice pA pl pc,.int .i64 major,.slice wA wl wk,.slice vA vl vc,.slice qA ql qc]] w fun e w' => e = .returned (.tuple #[.int .i64 0,.int .i64 (if hosts < 1 ∨ 64 < hosts then 1 else 0)]) ∧ Below w.heap.size w w' := by
  have kb : Hid (Below w.heap.size w (w.alloc (.cells #[.int .i64 hosts,.slice pA pl pc,.int .i64 major,.slice wA wl wk,.slice vA vl vc,.slice qA ql qc] 28))) := (Below.refl _ w).alloc (Nat.le_refl _) _
  have HW := fun w => within_any hosts 1 64 w
  by_cases h : hosts < 1 ∨ 64 < hosts
  · rw [if_pos h]
    have e1 : (decide (1 ≤ hosts) && decide (hosts ≤ 64)) = false := by
      rw [Bool.and_eq_false_iff,decide_eq_false_iff_not,decide_eq_false_iff_not];omega
    rw [e1] at HW
    have HW := Lib.hid HW
    clear e1 h
    go_enter Tryz.func28,Tryz.ntmps28
    go_wp2_with (go_at_call 75;(with_reducible refine (HW.out _).mono ?_);rintro e w2 ⟨rfl,rfl⟩)
    go_returns
    exact ⟨rfl,kb.out⟩
  · rw [if_neg h]
    have e1 : (decide (1 ≤ hosts) && decide (hosts ≤ 64)) = true := by
      rw [Bool.and_eq_true,decide_eq_true_eq,decide_eq_true_eq];omega
    rw [e1] at HW
    have HW := Lib.hid HW
    clear e1 h
    go_enter Tryz.func28,Tryz.ntmps28
    go_wp2_with (go_at_call 75;(with_reducible refine (HW.out _).mono ?_);rintro e w2 ⟨rfl,rfl⟩)
    go_returns
    exact ⟨rfl,kb.out⟩
theorem judgeFrame_any (hosts major : Int) (pA wA vA qA : Option Addr) (pl pc wl wk vl vc ql qc : Nat) (w : World) : Calls Tryz.prog 30 #[.agg #[.int .i64 hosts,.slice pA pl pc,.int .i64 major,.slice wA wl wk,.slice vA vl vc,.slice qA ql qc]] w fun e w' => e = .returned (.tuple #[.int .i64 0,.int .i64 (if major < 1 ∨ 1073741824 < major then 1 else 0)]) ∧ Below w.heap.size w w' := by
  have kb : Hid (Below w.heap.size w (w.alloc (.cells #[.int .i64 hosts,.slice pA pl pc,.int .i64 major,.slice wA wl wk,.slice vA vl vc,.slice qA ql qc] 28))) := (Below.refl _ w).alloc (Nat.le_refl _) _
  have HW := fun w => within_any major 1 1073741824 w
  by_cases h : major < 1 ∨ 1073741824 < major
  · rw [if_pos h]
    have e1 : (decide (1 ≤ major) && decide (major ≤ 1073741824)) = false := by
      rw [Bool.and_eq_false_iff,decide_eq_false_iff_not,decide_eq_false_iff_not];omega
    rw [e1] at HW
    have HW := Lib.hid HW
    clear e1 h
    go_enter Tryz.func30,Tryz.ntmps30
    go_wp2_with (go_at_call 75;(with_reducible refine (HW.out _).mono ?_);rintro e w2 ⟨rfl,rfl⟩)
    go_returns
    exact ⟨rfl,kb.out⟩
  · rw [if_neg h]
    have e1 : (decide (1 ≤ major) && decide (major ≤ 1073741824)) = true := by
      rw [Bool.and_eq_true,decide_eq_true_eq,decide_eq_true_eq];omega
    rw [e1] at HW
    have HW := Lib.hid HW
    clear e1 h
    go_enter Tryz.func30,Tryz.ntmps30
    go_wp2_with (go_at_call 75;(with_reducible refine (HW.out _).mono ?_);rintro e w2 ⟨rfl,rfl⟩)
    go_returns
    exact ⟨rfl,kb.out⟩
end Go.Proofs.YtdgkanamceeheaaGreat
set_option maxRecDepth 100000
set_option linter.unusedVariables false
namespace Go.Proofs.YtdgkanamceeheaaGreat.Im
open Go.RowKit
theorem grown_below {w w' : World} {b B : Nat} (h : w.grownBy w' (some b)) (hb : B ≤ b) (hB : B ≤ w.heap.size) : Below B w w' :=
  ⟨h.os,h.tape,h.output,h.size,fun k hk => h.block k (by omega) (by simp;omega)⟩
theorem fits_B {m : Nat} (hm : m = 1 ∨ m = 2 ∨ m = 4) {v : Int} (h : PitotImg.fits m v) : Bi.fitsB v (8 * (m : Int)) = true := by
  obtain ⟨h1,h2⟩ := h
  have e : ((8 * (m : Int)).toNat) = 8 * m := by omega
  unfold Bi.fitsB
  rw [e]
  rcases hm with rfl | rfl | rfl
  · exact decide_eq_true ⟨h1,by simpa using h2⟩
  · exact decide_eq_true ⟨h1,by simpa using h2⟩
  · exact decide_eq_true ⟨h1,by simpa using h2⟩
theorem put_fit {m : Nat} (hm : m = 1 ∨ m = 2 ∨ m = 4) {v : Int} (h : PitotImg.fits m v) (l : List UInt8) : Bi.putStep (some l) m v = some (l ++ PitotImg.w m v) := by
  unfold Bi.putStep
  rw [if_pos (fits_B hm h)]
  rfl
theorem u16_fit (b n : Nat) (l : List UInt8) (v : Int) (w : World) (h : Bi.WrAt w b n (some l)) (hf : PitotImg.fits 2 v) (hll : l.length ≤ 900000) :
    Calls Tryz.prog 61 #[.pointer (some ⟨b,0,none⟩),.int .i64 v] w fun e w' => e = .returned (.tuple #[]) ∧ Bi.WrAt w' b (n + 1) (some (l ++ PitotImg.w 2 v)) ∧ w.grownBy w' (some b) := by
  have h1 := Bi.u16_any b n (some l) v w h (fun l' e => by cases e;exact hll)
  rw [put_fit (by simp) hf] at h1
  exact h1
theorem u32_fit (b n : Nat) (l : List UInt8) (v : Int) (w : World) (h : Bi.WrAt w b n (some l)) (hf : PitotImg.fits 4 v) (hll : l.length ≤ 900000) :
    Calls Tryz.prog 63 #[.pointer (some ⟨b,0,none⟩),.int .i64 v] w fun e w' => e = .returned (.tuple #[]) ∧ Bi.WrAt w' b (n + 1) (some (l ++ PitotImg.w 4 v)) ∧ w.grownBy w' (some b) := by
  have h1 := Bi.u32_any b n (some l) v w h (fun l' e => by cases e;exact hll)
  rw [put_fit (by simp) hf] at h1
  exact h1
theorem bits_431 (x y z : Int) (l : List UInt8) (hx : 0 ≤ x ∧ x ≤ 15) (hy : 0 ≤ y ∧ y ≤ 1) (hz : 0 ≤ z ∧ z ≤ 7) : Bi.bitsStep (some l) [4,1,3] [x,y,z] = some (l ++ PitotImg.w 1 (16 * x + 8 * y + z)) := by
  have e1 : Bi.fitsB x 4 = true := decide_eq_true (show 0 ≤ x ∧ x < (16 : Int) by omega)
  have e2 : Bi.fitsB y 1 = true := decide_eq_true (show 0 ≤ y ∧ y < (2 : Int) by omega)
  have e3 : Bi.fitsB z 3 = true := decide_eq_true (show 0 ≤ z ∧ z < (8 : Int) by omega)
  have e4 : Bi.togRes [4,1,3] = (1,true) := rfl
  have e5 : ((0 * 2 ^ (4 : Int).toNat + x.toNat) * 2 ^ (1 : Int).toNat + y.toNat) * 2 ^ (3 : Int).toNat + z.toNat = (16 * x + 8 * y + z).toNat := by
    show ((0 * 16 + x.toNat) * 2 + y.toNat) * 8 + z.toNat = _
    omega
  simp only [Bi.bitsStep,Bi.bitsOf,e4,Bi.packGo,e1,e2,e3,if_true,List.length_cons,List.length_nil,and_self,Option.map_some,Option.bind_some]
  rw [e5]
  rfl
theorem bits_215 (x y z : Int) (l : List UInt8) (hx : 0 ≤ x ∧ x ≤ 3) (hy : 0 ≤ y ∧ y ≤ 1) (hz : 0 ≤ z ∧ z ≤ 31) : Bi.bitsStep (some l) [2,1,5] [x,y,z] = some (l ++ PitotImg.w 1 (64 * x + 32 * y + z)) := by
  have e1 : Bi.fitsB x 2 = true := decide_eq_true (show 0 ≤ x ∧ x < (4 : Int) by omega)
  have e2 : Bi.fitsB y 1 = true := decide_eq_true (show 0 ≤ y ∧ y < (2 : Int) by omega)
  have e3 : Bi.fitsB z 5 = true := decide_eq_true (show 0 ≤ z ∧ z < (32 : Int) by omega)
  have e4 : Bi.togRes [2,1,5] = (1,true) := rfl
  have e5 : ((0 * 2 ^ (2 : Int).toNat + x.toNat) * 2 ^ (1 : Int).toNat + y.toNat) * 2 ^ (5 : Int).toNat + z.toNat = (64 * x + 32 * y + z).toNat := by
    show ((0 * 4 + x.toNat) * 2 + y.toNat) * 32 + z.toNat = _
    omega
  simp only [Bi.bitsStep,Bi.bitsOf,e4,Bi.packGo,e1,e2,e3,if_true,List.length_cons,List.length_nil,and_self,Option.map_some,Option.bind_some]
  rw [e5]
  rfl
set_option maxHeartbeats 2000000 in
theorem list_u16 (b n : Nat) (l : List UInt8) (A : Option Addr) (m cap : Nat) (xs : List Int) (W0 w : World) (hW : Bi.WrAt w b n (some l)) (hx : IntsAt W0 A xs) (hB : Below W0.heap.size W0 w) (hb : W0.heap.size ≤ b) (hall : ∀ x ∈ xs,PitotImg.fits 2 x) (hm : xs.length = m) (hlen : m < 65536) (hll : l.length + 2 + 2 * m ≤ 900000) :
    Calls Tryz.prog 62 #[.pointer (some ⟨b,0,none⟩),.slice A m cap,.func (.func 61) #[.pointer (some ⟨b,0,none⟩)] #[]] w fun e w' => e = .returned (.tuple #[]) ∧ Bi.WrAt w' b (n + 1 + m) (some (l ++ PitotImg.manyW (PitotImg.w 2) xs)) ∧ w.grownBy w' (some b) := by
  have HU := Lib.hid (fun (n : Nat) (l : List UInt8) (v : Int) (w : World) (h : Bi.WrAt w b n (some l)) (hf : PitotImg.fits 2 v) (hll : l.length ≤ 900000) => u16_fit b n l v w h hf hll)
  have HW := Lib.hid hW
  have HX := Lib.hid hx
  have HB := Lib.hid hB
  have HA := Lib.hid hall
  have HM := Lib.hid hm
  have hf0 : PitotImg.fits 2 (m : Int) := ⟨by omega,by show (m : Int) < 65536;omega⟩
  have HF0 := Lib.hid hf0
  clear hW hx hB hall hm hf0
  go_enter Tryz.func62,Tryz.ntmps62
  go_wp2_with (go_at_call 61;(with_reducible refine (HU.out n l (m : Int) _ HW.out HF0.out (by omega)).mono ?_);rintro e w1 ⟨rfl,hw1,hg1⟩)
  have HW1 : Hid (Bi.WrAt w1 b (n + 1) (some (l ++ PitotImg.w 2 (m : Int)))) := hw1
  have HG1 := Lib.hid hg1
  clear hw1 hg1 HW
  have fl : ∀ k,k ≤ m → (xs.take k).length = k := fun k hk => by rw [List.length_take,HM.out];omega
  have wl : ∀ k,k ≤ m → ((xs.take k).flatMap (PitotImg.w 2)).length = 2 * k := fun k hk => by
    rw [List.length_flatMap]
    have : ((xs.take k).map fun a => (PitotImg.w 2 a).length) = List.replicate k 2 := by
      rw [List.eq_replicate_iff]
      exact ⟨by simp [HM.out];omega,fun x hx => by obtain ⟨y,_,rfl⟩ := List.mem_map.1 hx;exact PitotImg.w_length 2 y⟩
    rw [this];simp [Nat.mul_comm]
  have FL := Lib.hid wl
  clear wl fl
  go_loopw [14] (fun v14 wr => ∃ k : Nat,k ≤ m ∧ v14 = .int .i64 k ∧ Hid (Bi.WrAt wr b (n + 1 + k) (some (l ++ PitotImg.w 2 (m : Int) ++ (xs.take k).flatMap (PitotImg.w 2)))) ∧ Hid (w.grownBy wr (some b))) (fun v14 _ => m - (intOf v14).toNat)
  case atStart => exact ⟨0,Nat.zero_le _,rfl,by have h := HW1.out;show Bi.WrAt _ _ _ _;simpa using h,HG1⟩
  case round =>
    obtain ⟨k,hk,rfl,ht,hG⟩ := hrel
    by_cases hkm : k < m
    · have hkl : k < xs.length := by rw [HM.out];exact hkm
      have e1 : decide ((k : Int) < (m : Int)) = true := decide_eq_true (by omega)
      have e1' : decide (k < m) = true := decide_eq_true hkm
      obtain ⟨b',off,rfl,hb',hat⟩ := HX.out.get hkl
      have hbl : Below W0.heap.size w wr := grown_below hG.out hb HB.out.size
      have hat : wr.cell? ⟨b',off + k,none⟩ = some (.int .i64 xs[k]) := (hbl.cell hb').trans ((HB.out.cell hb').trans hat)
      have hfx := Lib.hid (HA.out _ (List.getElem_mem hkl))
      have hs : (xs.take (k + 1)).flatMap (PitotImg.w 2) = (xs.take k).flatMap (PitotImg.w 2) ++ PitotImg.w 2 xs[k] := by
        rw [List.take_succ_eq_append_getElem hkl,List.flatMap_append];simp
      have HS := Lib.hid hs
      have hlk := FL.out k hk
      clear hs hbl
      generalize xs[k] = x at hat hfx HS
      have hq : (l ++ PitotImg.w 2 (m : Int) ++ (xs.take k).flatMap (PitotImg.w 2)).length ≤ 900000 := by
        rw [List.length_append,List.length_append,hlk,PitotImg.w_length];omega
      have HC := Lib.hid (HU.out _ _ x wr ht.out hfx.out hq)
      clear hlk hq ht
      go_wp2_with (go_at_call 61;(with_reducible refine (HC.out).mono ?_);rintro e w2 ⟨rfl,hw2,hg2⟩)
      have HW2 : Hid (Bi.WrAt w2 b (n + 1 + (k + 1)) (some (l ++ PitotImg.w 2 (m : Int) ++ (xs.take (k + 1)).flatMap (PitotImg.w 2)))) := by
        show Bi.WrAt _ _ _ _
        rw [HS.out,← List.append_assoc];exact hw2
      have HG2 := Lib.hid (Bi.grown_trans hG.out hg2)
      clear hw2 hg2
      go_roundw
      case rel => exact ⟨k + 1,by omega,by go_num,HW2,HG2⟩
      case measure => simp [intOf];omega
    · have e1 : decide ((k : Int) < (m : Int)) = false := decide_eq_false (by omega)
      have e1' : decide (k < m) = false := decide_eq_false hkm
      obtain rfl : k = m := by omega
      go_wp2
      go_returns
      refine ⟨rfl,?_,hG.out⟩
      have h := ht.out
      rw [List.take_of_length_le (by rw [HM.out];exact Nat.le_refl _)] at h
      rw [PitotImg.manyW,HM.out,← List.append_assoc]
      exact h
end Go.Proofs.YtdgkanamceeheaaGreat.Im
