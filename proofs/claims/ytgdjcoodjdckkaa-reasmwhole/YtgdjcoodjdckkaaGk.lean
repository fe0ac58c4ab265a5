/- Small facts for goOn. -/
import Derived.Test.YtgdjcoodjdckkaaGp
set_option maxRecDepth 100000
namespace Go.Proofs.Ytgdjcoodjdckkaa
open Go.RowKit Go.Proofs.PitotIp Go.Maps
open Go.Proofs.PitotReasm (Bg Tb Fine)
open Go.Proofs.Ytgdjcoodjdckkaa.Bi (lies_lt lies_cell lies_frozen lies_alloc lies_set)

theorem kept5 {base : Nat} {V6 V7 : World} {v : Value} {l : List UInt8} (hg : V6.grownBy V7 v.ownBlock) (hB : BytesAt base V6 v l) {kb : Nat} {cs : Array Value} {ty : TypeId} {fr : Nat × Nat} (hk : V6.heap[kb]? = some (Obj.cells cs ty fr)) (hty : ty ≠ 5) : V7.heap[kb]? = some (Obj.cells cs ty fr) := by
  obtain ⟨g, cur, fz, e, _, hcur⟩ := hB.block
  refine (hg.block kb (Array.getElem?_eq_some_iff.1 hk).1 ?_).trans hk
  rw [e]
  intro e2; injection e2 with e2; subst e2
  rw [hk] at hcur; injection hcur with hcur; injection hcur with _ e3; exact hty e3
theorem set_kind {W : World} {a b : Nat} {cs1 cs2 : Array Value} {t1 t2 : TypeId} {f1 f2 : Nat × Nat} (ha : W.heap[a]? = some (Obj.cells cs1 t1 f1)) (hb : W.heap[b]? = some (Obj.cells cs2 t2 f2)) (h : t1 ≠ t2) (i : Nat) (v : Value) : (W.setCell ⟨b, i, none⟩ v).heap[a]? = some (Obj.cells cs1 t1 f1) := by
  have hne : a ≠ b := fun e => by
    subst e; rw [ha] at hb; injection hb with hb; injection hb with _ e2; exact h e2
  exact (Below.heap_setCell W _ _ a hne).trans ha
theorem set_same {W : World} {b : Nat} {cs : Array Value} {t : TypeId} {f : Nat × Nat} (hb : W.heap[b]? = some (Obj.cells cs t f)) (i : Nat) (v : Value) : ∃ cs' fr, (W.setCell ⟨b, i, none⟩ v).heap[b]? = some (Obj.cells cs' t fr) := by
  refine ⟨cs.setIfInBounds i v, f, ?_⟩
  rw [setCell_eq_setRow W b i cs t f v hb]
  exact setRow_heap W b cs _ t f hb
theorem tight {base : Nat} {w : World} {p : Nat} {most wait : Int} {t : Tb K UInt8} {mb n : Nat} {D : DataW Value} {ov : Value} {dv : K → Value} (h : Tab base w p most wait t mb n D ov dv) : Tab base w p most wait t mb (Maps.size D) D ov dv := { h with map := map_tight h.map }
theorem row_ne {base : Nat} {w : World} {p : Nat} {most wait : Int} {t : Tb K UInt8} {mb n : Nat} {D : DataW Value} {ov : Value} {dv : K → Value} (h : Tab base w p most wait t mb n D ov dv) {g : Nat} {cs : Array Value} {ty : TypeId} {fr : Nat × Nat} (hg : w.heap[g]? = some (Obj.cells cs ty fr)) (hty : ty ≠ 52) : some g ≠ ov.ownBlock := by
  rcases h.row.2 with ⟨e, _⟩ | ⟨g', cap, cur, e, _, hcur, _⟩
  · rw [e]; simp [Value.ownBlock]
  · rw [e]
    intro e2
    simp [Value.ownBlock] at e2
    subst e2
    rw [hg] at hcur; injection hcur with hcur; injection hcur with _ e3; exact hty e3
end Go.Proofs.Ytgdjcoodjdckkaa
