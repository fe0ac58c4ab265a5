/- Steps through a region whose operations may come up in any order, said once for all texts. -/
import Derived.OrdersHeld
import Derived.Deep.RegionHeld
import Derived.Handy
set_option maxRecDepth 100000
set_option linter.unusedVariables false
namespace Go.Proofs.YtdgkanamceeheaaGreat
open Go.RowKit
section
variable {P : Program} {md : Region.Mode} {ops : Array Oper} {Q : Exit → Act → World → Prop} {S : World → Prop}
theorem yA {α : Type} (l : List α) (i : Nat) (v : α) : l.toArray.setIfInBounds i v = (l.set i v).toArray := List.setIfInBounds_toArray ..
theorem yB {α : Type} (x : α) (l : List α) (v : α) : (x :: l).set 0 v = v :: l := rfl
theorem yC {α : Type} (x : α) (l : List α) (i : Nat) (v : α) : (x :: l).set (i + 1) v = x :: l.set i v := rfl
/-- An operation that reads may be taken now: it is listed, free and ready. -/
def mayT (md : Region.Mode) (ops : Array Oper) (listed : Array Bool) (i : Nat) : Bool := Region.noSelect ops && Region.free md ops listed i && (Region.ready md ops listed).contains i
theorem may_and {listed : Array Bool} {i : Nat} (h : mayT md ops listed i = true) : Region.noSelect ops = true ∧ Region.free md ops listed i = true ∧ (Region.ready md ops listed).contains i = true := by
  simp only [mayT, Bool.and_eq_true] at h
  exact ⟨h.1.1, h.1.2, h.2⟩
theorem at_list {i : Nat} {oi : Oper} (h : ops.toList[i]? = some oi) : ops[i]? = some oi := by
  rw [← Array.getElem?_toList]; exact h
theorem no_slot {o : Option Nat} {v : Value} (h : ∀ (p : List PanicEntry) (a : Act) (dd : Nat) (vv : Value) (w : World), Q (.panic p) (a.put (some dd) vv) w → Q (.panic p) a w) : ∀ c a w, Q (.panic c) (a.put o v) w → Q (.panic c) a w := by
  intro c a w hq
  cases o with
  | none => exact hq
  | some d => exact h _ _ _ _ _ hq
/-- An operation that reads is taken: what it yields hangs on S. -/
theorem tX (i : Nat) {oi : Oper} {v : Value} {fuel : Nat} {listed : Array Bool} {a : Act} {w : World}
    (h : wpAnyH P md ops Q S fuel (listed.setIfInBounds i true) (a.put oi.dst v) w)
    (hi : ops.toList[i]? = some oi) (hm : mayT md ops listed i = true) (hw : Region.wanted oi (yielded ops a.tmps) = true)
    (hy : ∀ w, S w → (execOp a.eval oi).run P w = .ok (.value v) w)
    (hQ : ∀ c a w, Q (.panic c) (a.put oi.dst v) w → Q (.panic c) a w) (hS : S w) : wpAnyH P md ops Q S (fuel + 1) listed a w :=
  wpAnyH_take (at_list hi) (may_and hm).1 (may_and hm).2.1 (may_and hm).2.2 hQ (Or.inl ⟨hw, hy⟩) hS h
theorem tY (i : Nat) {oi : Oper} {v : Value} {fuel : Nat} {listed : Array Bool} {a : Act} {w : World}
    (h : wpAnyH P md ops Q S fuel (listed.setIfInBounds i true) (a.put oi.dst v) w)
    (hi : ops.toList[i]? = some oi) (hm : mayT md ops listed i = true) (hw : Region.wanted oi (yielded ops a.tmps) = true)
    (hy : ∀ w, S w → (execOp a.eval oi).run P w = .ok (.value v) w)
    (hN : ∀ (p : List PanicEntry) (a : Act) (dd : Nat) (vv : Value) (w : World), Q (.panic p) (a.put (some dd) vv) w → Q (.panic p) a w) (hS : S w) : wpAnyH P md ops Q S (fuel + 1) listed a w :=
  tX i h hi hm hw hy (no_slot hN) hS
/-- The same, where it yields in any world. -/
theorem tK (i : Nat) {oi : Oper} {v : Value} {fuel : Nat} {listed : Array Bool} {a : Act} {w : World}
    (h : wpAnyH P md ops Q S fuel (listed.setIfInBounds i true) (a.put oi.dst v) w)
    (hi : ops.toList[i]? = some oi) (hm : mayT md ops listed i = true) (hw : Region.wanted oi (yielded ops a.tmps) = true)
    (hy : ∀ w, (execOp a.eval oi).run P w = .ok (.value v) w)
    (hQ : ∀ c a w, Q (.panic c) (a.put oi.dst v) w → Q (.panic c) a w) (hS : S w) : wpAnyH P md ops Q S (fuel + 1) listed a w :=
  tX i h hi hm hw (fun w _ => hy w) hQ hS
theorem tN (i : Nat) {oi : Oper} {v : Value} {fuel : Nat} {listed : Array Bool} {a : Act} {w : World}
    (h : wpAnyH P md ops Q S fuel (listed.setIfInBounds i true) (a.put oi.dst v) w)
    (hi : ops.toList[i]? = some oi) (hm : mayT md ops listed i = true) (hw : Region.wanted oi (yielded ops a.tmps) = true)
    (hy : ∀ w, (execOp a.eval oi).run P w = .ok (.value v) w)
    (hN : ∀ (p : List PanicEntry) (a : Act) (dd : Nat) (vv : Value) (w : World), Q (.panic p) (a.put (some dd) vv) w → Q (.panic p) a w) (hS : S w) : wpAnyH P md ops Q S (fuel + 1) listed a w :=
  tX i h hi hm hw (fun w _ => hy w) (no_slot hN) hS
/-- An operation whose guard is false is passed over. -/
theorem tU (i : Nat) {oi : Oper} {fuel : Nat} {listed : Array Bool} {a : Act} {w : World}
    (h : wpAnyH P md ops Q S fuel (listed.setIfInBounds i true) (a.put oi.dst undef) w)
    (hi : ops.toList[i]? = some oi) (hm : mayT md ops listed i = true) (hw : Region.wanted oi (yielded ops a.tmps) = false)
    (hN : ∀ (p : List PanicEntry) (a : Act) (dd : Nat) (vv : Value) (w : World), Q (.panic p) (a.put (some dd) vv) w → Q (.panic p) a w) (hS : S w) : wpAnyH P md ops Q S (fuel + 1) listed a w :=
  wpAnyH_take (at_list hi) (may_and hm).1 (may_and hm).2.1 (may_and hm).2.2 (no_slot hN) (Or.inr ⟨hw, rfl⟩) hS h
/-- The operations that may come up, one by one. -/
theorem rC {fuel : Nat} {listed : Array Bool} {a : Act} {w : World} {i : Nat} {o : Oper} {rs : List Nat} (ho : ops.toList[i]? = some o)
    (h : ∀ K' : Act → World → Prop, Shut (∀ a w, S w → (S w → wpAnyH P md ops Q S fuel (listed.setIfInBounds i true) a w) → K' a w) → if Region.wanted o (yielded ops a.tmps) = true then Oper.wp P o a w K' Q else K' (a.put o.dst undef) w)
    (hs : AllReadyH P md ops Q S fuel listed a w rs) : AllReadyH P md ops Q S fuel listed a w (i :: rs) := AllReadyH.cons (at_list ho) h hs
theorem rY (i : Nat) (rs : List Nat) {fuel : Nat} {listed : Array Bool} {a : Act} {w : World}
    (h : AllReadyH P md ops Q S fuel listed a w (i :: rs)) (hr : Region.ready md ops listed = i :: rs) : wpAnyH P md ops Q S (fuel + 1) listed a w := wpAnyH_ready hr (by simp) h
end
end Go.Proofs.YtdgkanamceeheaaGreat
