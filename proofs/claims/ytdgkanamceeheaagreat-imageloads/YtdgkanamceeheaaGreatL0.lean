/- Steps through a region whose operations may come up in any order, said once for all texts. -/
import Derived.OrdersHeld
import Derived.Deep.RegionHeld
import Derived.Handy
set_option maxRecDepth 100000
set_option linter.unusedVariables false
namespace Go.Proofs.YtdgkanamceeheaaGreat
open Go.RowKit
section
variable {P : Program} {md : Region.Mode} {ops : Array Oper} {Q : Exit → Act → World → Prop} {S : World → Prop}
theorem yA {α : Type} (l : List α) (i : Nat) (v : α) : l.toArray.setIfInBounds i v = (l.set i v).toArray := List.setIfInBounds_toArray ..
theorem yB {α : Type} (x : α) (l : List α) (v : α) : (x :: l).set 0 v = v :: l := rfl
theorem yC {α : Type} (x : α) (l : List α) (i : Nat) (v : α) : (x :: l).set (i + 1) v = x :: l.set i v := rfl
/-- An operation that reads is taken; the panics are the exit's own. -/
theorem tK (i : Nat) {oi : Oper} {v : Value} {fuel : Nat} {listed l : Array Bool} {a b : Act} {w : World}
    (h : wpAnyH P md ops Q S fuel l b w)
    (hi : ops[i]? = some oi := by (try simp only [List.getElem?_toArray, List.getElem?_cons_zero, List.getElem?_cons_succ]); exact rfl)
    (hs : Region.noSelect ops = true := by kernel_rfl) (hf : Region.free md ops listed i = true := by kernel_rfl) (hr : (Region.ready md ops listed).contains i = true := by kernel_rfl)
    (hw : Region.wanted oi (yielded ops a.tmps) = true := by rfl)
    (hy : ∀ w, S w → (execOp a.eval oi).run P w = .ok (.value v) w := by (intro w hSw; (try dsimp only at hSw); clear hSw; go_simp) <;> (with_reducible rfl))
    (hp : a.put oi.dst v = b := by (try simp only [Act.put, List.setIfInBounds_toArray, List.set_cons_zero, List.set_cons_succ]); exact rfl)
    (hl : listed.setIfInBounds i true = l := by (try simp only [List.setIfInBounds_toArray, List.set_cons_zero, List.set_cons_succ]); exact rfl)
    (hQ : ∀ c a w, Q (.panic c) (a.put oi.dst v) w → Q (.panic c) a w := by exact fun _ _ _ h => h)
    (hS : S w := by assumption) : wpAnyH P md ops Q S (fuel + 1) listed a w :=
  wpAnyH_take hi hs hf hr hQ (Or.inl ⟨hw, hy⟩) hS (by rw [hp, hl]; exact h)
/-- An operation that reads is taken; what a panic answers hangs on no slot. -/
theorem tN (i : Nat) {oi : Oper} {v : Value} {fuel d : Nat} {listed l : Array Bool} {a b : Act} {w : World}
    (h : wpAnyH P md ops Q S fuel l b w)
    (hi : ops[i]? = some oi := by (try simp only [List.getElem?_toArray, List.getElem?_cons_zero, List.getElem?_cons_succ]); exact rfl)
    (hd : oi.dst = some d := by exact rfl)
    (hs : Region.noSelect ops = true := by kernel_rfl) (hf : Region.free md ops listed i = true := by kernel_rfl) (hr : (Region.ready md ops listed).contains i = true := by kernel_rfl)
    (hw : Region.wanted oi (yielded ops a.tmps) = true := by rfl)
    (hy : ∀ w, S w → (execOp a.eval oi).run P w = .ok (.value v) w := by (intro w hSw; (try dsimp only at hSw); clear hSw; go_simp) <;> (with_reducible rfl))
    (hp : a.put (some d) v = b := by (try simp only [Act.put, List.setIfInBounds_toArray, List.set_cons_zero, List.set_cons_succ]); exact rfl)
    (hl : listed.setIfInBounds i true = l := by (try simp only [List.setIfInBounds_toArray, List.set_cons_zero, List.set_cons_succ]); exact rfl)
    (hN : ∀ (p : List PanicEntry) (a : Act) (dd : Nat) (vv : Value) (w : World), Q (.panic p) (a.put (some dd) vv) w → Q (.panic p) a w := by assumption)
    (hS : S w := by assumption) : wpAnyH P md ops Q S (fuel + 1) listed a w :=
  wpAnyH_take hi hs hf hr (by rw [hd]; exact fun _ _ _ h => hN _ _ _ _ _ h) (Or.inl ⟨hw, hy⟩) hS (by rw [hd, hp, hl]; exact h)
/-- An operation whose guard is false is passed over. -/
theorem tU (i : Nat) {oi : Oper} {fuel d : Nat} {listed l : Array Bool} {a b : Act} {w : World}
    (h : wpAnyH P md ops Q S fuel l b w)
    (hi : ops[i]? = some oi := by (try simp only [List.getElem?_toArray, List.getElem?_cons_zero, List.getElem?_cons_succ]); exact rfl)
    (hd : oi.dst = some d := by exact rfl)
    (hs : Region.noSelect ops = true := by kernel_rfl) (hf : Region.free md ops listed i = true := by kernel_rfl) (hr : (Region.ready md ops listed).contains i = true := by kernel_rfl)
    (hw : Region.wanted oi (yielded ops a.tmps) = false := by rfl)
    (hp : a.put (some d) undef = b := by (try simp only [Act.put, List.setIfInBounds_toArray, List.set_cons_zero, List.set_cons_succ]); exact rfl)
    (hl : listed.setIfInBounds i true = l := by (try simp only [List.setIfInBounds_toArray, List.set_cons_zero, List.set_cons_succ]); exact rfl)
    (hN : ∀ (p : List PanicEntry) (a : Act) (dd : Nat) (vv : Value) (w : World), Q (.panic p) (a.put (some dd) vv) w → Q (.panic p) a w := by assumption)
    (hS : S w := by assumption) : wpAnyH P md ops Q S (fuel + 1) listed a w :=
  wpAnyH_take hi hs hf hr (by rw [hd]; exact fun _ _ _ h => hN _ _ _ _ _ h) (Or.inr ⟨hw, rfl⟩) hS (by rw [hd, hp, hl]; exact h)
/-- The operations that may come up, one by one. -/
theorem rC {fuel : Nat} {listed : Array Bool} {a : Act} {w : World} {i : Nat} {o : Oper} {rs : List Nat}
    (h : ∀ K' : Act → World → Prop, Shut (∀ a w, S w → (S w → wpAnyH P md ops Q S fuel (listed.setIfInBounds i true) a w) → K' a w) → if Region.wanted o (yielded ops a.tmps) = true then Oper.wp P o a w K' Q else K' (a.put o.dst undef) w)
    (hs : AllReadyH P md ops Q S fuel listed a w rs)
    (ho : ops[i]? = some o := by (try simp only [List.getElem?_toArray, List.getElem?_cons_zero, List.getElem?_cons_succ]); exact rfl) : AllReadyH P md ops Q S fuel listed a w (i :: rs) := AllReadyH.cons ho h hs
theorem rY (rs : List Nat) {fuel : Nat} {listed : Array Bool} {a : Act} {w : World}
    (h : AllReadyH P md ops Q S fuel listed a w rs) (hr : Region.ready md ops listed = rs := by kernel_rfl) (hne : rs ≠ [] := by simp) : wpAnyH P md ops Q S (fuel + 1) listed a w := wpAnyH_ready hr hne h
end
end Go.Proofs.YtdgkanamceeheaaGreat
