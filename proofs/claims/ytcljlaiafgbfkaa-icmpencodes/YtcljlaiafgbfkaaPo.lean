/- An echo, as it comes in, is opened: what it is. -/
import Derived.Test.YtcljlaiafgbfkaaBa
import Derived.ProofKit
import Derived.OpenShut
import Derived.WideShapes
import Derived.Deep.Slices
import Derived.Deep.Fields
set_option maxRecDepth 100000
namespace Go.Proofs.Ytcljlaiafgbfkaa
open Go.RowKit Go.ChangeShapes Go.WideShapes Go.Deep

section
variable {H : Type} {enc : TypeId × Value → H} {w W : World} {base b0 : Nat} {spare : Nat → Bool} {held : Bool} {r : Reach}

theorem echo_open {fuel : Nat} {v : Value} {x : DataW H × List MemPlace} (hok : Value.okWide Try.prog w r base 23 v) (h : DataW.trod enc Try.prog W b0 spare held fuel 23 v.cells.toList = some x) :
    ∃ (a : Bool) (i q : Int) (s : ByteArray), (Lit.int .i64 i).wf = true ∧ (Lit.int .i64 q).wf = true ∧ s.size ≤ maxLen ∧ v = eo a i q s := by
  simp only [Value.okWide, Try.underlying23] at hok
  obtain ⟨⟨l⟩, rfl, _⟩ := hok
  have h : DataW.trod enc Try.prog W b0 spare held fuel 23 l = some x := by simpa [Value.cells] using h
  have c3 : Try.prog.cellsOf 3 = 1 := by kernel_rfl
  have c4 : Try.prog.cellsOf 4 = 1 := by kernel_rfl
  have c9 : Try.prog.cellsOf 9 = 1 := by kernel_rfl
  have c23 : Try.prog.cellsOf 23 = 4 := by kernel_rfl
  obtain ⟨ys, n', _, _, hlen, hyl, hf⟩ := DataW.trod_struct Try.underlying23 h
  rw [c23] at hlen
  match l, hlen with
  | [x0, x1, x2, x3], _ =>
    match ys, hyl with
    | [y0, y1, y2, y3], _ =>
      have f0 : DataW.trod enc Try.prog W b0 spare held n' 4 (([x0, x1, x2, x3].drop 0).take (Try.prog.cellsOf 4)) = some y0 := hf 0 _ rfl
      have f1 : DataW.trod enc Try.prog W b0 spare held n' 3 (([x0, x1, x2, x3].drop 1).take (Try.prog.cellsOf 3)) = some y1 := hf 1 _ rfl
      have f2 : DataW.trod enc Try.prog W b0 spare held n' 3 (([x0, x1, x2, x3].drop 2).take (Try.prog.cellsOf 3)) = some y2 := hf 2 _ rfl
      have f3 : DataW.trod enc Try.prog W b0 spare held n' 9 (([x0, x1, x2, x3].drop 3).take (Try.prog.cellsOf 9)) = some y3 := hf 3 _ rfl
      rw [c4] at f0
      rw [c3] at f1 f2
      rw [c9] at f3
      have f0 : DataW.trod enc Try.prog W b0 spare held n' 4 [x0] = some y0 := f0
      have f1 : DataW.trod enc Try.prog W b0 spare held n' 3 [x1] = some y1 := f1
      have f2 : DataW.trod enc Try.prog W b0 spare held n' 3 [x2] = some y2 := f2
      have f3 : DataW.trod enc Try.prog W b0 spare held n' 9 [x3] = some y3 := f3
      obtain ⟨a, e0, _⟩ := DataW.trod_bool Try.underlying4 f0
      obtain ⟨n1, e1, _, w1⟩ := DataW.trod_int Try.underlying3 f1
      obtain ⟨n2, e2, _, w2⟩ := DataW.trod_int Try.underlying3 f2
      obtain ⟨s, e3, h3, w3⟩ := DataW.trod_string Try.underlying9 f3
      simp only [List.cons.injEq, and_true] at e0 e1 e2 e3
      subst e0 e1 e2 e3
      exact ⟨a, n1, n2, s, w1, w2, by first | exact w3 | exact h3, rfl⟩
end
end Go.Proofs.Ytcljlaiafgbfkaa
