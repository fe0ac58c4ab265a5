/- Three numbers, as they come in, are opened: what they are. -/
import Derived.Test.YtechdnkkchhaaaaAo
set_option maxRecDepth 100000
namespace Go.Proofs.Ytechdnkkchhaaaa
open Go.RowKit Go.Proofs.PitotAddr Go.ChangeShapes Go.WideShapes

section
variable {H : Type} {enc : TypeId × Value → H} {w W : World} {base b0 : Nat} {spare : Nat → Bool} {held : Bool} {r : Reach}

theorem arr3_open {fuel : Nat} {v : Value} {x : DataW H × List MemPlace} (hok : Value.okWide Try.prog w r base 81 v) (h : DataW.trod enc Try.prog W b0 spare held fuel 81 v.cells.toList = some x) :
    ∃ a b c : Int, v = .agg #[.int .i64 a, .int .i64 b, .int .i64 c] := by
  obtain ⟨cs, rfl, _⟩ := okWide_agg Try.underlying81 hok
  have c3 : Try.prog.cellsOf 3 = 1 := by kernel_rfl
  have c81 : Try.prog.cellsOf 81 = 3 := by kernel_rfl
  have h : DataW.trod enc Try.prog W b0 spare held fuel 81 cs.toList = some x := by simpa [Value.cells] using h
  obtain ⟨xs, m, _, _, hl, hn, hf⟩ := DataW.trod_array Try.underlying81 h
  rw [c81] at hl
  rw [c3] at hf
  obtain ⟨l⟩ := cs
  match l, hl with
  | [x0, x1, x2], _ =>
    match xs, hn with
    | [y0, y1, y2], _ =>
      have f0 : DataW.trod enc Try.prog W b0 spare held m 3 [x0] = some y0 := hf 0 (by omega)
      have f1 : DataW.trod enc Try.prog W b0 spare held m 3 [x1] = some y1 := hf 1 (by omega)
      have f2 : DataW.trod enc Try.prog W b0 spare held m 3 [x2] = some y2 := hf 2 (by omega)
      obtain ⟨n0, e0, _, _⟩ := DataW.trod_int Try.underlying3 f0
      obtain ⟨n1, e1, _, _⟩ := DataW.trod_int Try.underlying3 f1
      obtain ⟨n2, e2, _, _⟩ := DataW.trod_int Try.underlying3 f2
      simp only [List.cons.injEq, and_true] at e0 e1 e2
      subst e0 e1 e2
      exact ⟨n0, n1, n2, rfl⟩
end
end Go.Proofs.Ytechdnkkchhaaaa
