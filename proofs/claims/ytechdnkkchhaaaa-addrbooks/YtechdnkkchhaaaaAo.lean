/- An address, three numbers, as they come in, are opened: what they are. -/
import Derived.Test.YtechdnkkchhaaaaVl
import Derived.ProofKit
import Derived.OpenShut
import Derived.WideShapes
set_option maxRecDepth 100000
namespace Go.Proofs.Ytechdnkkchhaaaa
open Go.RowKit Go.Proofs.PitotAddr Go.ChangeShapes Go.WideShapes

section
variable {H : Type} {enc : TypeId × Value → H} {w W : World} {base b0 : Nat} {spare : Nat → Bool} {held : Bool} {r : Reach}

theorem byte_of {n : Int} (h : (Lit.int .u8 n).wf = true) : ∃ b : UInt8, n = (b.toNat : Int) := by
  have := bounds_u8 h
  refine ⟨UInt8.ofNat n.toNat, ?_⟩
  simp
  omega

theorem okWide_agg {t e : TypeId} {n : Nat} {v : Value} (hu : Try.prog.underlying t = some (.array n e)) (h : Value.okWide Try.prog w r base t v) : ∃ cs : Array Value, v = .agg cs ∧ cs.size = Try.prog.cellsOf t := by
  simp only [Value.okWide, hu] at h
  obtain ⟨cs, h1, h2, _⟩ := h
  exact ⟨cs, h1, h2⟩

/-- Six cells that are read as an address. -/
theorem mac_cells {fuel : Nat} {cs : List Value} {x : DataW H × List MemPlace} (h : DataW.trod enc Try.prog W b0 spare held fuel 23 cs = some x) :
    ∃ a b c d e f : UInt8, cs = [.int .u8 a.toNat, .int .u8 b.toNat, .int .u8 c.toNat, .int .u8 d.toNat, .int .u8 e.toNat, .int .u8 f.toNat] := by
  have c5 : Try.prog.cellsOf 5 = 1 := by kernel_rfl
  have c23 : Try.prog.cellsOf 23 = 6 := by kernel_rfl
  obtain ⟨xs, m, _, _, hl, hn, hf⟩ := DataW.trod_array Try.underlying23 h
  rw [c23] at hl
  rw [c5] at hf
  match cs, hl with
  | [x0, x1, x2, x3, x4, x5], _ =>
    match xs, hn with
    | [y0, y1, y2, y3, y4, y5], _ =>
      have f0 : DataW.trod enc Try.prog W b0 spare held m 5 [x0] = some y0 := hf 0 (by omega)
      have f1 : DataW.trod enc Try.prog W b0 spare held m 5 [x1] = some y1 := hf 1 (by omega)
      have f2 : DataW.trod enc Try.prog W b0 spare held m 5 [x2] = some y2 := hf 2 (by omega)
      have f3 : DataW.trod enc Try.prog W b0 spare held m 5 [x3] = some y3 := hf 3 (by omega)
      have f4 : DataW.trod enc Try.prog W b0 spare held m 5 [x4] = some y4 := hf 4 (by omega)
      have f5 : DataW.trod enc Try.prog W b0 spare held m 5 [x5] = some y5 := hf 5 (by omega)
      obtain ⟨n0, e0, _, w0⟩ := DataW.trod_int Try.underlying5 f0
      obtain ⟨n1, e1, _, w1⟩ := DataW.trod_int Try.underlying5 f1
      obtain ⟨n2, e2, _, w2⟩ := DataW.trod_int Try.underlying5 f2
      obtain ⟨n3, e3, _, w3⟩ := DataW.trod_int Try.underlying5 f3
      obtain ⟨n4, e4, _, w4⟩ := DataW.trod_int Try.underlying5 f4
      obtain ⟨n5, e5, _, w5⟩ := DataW.trod_int Try.underlying5 f5
      simp only [List.cons.injEq, and_true] at e0 e1 e2 e3 e4 e5
      subst e0 e1 e2 e3 e4 e5
      obtain ⟨a, rfl⟩ := byte_of w0
      obtain ⟨b, rfl⟩ := byte_of w1
      obtain ⟨c, rfl⟩ := byte_of w2
      obtain ⟨d, rfl⟩ := byte_of w3
      obtain ⟨e, rfl⟩ := byte_of w4
      obtain ⟨f, rfl⟩ := byte_of w5
      exact ⟨a, b, c, d, e, f, rfl⟩

/-- An address that comes in. -/
theorem mac_open {fuel : Nat} {v : Value} {x : DataW H × List MemPlace} (hok : Value.okWide Try.prog w r base 23 v) (h : DataW.trod enc Try.prog W b0 spare held fuel 23 v.cells.toList = some x) :
    ∃ a b c d e f : UInt8, v = mac a b c d e f := by
  obtain ⟨cs, rfl, _⟩ := okWide_agg Try.underlying23 hok
  obtain ⟨a, b, c, d, e, f, hc⟩ := mac_cells (cs := cs.toList) (by simpa [Value.cells] using h)
  refine ⟨a, b, c, d, e, f, ?_⟩
  obtain ⟨l⟩ := cs
  simp at hc
  rw [hc]
end
end Go.Proofs.Ytechdnkkchhaaaa
