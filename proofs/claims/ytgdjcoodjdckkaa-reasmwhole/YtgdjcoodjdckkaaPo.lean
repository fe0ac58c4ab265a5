/- A packet, as it comes in, is opened: what it is. -/
import Derived.Test.YtgdjcoodjdckkaaWi
import Derived.ProofKit
import Derived.OpenShut
import Derived.WideShapes
import Derived.Deep.Slices
import Derived.Deep.Fields
set_option maxRecDepth 100000
namespace Go.Proofs.Ytgdjcoodjdckkaa
open Go.RowKit Go.ChangeShapes Go.WideShapes Go.Deep Go.Proofs.PitotIp

section
variable {H : Type} {enc : TypeId × Value → H} {w W : World} {base b0 : Nat} {spare : Nat → Bool} {held : Bool} {r : Reach}

theorem byte_of {n : Int} (h : (Lit.int .u8 n).wf = true) : ∃ b : UInt8, n = (b.toNat : Int) := by
  have := bounds_u8 h
  refine ⟨UInt8.ofNat n.toNat, ?_⟩
  simp
  omega

/-- Four cells that are read as an address of IP. -/
theorem ip_cells {fuel : Nat} {cs : List Value} {x : DataW H × List MemPlace} (h : DataW.trod enc Try.prog W b0 spare held fuel 32 cs = some x) :
    ∃ q : Q4, cs = [.int .u8 q.a.toNat, .int .u8 q.b.toNat, .int .u8 q.c.toNat, .int .u8 q.d.toNat] := by
  have c5 : Try.prog.cellsOf 5 = 1 := by kernel_rfl
  have c23 : Try.prog.cellsOf 32 = 4 := by kernel_rfl
  obtain ⟨xs, m, _, _, hl, hn, hf⟩ := DataW.trod_array Try.underlying32 h
  rw [c23] at hl
  rw [c5] at hf
  match cs, hl with
  | [x0, x1, x2, x3], _ =>
    match xs, hn with
    | [y0, y1, y2, y3], _ =>
      have f0 : DataW.trod enc Try.prog W b0 spare held m 5 [x0] = some y0 := hf 0 (by omega)
      have f1 : DataW.trod enc Try.prog W b0 spare held m 5 [x1] = some y1 := hf 1 (by omega)
      have f2 : DataW.trod enc Try.prog W b0 spare held m 5 [x2] = some y2 := hf 2 (by omega)
      have f3 : DataW.trod enc Try.prog W b0 spare held m 5 [x3] = some y3 := hf 3 (by omega)
      obtain ⟨n0, e0, _, w0⟩ := DataW.trod_int Try.underlying5 f0
      obtain ⟨n1, e1, _, w1⟩ := DataW.trod_int Try.underlying5 f1
      obtain ⟨n2, e2, _, w2⟩ := DataW.trod_int Try.underlying5 f2
      obtain ⟨n3, e3, _, w3⟩ := DataW.trod_int Try.underlying5 f3
      simp only [List.cons.injEq, and_true] at e0 e1 e2 e3
      subst e0 e1 e2 e3
      obtain ⟨a, rfl⟩ := byte_of w0
      obtain ⟨b, rfl⟩ := byte_of w1
      obtain ⟨c, rfl⟩ := byte_of w2
      obtain ⟨d, rfl⟩ := byte_of w3
      exact ⟨⟨a, b, c, d⟩, rfl⟩

theorem packet_open {fuel : Nat} {v : Value} {x : DataW H × List MemPlace} (hok : Value.okWide Try.prog w r base 34 v) (h : DataW.trod enc Try.prog W b0 spare held fuel 34 v.cells.toList = some x) :
    ∃ (id : Int) (m : Bool) (off ttl pr : Int) (a b : Q4) (s : ByteArray), (Lit.int .i64 id).wf = true ∧ (Lit.int .i64 off).wf = true ∧ (Lit.int .i64 ttl).wf = true ∧ (Lit.int .i64 pr).wf = true ∧ s.size ≤ maxLen ∧ v = pk id m off ttl pr a b s := by
  have hv : ∃ cs : Array Value, v = .agg cs := by
    simp only [Value.okWide, Try.underlying34] at hok
    obtain ⟨cs, h1, _⟩ := hok
    exact ⟨cs, h1⟩
  obtain ⟨cs, rfl⟩ := hv
  obtain ⟨l⟩ := cs
  have h : DataW.trod enc Try.prog W b0 spare held fuel 34 l = some x := by simpa [Value.cells] using h
  have c3 : Try.prog.cellsOf 3 = 1 := by kernel_rfl
  have c4 : Try.prog.cellsOf 4 = 1 := by kernel_rfl
  have c9 : Try.prog.cellsOf 9 = 1 := by kernel_rfl
  have c23 : Try.prog.cellsOf 32 = 4 := by kernel_rfl
  obtain ⟨ys, n', _, _, hlen, hyl, hf⟩ := DataW.trod_struct Try.underlying34 h
  rw [cells25] at hlen
  match l, hlen with
  | [x0, x1, x2, x3, x4, x5, x6, x7, x8, x9, x10, x11, x12, x13], _ =>
    match ys, hyl with
    | [y0, y1, y2, y3, y4, y5, y6, y7], _ =>
      have f0 : DataW.trod enc Try.prog W b0 spare held n' 3 (([x0, x1, x2, x3, x4, x5, x6, x7, x8, x9, x10, x11, x12, x13].drop 0).take (Try.prog.cellsOf 3)) = some y0 := hf 0 _ rfl
      have f1 : DataW.trod enc Try.prog W b0 spare held n' 4 (([x0, x1, x2, x3, x4, x5, x6, x7, x8, x9, x10, x11, x12, x13].drop 1).take (Try.prog.cellsOf 4)) = some y1 := hf 1 _ rfl
      have f2 : DataW.trod enc Try.prog W b0 spare held n' 3 (([x0, x1, x2, x3, x4, x5, x6, x7, x8, x9, x10, x11, x12, x13].drop 2).take (Try.prog.cellsOf 3)) = some y2 := hf 2 _ rfl
      have f3 : DataW.trod enc Try.prog W b0 spare held n' 3 (([x0, x1, x2, x3, x4, x5, x6, x7, x8, x9, x10, x11, x12, x13].drop 3).take (Try.prog.cellsOf 3)) = some y3 := hf 3 _ rfl
      have f4 : DataW.trod enc Try.prog W b0 spare held n' 3 (([x0, x1, x2, x3, x4, x5, x6, x7, x8, x9, x10, x11, x12, x13].drop 4).take (Try.prog.cellsOf 3)) = some y4 := hf 4 _ rfl
      have f5 : DataW.trod enc Try.prog W b0 spare held n' 32 (([x0, x1, x2, x3, x4, x5, x6, x7, x8, x9, x10, x11, x12, x13].drop 5).take (Try.prog.cellsOf 32)) = some y5 := hf 5 _ rfl
      have f6 : DataW.trod enc Try.prog W b0 spare held n' 32 (([x0, x1, x2, x3, x4, x5, x6, x7, x8, x9, x10, x11, x12, x13].drop 9).take (Try.prog.cellsOf 32)) = some y6 := hf 6 _ rfl
      have f7 : DataW.trod enc Try.prog W b0 spare held n' 9 (([x0, x1, x2, x3, x4, x5, x6, x7, x8, x9, x10, x11, x12, x13].drop 13).take (Try.prog.cellsOf 9)) = some y7 := hf 7 _ rfl
      rw [c3] at f0 f2 f3 f4
      rw [c4] at f1
      rw [c23] at f5 f6
      rw [c9] at f7
      have f0 : DataW.trod enc Try.prog W b0 spare held n' 3 [x0] = some y0 := f0
      have f1 : DataW.trod enc Try.prog W b0 spare held n' 4 [x1] = some y1 := f1
      have f2 : DataW.trod enc Try.prog W b0 spare held n' 3 [x2] = some y2 := f2
      have f3 : DataW.trod enc Try.prog W b0 spare held n' 3 [x3] = some y3 := f3
      have f4 : DataW.trod enc Try.prog W b0 spare held n' 3 [x4] = some y4 := f4
      have f5 : DataW.trod enc Try.prog W b0 spare held n' 32 [x5, x6, x7, x8] = some y5 := f5
      have f6 : DataW.trod enc Try.prog W b0 spare held n' 32 [x9, x10, x11, x12] = some y6 := f6
      have f7 : DataW.trod enc Try.prog W b0 spare held n' 9 [x13] = some y7 := f7
      obtain ⟨n0, e0, _, w0⟩ := DataW.trod_int Try.underlying3 f0
      obtain ⟨m, e1, _⟩ := DataW.trod_bool Try.underlying4 f1
      obtain ⟨n2, e2, _, w2⟩ := DataW.trod_int Try.underlying3 f2
      obtain ⟨n3, e3, _, w3⟩ := DataW.trod_int Try.underlying3 f3
      obtain ⟨n4, e4, _, w4⟩ := DataW.trod_int Try.underlying3 f4
      obtain ⟨a, e5⟩ := ip_cells f5
      obtain ⟨b, e6⟩ := ip_cells f6
      obtain ⟨s, e7, h7, w7⟩ := DataW.trod_string Try.underlying9 f7
      simp only [List.cons.injEq, and_true] at e0 e1 e2 e3 e4 e5 e6 e7
      obtain ⟨rfl, rfl, rfl, rfl⟩ := e5
      obtain ⟨rfl, rfl, rfl, rfl⟩ := e6
      subst e0 e1 e2 e3 e4 e7
      exact ⟨n0, m, n2, n3, n4, a, b, s, w0, w2, w3, w4, by first | exact w7 | exact h7, rfl⟩
end
end Go.Proofs.Ytgdjcoodjdckkaa
