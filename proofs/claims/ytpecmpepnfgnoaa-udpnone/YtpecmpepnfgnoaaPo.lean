/- Ends, an address, two addresses, two numbers, as they come in, are opened: what they are. -/
import Derived.Test.YtpecmpepnfgnoaaBa
import Derived.ProofKit
import Derived.OpenShut
import Derived.WideShapes
import Derived.Deep.Slices
import Derived.Deep.Fields
set_option maxRecDepth 100000
namespace Go.Proofs.Ytpecmpepnfgnoaa
open Go.RowKit Go.ChangeShapes Go.WideShapes Go.Deep Go.Proofs.PitotIp

section
variable {H : Type} {enc : TypeId × Value → H} {w W : World} {base b0 : Nat} {spare : Nat → Bool} {held : Bool} {r : Reach}

theorem byte_of {n : Int} (h : (Lit.int .u8 n).wf = true) : ∃ b : UInt8, n = (b.toNat : Int) := by
  have := bounds_u8 h
  refine ⟨UInt8.ofNat n.toNat, ?_⟩
  simp
  omega

/-- Four cells that are read as an address of IP. -/
theorem ip_cells {fuel : Nat} {cs : List Value} {x : DataW H × List MemPlace} (h : DataW.trod enc Try.prog W b0 spare held fuel 23 cs = some x) :
    ∃ q : Q4, cs = [.int .u8 q.a.toNat, .int .u8 q.b.toNat, .int .u8 q.c.toNat, .int .u8 q.d.toNat] := by
  have c5 : Try.prog.cellsOf 5 = 1 := by kernel_rfl
  have c23 : Try.prog.cellsOf 23 = 4 := by kernel_rfl
  obtain ⟨xs, m, _, _, hl, hn, hf⟩ := DataW.trod_array Try.underlying23 h
  rw [c23] at hl
  rw [c5] at hf
  match cs, hl with
  | [x0, x1, x2, x3], _ =>
    match xs, hn with
    | [y0, y1, y2, y3], _ =>
      have f0 : DataW.trod enc Try.prog W b0 spare held m 5 [x0] = some y0 := hf 0 (by omega)
      have f1 : DataW.trod enc Try.prog W b0 spare held m 5 [x1] = some y1 := hf 1 (by omega)
      have f2 : DataW.trod enc Try.prog W b0 spare held m 5 [x2] = some y2 := hf 2 (by omega)
      have f3 : DataW.trod enc Try.prog W b0 spare held m 5 [x3] = some y3 := hf 3 (by omega)
      obtain ⟨n0, e0, _, w0⟩ := DataW.trod_int Try.underlying5 f0
      obtain ⟨n1, e1, _, w1⟩ := DataW.trod_int Try.underlying5 f1
      obtain ⟨n2, e2, _, w2⟩ := DataW.trod_int Try.underlying5 f2
      obtain ⟨n3, e3, _, w3⟩ := DataW.trod_int Try.underlying5 f3
      simp only [List.cons.injEq, and_true] at e0 e1 e2 e3
      subst e0 e1 e2 e3
      obtain ⟨a, rfl⟩ := byte_of w0
      obtain ⟨b, rfl⟩ := byte_of w1
      obtain ⟨c, rfl⟩ := byte_of w2
      obtain ⟨d, rfl⟩ := byte_of w3
      exact ⟨⟨a, b, c, d⟩, rfl⟩

theorem agg_of {v : Value} {t : TypeId} (hok : Value.okWide Try.prog w r base t v) (ht : t = 25 ∨ t = 23 ∨ t = 41 ∨ t = 45) : ∃ cs : Array Value, v = .agg cs := by
  rcases ht with rfl | rfl | rfl | rfl
  · simp only [Value.okWide, Try.underlying25] at hok
    obtain ⟨cs, h1, _⟩ := hok
    exact ⟨cs, h1⟩
  · simp only [Value.okWide, Try.underlying23] at hok
    obtain ⟨cs, h1, _⟩ := hok
    exact ⟨cs, h1⟩
  · simp only [Value.okWide, Try.underlying41] at hok
    obtain ⟨cs, h1, _⟩ := hok
    exact ⟨cs, h1⟩
  · simp only [Value.okWide, Try.underlying45] at hok
    obtain ⟨cs, h1, _⟩ := hok
    exact ⟨cs, h1⟩

theorem ip_open {fuel : Nat} {v : Value} {x : DataW H × List MemPlace} (hok : Value.okWide Try.prog w r base 23 v) (h : DataW.trod enc Try.prog W b0 spare held fuel 23 v.cells.toList = some x) : ∃ q : Q4, v = ip4 q := by
  obtain ⟨⟨l⟩, rfl⟩ := agg_of hok (.inr (.inl rfl))
  have h : DataW.trod enc Try.prog W b0 spare held fuel 23 l = some x := by simpa [Value.cells] using h
  obtain ⟨q, rfl⟩ := ip_cells h
  exact ⟨q, rfl⟩

theorem two_ips_open {fuel : Nat} {v : Value} {x : DataW H × List MemPlace} (hok : Value.okWide Try.prog w r base 45 v) (h : DataW.trod enc Try.prog W b0 spare held fuel 45 v.cells.toList = some x) :
    ∃ p q : Q4, v = .agg #[.int .u8 p.a.toNat, .int .u8 p.b.toNat, .int .u8 p.c.toNat, .int .u8 p.d.toNat, .int .u8 q.a.toNat, .int .u8 q.b.toNat, .int .u8 q.c.toNat, .int .u8 q.d.toNat] := by
  obtain ⟨⟨l⟩, rfl⟩ := agg_of hok (.inr (.inr (.inr rfl)))
  have h : DataW.trod enc Try.prog W b0 spare held fuel 45 l = some x := by simpa [Value.cells] using h
  have c23 : Try.prog.cellsOf 23 = 4 := by kernel_rfl
  have c45 : Try.prog.cellsOf 45 = 8 := by kernel_rfl
  obtain ⟨xs, m, _, _, hl, hn, hf⟩ := DataW.trod_array Try.underlying45 h
  rw [c45] at hl
  rw [c23] at hf
  match l, hl with
  | [x0, x1, x2, x3, x4, x5, x6, x7], _ =>
    match xs, hn with
    | [y0, y1], _ =>
      have f0 : DataW.trod enc Try.prog W b0 spare held m 23 [x0, x1, x2, x3] = some y0 := hf 0 (by omega)
      have f1 : DataW.trod enc Try.prog W b0 spare held m 23 [x4, x5, x6, x7] = some y1 := hf 1 (by omega)
      obtain ⟨p, e0⟩ := ip_cells f0
      obtain ⟨q, e1⟩ := ip_cells f1
      simp only [List.cons.injEq, and_true] at e0 e1
      obtain ⟨rfl, rfl, rfl, rfl⟩ := e0
      obtain ⟨rfl, rfl, rfl, rfl⟩ := e1
      exact ⟨p, q, rfl⟩

theorem two_ints_open {fuel : Nat} {v : Value} {x : DataW H × List MemPlace} (hok : Value.okWide Try.prog w r base 41 v) (h : DataW.trod enc Try.prog W b0 spare held fuel 41 v.cells.toList = some x) :
    ∃ m n : Int, (Lit.int .i64 m).wf = true ∧ (Lit.int .i64 n).wf = true ∧ v = .agg #[.int .i64 m, .int .i64 n] := by
  obtain ⟨⟨l⟩, rfl⟩ := agg_of hok (.inr (.inr (.inl rfl)))
  have h : DataW.trod enc Try.prog W b0 spare held fuel 41 l = some x := by simpa [Value.cells] using h
  have c3 : Try.prog.cellsOf 3 = 1 := by kernel_rfl
  have c41 : Try.prog.cellsOf 41 = 2 := by kernel_rfl
  obtain ⟨xs, m, _, _, hl, hn, hf⟩ := DataW.trod_array Try.underlying41 h
  rw [c41] at hl
  rw [c3] at hf
  match l, hl with
  | [x0, x1], _ =>
    match xs, hn with
    | [y0, y1], _ =>
      have f0 : DataW.trod enc Try.prog W b0 spare held m 3 [x0] = some y0 := hf 0 (by omega)
      have f1 : DataW.trod enc Try.prog W b0 spare held m 3 [x1] = some y1 := hf 1 (by omega)
      obtain ⟨n0, e0, _, w0⟩ := DataW.trod_int Try.underlying3 f0
      obtain ⟨n1, e1, _, w1⟩ := DataW.trod_int Try.underlying3 f1
      simp only [List.cons.injEq, and_true] at e0 e1
      subst e0 e1
      exact ⟨n0, n1, w0, w1, rfl⟩

theorem ends_open {fuel : Nat} {v : Value} {x : DataW H × List MemPlace} (hok : Value.okWide Try.prog w r base 25 v) (h : DataW.trod enc Try.prog W b0 spare held fuel 25 v.cells.toList = some x) :
    ∃ (a b : Q4) (f t : Int), (Lit.int .i64 f).wf = true ∧ (Lit.int .i64 t).wf = true ∧ v = en a b f t := by
  obtain ⟨⟨l⟩, rfl⟩ := agg_of hok (.inl rfl)
  have h : DataW.trod enc Try.prog W b0 spare held fuel 25 l = some x := by simpa [Value.cells] using h
  have c3 : Try.prog.cellsOf 3 = 1 := by kernel_rfl
  have c23 : Try.prog.cellsOf 23 = 4 := by kernel_rfl
  obtain ⟨ys, n', _, _, hlen, hyl, hf⟩ := DataW.trod_struct Try.underlying25 h
  rw [cells25] at hlen
  match l, hlen with
  | [x0, x1, x2, x3, x4, x5, x6, x7, x8, x9], _ =>
    match ys, hyl with
    | [y0, y1, y2, y3], _ =>
      have f0 : DataW.trod enc Try.prog W b0 spare held n' 23 (([x0, x1, x2, x3, x4, x5, x6, x7, x8, x9].drop 0).take (Try.prog.cellsOf 23)) = some y0 := hf 0 _ rfl
      have f1 : DataW.trod enc Try.prog W b0 spare held n' 23 (([x0, x1, x2, x3, x4, x5, x6, x7, x8, x9].drop 4).take (Try.prog.cellsOf 23)) = some y1 := hf 1 _ rfl
      have f2 : DataW.trod enc Try.prog W b0 spare held n' 3 (([x0, x1, x2, x3, x4, x5, x6, x7, x8, x9].drop 8).take (Try.prog.cellsOf 3)) = some y2 := hf 2 _ rfl
      have f3 : DataW.trod enc Try.prog W b0 spare held n' 3 (([x0, x1, x2, x3, x4, x5, x6, x7, x8, x9].drop 9).take (Try.prog.cellsOf 3)) = some y3 := hf 3 _ rfl
      rw [c23] at f0 f1
      rw [c3] at f2 f3
      have f0 : DataW.trod enc Try.prog W b0 spare held n' 23 [x0, x1, x2, x3] = some y0 := f0
      have f1 : DataW.trod enc Try.prog W b0 spare held n' 23 [x4, x5, x6, x7] = some y1 := f1
      have f2 : DataW.trod enc Try.prog W b0 spare held n' 3 [x8] = some y2 := f2
      have f3 : DataW.trod enc Try.prog W b0 spare held n' 3 [x9] = some y3 := f3
      obtain ⟨a, e0⟩ := ip_cells f0
      obtain ⟨b, e1⟩ := ip_cells f1
      obtain ⟨n2, e2, _, w2⟩ := DataW.trod_int Try.underlying3 f2
      obtain ⟨n3, e3, _, w3⟩ := DataW.trod_int Try.underlying3 f3
      simp only [List.cons.injEq, and_true] at e0 e1 e2 e3
      obtain ⟨rfl, rfl, rfl, rfl⟩ := e0
      obtain ⟨rfl, rfl, rfl, rfl⟩ := e1
      subst e2 e3
      exact ⟨a, b, n2, n3, w2, w3, rfl⟩
end
end Go.Proofs.Ytpecmpepnfgnoaa
