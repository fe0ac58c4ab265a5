/- A list of calls, as it comes in, is opened: what its cells hold. -/
import Derived.Test.YtechdnkkchhaaaaAo
import Derived.Deep.Slices
import Derived.Deep.Fields
set_option maxRecDepth 100000
namespace Go.Proofs.Ytechdnkkchhaaaa
open Go.RowKit Go.Proofs.PitotAddr Go.ChangeShapes Go.WideShapes Go.Deep

/-- A call: what it asks, of which address, which number. -/
structure Cal where
  ask : Int
  m : M6
  n : Int

def CalAt (w : World) (b off : Nat) (t : Cal) : Prop :=
  w.cell? ⟨b, off + 0, none⟩ = some (.int .i64 t.ask) ∧ w.cell? ⟨b, off + 1, none⟩ = some (.int .u8 t.m.a.toNat) ∧ w.cell? ⟨b, off + 2, none⟩ = some (.int .u8 t.m.b.toNat) ∧ w.cell? ⟨b, off + 3, none⟩ = some (.int .u8 t.m.c.toNat) ∧ w.cell? ⟨b, off + 4, none⟩ = some (.int .u8 t.m.d.toNat) ∧ w.cell? ⟨b, off + 5, none⟩ = some (.int .u8 t.m.e.toNat) ∧ w.cell? ⟨b, off + 6, none⟩ = some (.int .u8 t.m.f.toNat) ∧ w.cell? ⟨b, off + 7, none⟩ = some (.int .i64 t.n) ∧ (Lit.int .i64 t.n).wf = true

def CalsAt (w : World) (A : Option Addr) (l : List Cal) : Prop :=
  l ≠ [] → ∃ b off, A = some ⟨b, off, none⟩ ∧ b < w.heap.size ∧ ∀ i (h : i < l.length), CalAt w b (off + i * 8) l[i]

theorem CalAt.keep {w w' : World} {b off : Nat} {t : Cal} (h : CalAt w b off t) (hk : ∀ i, w'.cell? ⟨b, i, none⟩ = w.cell? ⟨b, i, none⟩) : CalAt w' b off t := by
  obtain ⟨h0, h1, h2, h3, h4, h5, h6, h7, h8⟩ := h
  exact ⟨(hk _).trans h0, (hk _).trans h1, (hk _).trans h2, (hk _).trans h3, (hk _).trans h4, (hk _).trans h5, (hk _).trans h6, (hk _).trans h7, h8⟩

theorem cell_lt {w : World} {a : Addr} {v : Value} (h : w.cell? a = some v) : a.block < w.heap.size := by
  rcases Nat.lt_or_ge a.block w.heap.size with h1 | h1
  · exact h1
  · simp [World.cell?, Array.getElem?_eq_none h1] at h

theorem list_of {α : Type} {P : Nat → α → Prop} : ∀ (n : Nat), (∀ i, i < n → ∃ t, P i t) → ∃ l : List α, l.length = n ∧ ∀ i (h : i < l.length), P i l[i]
  | 0, _ => ⟨[], rfl, fun i h => by simp at h⟩
  | n + 1, h => by
    obtain ⟨l, hl, hp⟩ := list_of n (fun i hi => h i (by omega))
    obtain ⟨t, ht⟩ := h n (by omega)
    refine ⟨l ++ [t], by simp [hl], fun i hi => ?_⟩
    by_cases hin : i < l.length
    · rw [List.getElem_append_left hin]; exact hp i hin
    · have : i = n := by simp at hi; omega
      subst this
      rw [List.getElem_append_right (by omega)]
      simpa [hl] using ht

theorem add_add' (b off i j : Nat) : ((⟨b, off, none⟩ : Addr).add i).add j = ⟨b, off + i + j, none⟩ := by
  unfold Addr.add
  by_cases hi : i = 0 <;> by_cases hj : j = 0 <;> simp [hi, hj]

section
variable {H : Type} {enc : TypeId × Value → H} {w : World} {base : Nat} {spare : Nat → Bool} {held : Bool}

/-- A list of calls that comes in. -/
theorem ops_open {fuel : Nat} {v : Value} {x : DataW H × List MemPlace} (h : DataW.trod enc Try.prog w base spare held fuel 59 [v] = some x) :
    ∃ Ad cap l, v = .slice Ad (List.length l) cap ∧ CalsAt w Ad l ∧ l.length ≤ maxLen := by
  have hC : Try.prog.cellsOf 69 = 8 := by kernel_rfl
  rcases open_slice Try.underlying59 h with ⟨hcs, _⟩ | ⟨a, len, cap, m, n, D, Pl, hcs, _, hl, hm, hmm, _, hall⟩
  · exact ⟨none, 0, [], by simpa using hcs, fun h => absurd rfl h, by simp⟩
  · have hlm : len ≤ m := by rw [hmm]; split <;> omega
    have each : ∀ i, i < len → ∃ t : Cal, ∃ b off, a = ⟨b, off, none⟩ ∧ b < w.heap.size ∧ CalAt w b (off + i * 8) t := by
      intro i hi
      obtain ⟨cs, hcell, htr⟩ := hall i (by omega)
      rw [hC] at hcell
      obtain ⟨_, hlen, hat⟩ := World.cells?_some hcell
      obtain ⟨ys, n', _, _, _, hyl, hf⟩ := DataW.trod_struct Try.underlying69 htr
      match cs, hlen with
      | [x0, x1, x2, x3, x4, x5, x6, x7], _ =>
        have c3 : Try.prog.cellsOf 3 = 1 := by kernel_rfl
        have c23 : Try.prog.cellsOf 23 = 6 := by kernel_rfl
        match ys, hyl with
        | [y0, y1, y2], _ =>
          have f0 : DataW.trod enc Try.prog w base spare held n' 3 (([x0, x1, x2, x3, x4, x5, x6, x7].drop 0).take (Try.prog.cellsOf 3)) = some y0 := hf 0 _ rfl
          rw [c3] at f0
          have f0 : DataW.trod enc Try.prog w base spare held n' 3 [x0] = some y0 := f0
          have f1 : DataW.trod enc Try.prog w base spare held n' 23 (([x0, x1, x2, x3, x4, x5, x6, x7].drop 1).take (Try.prog.cellsOf 23)) = some y1 := hf 1 _ rfl
          rw [c23] at f1
          have f1 : DataW.trod enc Try.prog w base spare held n' 23 [x1, x2, x3, x4, x5, x6] = some y1 := f1
          have f2 : DataW.trod enc Try.prog w base spare held n' 3 (([x0, x1, x2, x3, x4, x5, x6, x7].drop 7).take (Try.prog.cellsOf 3)) = some y2 := hf 2 _ rfl
          rw [c3] at f2
          have f2 : DataW.trod enc Try.prog w base spare held n' 3 [x7] = some y2 := f2
          obtain ⟨n0, e0, _, _⟩ := DataW.trod_int Try.underlying3 f0
          obtain ⟨ma, mb, mc, md, me, mf, e1⟩ := mac_cells f1
          obtain ⟨n2, e2, _, w2⟩ := DataW.trod_int Try.underlying3 f2
          simp only [List.cons.injEq, and_true] at e0 e1 e2
          obtain ⟨r1, r2, r3, r4, r5, r6⟩ := e1
          subst e0 e2 r1 r2 r3 r4 r5 r6
          have h0 : w.cell? ((a.add (i * Try.prog.cellsOf 69)).add 0) = some (.int .i64 n0) := hat 0 (by omega)
          have h1 : w.cell? ((a.add (i * Try.prog.cellsOf 69)).add 1) = some (.int .u8 ma.toNat) := hat 1 (by omega)
          have h2 : w.cell? ((a.add (i * Try.prog.cellsOf 69)).add 2) = some (.int .u8 mb.toNat) := hat 2 (by omega)
          have h3 : w.cell? ((a.add (i * Try.prog.cellsOf 69)).add 3) = some (.int .u8 mc.toNat) := hat 3 (by omega)
          have h4 : w.cell? ((a.add (i * Try.prog.cellsOf 69)).add 4) = some (.int .u8 md.toNat) := hat 4 (by omega)
          have h5 : w.cell? ((a.add (i * Try.prog.cellsOf 69)).add 5) = some (.int .u8 me.toNat) := hat 5 (by omega)
          have h6 : w.cell? ((a.add (i * Try.prog.cellsOf 69)).add 6) = some (.int .u8 mf.toNat) := hat 6 (by omega)
          have h7 : w.cell? ((a.add (i * Try.prog.cellsOf 69)).add 7) = some (.int .i64 n2) := hat 7 (by omega)
          obtain ⟨b, off, spot⟩ := a
          have hspot : spot = none := by
            obtain ⟨cs0, hcell0, htr0⟩ := hall 0 (by omega)
            rw [hC] at hcell0
            obtain ⟨_, hlen0, hat0⟩ := World.cells?_some hcell0
            have q0 := hat0 0 (by omega)
            rw [List.getElem?_eq_getElem (by omega)] at q0
            simpa [Addr.add] using World.cell?_spot q0
          subst hspot
          rw [hC, add_add'] at h0 h1 h2 h3 h4 h5 h6 h7
          exact ⟨⟨n0, ⟨ma, mb, mc, md, me, mf⟩, n2⟩, b, off, rfl, cell_lt h0, h0, h1, h2, h3, h4, h5, h6, h7, w2⟩
    obtain ⟨l, hll, hlp⟩ := list_of len each
    refine ⟨some a, cap, l, by rw [hll]; simpa using hcs, fun hne => ?_, by omega⟩
    have hpos : 0 < l.length := List.length_pos_iff.2 hne
    obtain ⟨b, off, rfl, hb, _⟩ := hlp 0 hpos
    refine ⟨b, off, rfl, hb, fun i hi => ?_⟩
    obtain ⟨b', off', e, _, hit⟩ := hlp i hi
    cases e
    exact hit
end
end Go.Proofs.Ytechdnkkchhaaaa
