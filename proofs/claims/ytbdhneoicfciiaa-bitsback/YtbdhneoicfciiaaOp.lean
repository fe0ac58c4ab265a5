/- A list of items, as it comes in, is opened: what its cells hold. -/
import Derived.Test.YtbdhneoicfciiaaWw
import Derived.ProofKit
import Derived.OpenShut
import Derived.Deep.Slices
import Derived.Deep.Fields
namespace Go.Proofs.Ytbdhneoicfciiaa
open Go.RowKit Go.Proofs.PitotMath Go.ChangeShapes Go.WideShapes Go.Deep

theorem cell_lt {w : World} {a : Addr} {v : Value} (h : w.cell? a = some v) : a.block < w.heap.size := by
  rcases Nat.lt_or_ge a.block w.heap.size with h1 | h1
  · exact h1
  · simp [World.cell?, Array.getElem?_eq_none h1] at h

theorem list_of {α : Type} {P : Nat → α → Prop} : ∀ (n : Nat), (∀ i, i < n → ∃ t, P i t) → ∃ l : List α, l.length = n ∧ ∀ i (h : i < l.length), P i l[i]
  | 0, _ => ⟨[], rfl, fun i h => by simp at h⟩
  | n + 1, h => by
    obtain ⟨l, hl, hp⟩ := list_of n (fun i hi => h i (by omega))
    obtain ⟨t, ht⟩ := h n (by omega)
    refine ⟨l ++ [t], by simp [hl], fun i hi => ?_⟩
    by_cases hin : i < l.length
    · rw [List.getElem_append_left hin]; exact hp i hin
    · have : i = n := by simp at hi; omega
      subst this
      rw [List.getElem_append_right (by omega)]
      simpa [hl] using ht

section
variable {H : Type} {enc : TypeId × Value → H} {P : Program} {w : World} {base : Nat} {spare : Nat → Bool} {held : Bool}

/-- A list of ints that comes in. -/
theorem ints_open {t e : TypeId} {fuel : Nat} {v : Value} {x : DataW H × List MemPlace} (ht : P.underlying t = some (.slice e)) (he : P.underlying e = some (.int .i64)) (hc : P.cellsOf e = 1)
    (h : DataW.trod enc P w base spare held fuel t [v] = some x) : ∃ A cap xs, v = .slice A xs.length cap ∧ IntsAt w A xs ∧ xs.length ≤ maxLen ∧ ∀ n ∈ xs, (Lit.int .i64 n).wf = true := by
  rcases open_ints ht he hc h with ⟨hcs, _⟩ | ⟨a, len, cap, zs, hcs, _, hl, hm, hz, _, hcell, hwf⟩
  · refine ⟨none, 0, [], ?_, fun h => absurd rfl h, by simp, fun n h => by simp at h⟩
    simpa using hcs
  · have hlz : len ≤ zs.length := by rw [hz]; split <;> omega
    refine ⟨some a, cap, zs.take len, ?_, ?_, by simp; omega, fun n hn => hwf n (List.mem_of_mem_take hn)⟩
    · rw [List.length_take, Nat.min_eq_left hlz]; simpa using hcs
    · intro hne
      have hpos : 0 < zs.length := by
        rcases Nat.eq_zero_or_pos zs.length with h0 | h0
        · rw [List.length_eq_zero_iff] at h0; subst h0; simp at hne
        · exact h0
      obtain ⟨b, off, rfl, hc'⟩ := ints_at hcell hpos
      refine ⟨b, off, rfl, cell_lt (hc' 0 hpos), fun i hi => ?_⟩
      have hi' : i < zs.length := by simp at hi; omega
      rw [hc' i hi', List.getElem_take]
      simp [List.getD, hi']

theorem add_add' (b off i j : Nat) : ((⟨b, off, none⟩ : Addr).add i).add j = ⟨b, off + i + j, none⟩ := by
  unfold Addr.add
  by_cases hi : i = 0 <;> by_cases hj : j = 0 <;> simp [hi, hj]

/-- A list of items that comes in. -/
theorem items_open {fuel : Nat} {v : Value} {x : DataW H × List MemPlace} (h : DataW.trod enc Try.prog w base spare held fuel 22 [v] = some x) :
    ∃ Ad cap l, v = .slice Ad (List.length l) cap ∧ ItemsAt w Ad l ∧ l.length ≤ maxLen := by
  have hC : Try.prog.cellsOf 35 = 5 := by kernel_rfl
  rcases open_slice Try.underlying22 h with ⟨hcs, _⟩ | ⟨a, len, cap, m, n, D, Pl, hcs, _, hl, hm, hmm, _, hall⟩
  · exact ⟨none, 0, [], by simpa using hcs, fun h => absurd rfl h, by simp⟩
  · have hlm : len ≤ m := by rw [hmm]; split <;> omega
    have each : ∀ i, i < len → ∃ t : It, ∃ b off, a = ⟨b, off, none⟩ ∧ b < w.heap.size ∧ ItAt w b (off + i * 5) t := by
      intro i hi
      obtain ⟨cs, hcell, htr⟩ := hall i (by omega)
      rw [hC] at hcell
      obtain ⟨_, hlen, hat⟩ := World.cells?_some hcell
      obtain ⟨ys, n', _, _, _, hyl, hf⟩ := DataW.trod_struct Try.underlying35 htr
      match cs, hlen with
      | [x0, x1, x2, x3, x4], _ =>
        have c1 : Try.prog.cellsOf 3 = 1 := by kernel_rfl
        have c9 : Try.prog.cellsOf 9 = 1 := by kernel_rfl
        have c33 : Try.prog.cellsOf 33 = 1 := by kernel_rfl
        match ys, hyl with
        | [y0, y1, y2, y3, y4], _ =>
          have f0 : DataW.trod enc Try.prog w base spare held n' 3 (([x0, x1, x2, x3, x4].drop 0).take (Try.prog.cellsOf 3)) = some y0 := hf 0 _ rfl
          rw [c1] at f0
          have f0 : DataW.trod enc Try.prog w base spare held n' 3 [x0] = some y0 := f0
          have f1 : DataW.trod enc Try.prog w base spare held n' 3 (([x0, x1, x2, x3, x4].drop 1).take (Try.prog.cellsOf 3)) = some y1 := hf 1 _ rfl
          rw [c1] at f1
          have f1 : DataW.trod enc Try.prog w base spare held n' 3 [x1] = some y1 := f1
          have f2 : DataW.trod enc Try.prog w base spare held n' 9 (([x0, x1, x2, x3, x4].drop 2).take (Try.prog.cellsOf 9)) = some y2 := hf 2 _ rfl
          rw [c9] at f2
          have f2 : DataW.trod enc Try.prog w base spare held n' 9 [x2] = some y2 := f2
          have f3 : DataW.trod enc Try.prog w base spare held n' 33 (([x0, x1, x2, x3, x4].drop 3).take (Try.prog.cellsOf 33)) = some y3 := hf 3 _ rfl
          rw [c33] at f3
          have f3 : DataW.trod enc Try.prog w base spare held n' 33 [x3] = some y3 := f3
          have f4 : DataW.trod enc Try.prog w base spare held n' 33 (([x0, x1, x2, x3, x4].drop 4).take (Try.prog.cellsOf 33)) = some y4 := hf 4 _ rfl
          rw [c33] at f4
          have f4 : DataW.trod enc Try.prog w base spare held n' 33 [x4] = some y4 := f4
          obtain ⟨n0, e0, _, _⟩ := DataW.trod_int Try.underlying3 f0
          obtain ⟨n1, e1, _, _⟩ := DataW.trod_int Try.underlying3 f1
          obtain ⟨s2, e2, _, _⟩ := DataW.trod_string Try.underlying9 f2
          obtain ⟨A3, c3, xs3, e3, i3, _, _⟩ := ints_open Try.underlying33 Try.underlying3 c1 f3
          obtain ⟨A4, c4, xs4, e4, i4, _, _⟩ := ints_open Try.underlying33 Try.underlying3 c1 f4
          simp only [List.cons.injEq, and_true] at e0 e1 e2
          subst e0 e1 e2 e3 e4
          have h0 := hat 0 (by omega)
          have h1 := hat 1 (by omega)
          have h2 := hat 2 (by omega)
          have h3 := hat 3 (by omega)
          have h4 := hat 4 (by omega)
          have h0 : w.cell? ((a.add (i * Try.prog.cellsOf 35)).add 0) = some (.int .i64 n0) := h0
          have h1 : w.cell? ((a.add (i * Try.prog.cellsOf 35)).add 1) = some (.int .i64 n1) := h1
          have h2 : w.cell? ((a.add (i * Try.prog.cellsOf 35)).add 2) = some (.string s2) := h2
          have h3 : w.cell? ((a.add (i * Try.prog.cellsOf 35)).add 3) = some (.slice A3 xs3.length c3) := h3
          have h4 : w.cell? ((a.add (i * Try.prog.cellsOf 35)).add 4) = some (.slice A4 xs4.length c4) := h4
          obtain ⟨b, off, spot⟩ := a
          have hspot : spot = none := by
            obtain ⟨cs0, hcell0, htr0⟩ := hall 0 (by omega)
            rw [hC] at hcell0
            obtain ⟨_, hlen0, hat0⟩ := World.cells?_some hcell0
            have q0 := hat0 0 (by omega)
            rw [List.getElem?_eq_getElem (by omega)] at q0
            simpa [Addr.add] using World.cell?_spot q0
          subst hspot
          rw [hC, add_add'] at h0 h1 h2 h3 h4
          exact ⟨⟨n0, n1, s2, A3, c3, xs3, A4, c4, xs4⟩, b, off, rfl, cell_lt h0, h0, h1, h2, h3, h4, i3, i4⟩
    obtain ⟨l, hll, hlp⟩ := list_of len each
    refine ⟨some a, cap, l, by rw [hll]; simpa using hcs, fun hne => ?_, by omega⟩
    have hpos : 0 < l.length := List.length_pos_iff.2 hne
    obtain ⟨b, off, rfl, hb, _⟩ := hlp 0 hpos
    refine ⟨b, off, rfl, hb, fun i hi => ?_⟩
    obtain ⟨b', off', e, _, hit⟩ := hlp i hi
    cases e
    exact hit
end
end Go.Proofs.Ytbdhneoicfciiaa
