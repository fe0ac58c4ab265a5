/- A list of strings, as it comes in, is opened: what its cells hold. -/
import Derived.Test.YtplknfdbgcdaoaaOp
import Derived.ProofKit
import Derived.OpenShut
import Derived.SliceStrings
namespace Go.Proofs.Ytplknfdbgcdaoaa
open Go.RowKit Go.Proofs.PitotCrc Go.ChangeShapes Go.WideShapes

theorem cell_lt {w : World} {a : Addr} {v : Value} (h : w.cell? a = some v) : a.block < w.heap.size := by
  rcases Nat.lt_or_ge a.block w.heap.size with h1 | h1
  · exact h1
  · simp [World.cell?, Array.getElem?_eq_none h1] at h

section
variable {H : Type} {enc : TypeId × Value → H} {w : World} {base : Nat} {spare : Nat → Bool} {held : Bool}

theorem strs_open {fuel : Nat} {v : Value} {x : DataW H × List MemPlace} (h : DataW.trod enc Try.prog w base spare held fuel 29 [v] = some x) :
    ∃ A cap xs, v = .slice A (List.length xs) cap ∧ StrsAt w A xs ∧ xs.length ≤ maxLen ∧ ∀ s ∈ xs, s.size ≤ maxLen := by
  have hC : Try.prog.cellsOf 9 = 1 := by kernel_rfl
  rcases open_strings Try.underlying29 Try.underlying9 hC h with ⟨hcs, _⟩ | ⟨a, len, cap, ss, hcs, _, hl, hm, hz, _, hcell, hws⟩
  · exact ⟨none, 0, [], by simpa using hcs, fun h => absurd rfl h, by simp, fun s h => by simp at h⟩
  · have hlz : len ≤ ss.length := by rw [hz]; split <;> omega
    refine ⟨some a, cap, ss.take len, ?_, ?_, by simp; omega, fun s hs => hws s (List.mem_of_mem_take hs)⟩
    · rw [List.length_take, Nat.min_eq_left hlz]; simpa using hcs
    · intro hne
      have hpos : 0 < ss.length := by
        rcases Nat.eq_zero_or_pos ss.length with h0 | h0
        · rw [List.length_eq_zero_iff] at h0; subst h0; simp at hne
        · exact h0
      obtain ⟨b, off, spot⟩ := a
      have hspot : spot = none := by simpa [Addr.add] using World.cell?_spot (hcell 0 hpos)
      subst hspot
      have hadd : ∀ i, (⟨b, off, none⟩ : Addr).add i = ⟨b, off + i, none⟩ := by intro i; unfold Addr.add; by_cases hi : i = 0 <;> simp [hi]
      refine ⟨b, off, rfl, ?_, fun i hi => ?_⟩
      · have := cell_lt (hcell 0 hpos); rw [hadd] at this; exact this
      · have hi' : i < ss.length := by simp at hi; omega
        have := hcell i hi'
        rw [hadd] at this
        rw [this, List.getElem_take]
        simp [List.getD, hi']
end
end Go.Proofs.Ytplknfdbgcdaoaa
