/- Contract of the document's Writer: Bits. -/
import Derived.Test.YtgdjcoodjdckkaaBiRw
namespace Go.Proofs.Ytgdjcoodjdckkaa.Bi
open Go.RowKit Go.Proofs.PitotMath

theorem fits_nat {v x : Int} (h : fitsB v x = true) : ∃ u : Nat, v = u ∧ u < 2 ^ x.toNat := by
  have hv := of_decide_eq_true h
  obtain ⟨u, rfl⟩ := Int.eq_ofNat_of_zero_le hv.1
  exact ⟨u, rfl, by exact_mod_cast hv.2⟩

end Go.Proofs.Ytgdjcoodjdckkaa.Bi
