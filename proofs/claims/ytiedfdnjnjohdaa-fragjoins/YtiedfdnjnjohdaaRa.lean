/- Contract of the document's Join. -/
import Derived.Test.YtiedfdnjnjohdaaJn
import Derived.Test.YtiedfdnjnjohdaaSm
import Derived.BigQuiet
set_option maxRecDepth 100000
namespace Go.Proofs.Ytiedfdnjnjohdaa
open Go.RowKit Go.Proofs.PitotFrag Go.Proofs.PitotIp
open Go.Proofs.Ytiedfdnjnjohdaa.Bi (lies_lt lies_cell lies_frozen lies_alloc lies_set)

theorem ipB_ne {x y : Q4} (h : ¬ x = y) : ((ipB x).toList == (ipB y).toList) = false := by
  have : ¬ (ipB x).toList = (ipB y).toList := by
    rw [ByteArray.toList_eq, ByteArray.toList_eq]
    obtain ⟨a, b, c, d⟩ := x
    obtain ⟨a', b', c', d'⟩ := y
    intro e
    apply h
    simp [ipB] at e
    obtain ⟨rfl, rfl, rfl, rfl⟩ := e
    rfl
  simpa using this
/-- What the document's Join answers. -/
def rjv (l : List Pk) : Value := if (jn l).2 = 0 then (pln (jn l).1).val else rp0
theorem jd_pos {p : Pk} {h : Nat} {b : Bool} : jd p h b = 0 ∨ jd p h b = 25 ∨ jd p h b = 15 := by
  unfold jd; split
  · exact .inr (.inl rfl)
  · split
    · exact .inr (.inr rfl)
    · split
      · exact .inr (.inl rfl)
      · exact .inl rfl
theorem pkb_ne {p q : Pk} (h : ¬ p = q) : pkb p q = false := by
  cases e : pkb p q
  · rfl
  · exact absurd ((pkb_iff _ _).1 e) h

end Go.Proofs.Ytiedfdnjnjohdaa
