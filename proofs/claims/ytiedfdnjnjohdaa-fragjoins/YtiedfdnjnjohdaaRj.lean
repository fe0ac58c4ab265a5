/- Contract of the document's Join. -/
import Derived.Test.YtiedfdnjnjohdaaRjA
import Derived.Test.YtiedfdnjnjohdaaRjB1
import Derived.Test.YtiedfdnjnjohdaaRjB2
namespace Go.Proofs.Ytiedfdnjnjohdaa
open Go.RowKit Go.Proofs.PitotFrag Go.Proofs.PitotIp

theorem refJoin_core (g cap : Nat) (l : List Pk) (w : World) (hx : ∀ i (h : i < l.length), RkAt w g (i * 8) (pln l[i])) (hg : g < w.heap.size) (hl : l.length ≤ 50) (hz : ∀ p ∈ l, p.s.size ≤ 2000) (n : Nat) (hn : n = l.length) (h0 : 0 < l.length) :
    Calls Try.prog 20 #[.slice (some ⟨g, 0, none⟩) n cap] w fun e w' => e = .returned (.tuple #[rjv l, .int .i64 (jn l).2]) ∧ Below w.heap.size w w' := by
  cases ha : alike l
  · exact refJoin_A g cap l w hx hg hl hz n hn h0 ha
  · by_cases hM : (ms l 0).2 = 0
    · exact refJoin_B1 g cap l w hx hg hl hz n hn h0 ha hM
    · exact refJoin_B2 g cap l w hx hg hl hz n hn h0 ha hM
end Go.Proofs.Ytiedfdnjnjohdaa
