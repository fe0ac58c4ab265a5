/- Contracts of writeHead: a head's bytes. -/
import Derived.Test.YtgdjcoodjdckkaaPa
import Derived.Deep.RegionHeld3
import Derived.Deep.Cut
import Derived.Handy
namespace Go.Proofs.Ytgdjcoodjdckkaa
open Go.RowKit Go.Proofs.PitotIp
open Go.Proofs.PitotAddr (hi lo)
open Go.Proofs.Ytgdjcoodjdckkaa.Bi (IntsAt lies_lt lies_cell lies_frozen lies_alloc)

section
variable {w w' : World} {g : Nat} {t : TypeId}
theorem lies_grown {cs : Array Value} {b : Nat} (h : w.heap[g]? = some (.cells cs t)) (hg : w.grownBy w' (some b)) (hne : g ≠ b) : w'.heap[g]? = some (.cells cs t) :=
  (hg.block g (lies_lt h) (by simpa using hne)).trans h
theorem lies_below {cs : Array Value} {n : Nat} (h : w.heap[g]? = some (.cells cs t)) (hb : Below n w w') (hl : g < n) : w'.heap[g]? = some (.cells cs t) := (hb.block g hl).trans h
end

/-- Four bytes of memory as a string. -/
theorem conv_four (X : World) (g o : Nat) (q : Q4) (h0 : X.cell? ⟨g, o, none⟩ = some (.int .u8 q.a.toNat)) (h1 : X.cell? ⟨g, o + 1, none⟩ = some (.int .u8 q.b.toNat)) (h2 : X.cell? ⟨g, o + 2, none⟩ = some (.int .u8 q.c.toNat)) (h3 : X.cell? ⟨g, o + 3, none⟩ = some (.int .u8 q.d.toNat)) :
    (convert 71 9 (.slice (some ⟨g, o, none⟩) 4 4)).run Try.prog X = .ok (.string ⟨#[q.a, q.b, q.c, q.d]⟩) X := by
  refine run_convert_bytes_back (P := Try.prog) X 71 9 5 ⟨g, o, none⟩ 4 [q.a, q.b, q.c, q.d] Try.underlying71 Try.underlying5 Try.underlying9 (fun j hj => ?_)
  have e : (⟨g, o, none⟩ : Addr).add j = ⟨g, o + j, none⟩ := by unfold Addr.add; split <;> simp_all
  rw [e]
  have hj' : j < 4 := hj
  have : j = 0 ∨ j = 1 ∨ j = 2 ∨ j = 3 := by omega
  rcases this with rfl | rfl | rfl | rfl
  · exact h0
  · exact h1
  · exact h2
  · exact h3

abbrev i3 (a b c : Int) : Obj := .cells #[.int .i64 a, .int .i64 b, .int .i64 c] 3
abbrev i5 (a b c d e : Int) : Obj := .cells #[.int .i64 a, .int .i64 b, .int .i64 c, .int .i64 d, .int .i64 e] 3
end Go.Proofs.Ytgdjcoodjdckkaa
