/- Contracts of Encode: a packet's bytes, or why there are none. -/
import Derived.Test.YtgdjcoodjdckkaaWh
import Derived.Test.YtgdjcoodjdckkaaBiWy
namespace Go.Proofs.Ytgdjcoodjdckkaa
open Go.RowKit Go.Proofs.PitotIp
open Go.Proofs.PitotAddr (hi lo)
open Go.Proofs.Ytgdjcoodjdckkaa.Bi (IntsAt lies_lt lies_cell lies_frozen lies_alloc)

abbrev i1 (a : Int) : Obj := .cells #[.int .i64 a] 3
abbrev i2 (a b : Int) : Obj := .cells #[.int .i64 a, .int .i64 b] 3

theorem wi_one {most x : Int} : wi most [x] = decide (0 ≤ x ∧ x ≤ most) := by simp [wi]
theorem wi_two {most x y : Int} : wi most [x, y] = decide ((0 ≤ x ∧ x ≤ most) ∧ (0 ≤ y ∧ y ≤ most)) := by simp [wi]

/-- A packet that may be. -/
structure MayBe (id off ttl pr : Nat) (s : ByteArray) : Prop where
  i : id < 65536
  o : off < 8192
  t : ttl < 256
  p : pr < 256
  d : s.size ≤ 65515
/-- Its bytes. -/
def outB (id : Nat) (m : Bool) (off ttl pr : Nat) (a b : Q4) (s : ByteArray) : ByteArray := ⟨(PitotIp.bytes id (pt m off) ttl pr a b s.data.toList).toArray⟩
theorem outB_list (id : Nat) (m : Bool) (off ttl pr : Nat) (a b : Q4) (s : ByteArray) : (outB id m off ttl pr a b s).data.toList = PitotIp.bytes id (pt m off) ttl pr a b s.data.toList := by simp [outB]
theorem outB_size (id : Nat) (m : Bool) (off ttl pr : Nat) (a b : Q4) (s : ByteArray) : (outB id m off ttl pr a b s).size = 20 + s.size := by
  show (PitotIp.bytes id (pt m off) ttl pr a b s.data.toList).toArray.size = _
  rw [List.size_toArray, bytes_length]
  simp

section
variable {w : World} {g : Nat} {t : TypeId}
theorem cells14 {x0 x1 x2 x3 x4 x5 x6 x7 x8 x9 x10 x11 x12 x13 : Value} (h : w.heap[g]? = some (.cells #[x0, x1, x2, x3, x4, x5, x6, x7, x8, x9, x10, x11, x12, x13] t)) :
    (w.cell? ⟨g, 0, none⟩ = some x0) ∧ (w.cell? ⟨g, 1, none⟩ = some x1) ∧ (w.cell? ⟨g, 2, none⟩ = some x2) ∧ (w.cell? ⟨g, 3, none⟩ = some x3) ∧ (w.cell? ⟨g, 4, none⟩ = some x4) ∧ (w.cell? ⟨g, 5, none⟩ = some x5) ∧ (w.cell? ⟨g, 6, none⟩ = some x6) ∧ (w.cell? ⟨g, 7, none⟩ = some x7) ∧ (w.cell? ⟨g, 8, none⟩ = some x8) ∧ (w.cell? ⟨g, 9, none⟩ = some x9) ∧ (w.cell? ⟨g, 10, none⟩ = some x10) ∧ (w.cell? ⟨g, 11, none⟩ = some x11) ∧ (w.cell? ⟨g, 12, none⟩ = some x12) ∧ (w.cell? ⟨g, 13, none⟩ = some x13) :=
  ⟨lies_cell h 0, lies_cell h 1, lies_cell h 2, lies_cell h 3, lies_cell h 4, lies_cell h 5, lies_cell h 6, lies_cell h 7, lies_cell h 8, lies_cell h 9, lies_cell h 10, lies_cell h 11, lies_cell h 12, lies_cell h 13⟩
theorem cells6 {x0 x1 x2 x3 x4 x5 : Value} (h : w.heap[g]? = some (.cells #[x0, x1, x2, x3, x4, x5] t)) :
    (w.cell? ⟨g, 0, none⟩ = some x0) ∧ (w.cell? ⟨g, 1, none⟩ = some x1) ∧ (w.cell? ⟨g, 2, none⟩ = some x2) ∧ (w.cell? ⟨g, 3, none⟩ = some x3) ∧ (w.cell? ⟨g, 4, none⟩ = some x4) ∧ (w.cell? ⟨g, 5, none⟩ = some x5) :=
  ⟨lies_cell h 0, lies_cell h 1, lies_cell h 2, lies_cell h 3, lies_cell h 4, lies_cell h 5⟩
theorem cells8 {x0 x1 x2 x3 x4 x5 x6 x7 : Value} (h : w.heap[g]? = some (.cells #[x0, x1, x2, x3, x4, x5, x6, x7] t)) :
    (w.cell? ⟨g, 0, none⟩ = some x0) ∧ (w.cell? ⟨g, 1, none⟩ = some x1) ∧ (w.cell? ⟨g, 2, none⟩ = some x2) ∧ (w.cell? ⟨g, 3, none⟩ = some x3) ∧ (w.cell? ⟨g, 4, none⟩ = some x4) ∧ (w.cell? ⟨g, 5, none⟩ = some x5) ∧ (w.cell? ⟨g, 6, none⟩ = some x6) ∧ (w.cell? ⟨g, 7, none⟩ = some x7) :=
  ⟨lies_cell h 0, lies_cell h 1, lies_cell h 2, lies_cell h 3, lies_cell h 4, lies_cell h 5, lies_cell h 6, lies_cell h 7⟩
end

theorem sum_lt (h : H20) : h.sum < 65536 := by have := PitotMath.ones_le h.bare; unfold H20.sum; omega

end Go.Proofs.Ytgdjcoodjdckkaa
