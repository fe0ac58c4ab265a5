/- Contracts of within, and of the three lists of widths. -/
import Derived.Test.YtgdjcoodjdckkaaBiWb
import Derived.Test.YtgdjcoodjdckkaaIpMath
namespace Go.Proofs.Ytgdjcoodjdckkaa
open Go.RowKit Go.Proofs.PitotIp
open Go.Proofs.Ytgdjcoodjdckkaa.Bi (IntsAt lies_lt lies_cell lies_frozen lies_alloc)

/-- All numbers are from 0 to the greatest one. -/
def wi (most : Int) (xs : List Int) : Bool := xs.all fun x => decide (0 ≤ x ∧ x ≤ most)

theorem ret_bool {a b : Bool} (h : a = b) : Ending.returned (.bool a) = .returned (.bool b) := by rw [h]

theorem wi_cons {most : Int} {xs : List Int} {k : Nat} (hk : k < xs.length) : wi most (xs.drop k) = (decide (0 ≤ xs[k] ∧ xs[k] ≤ most) && wi most (xs.drop (k + 1))) := by
  rw [List.drop_eq_getElem_cons hk]; rfl

/-- A list of numbers that was made. -/
theorem ints_lie {w : World} {xs : List Int} {k : Nat} (hk : w.heap[k]? = some (.cells (xs.map fun x => Value.int .i64 x).toArray 3)) : IntsAt w (some ⟨k, 0, none⟩) xs := by
  intro _
  refine ⟨k, 0, rfl, lies_lt hk, fun i hi => ?_⟩
  rw [lies_cell hk]
  simp [hi]

/-- A packet, as it is handed on; in memory; as the document has it; a head. -/
abbrev pk (id : Int) (m : Bool) (off ttl pr : Int) (a b : Q4) (s : ByteArray) : Value :=
  .agg #[.int .i64 id, .bool m, .int .i64 off, .int .i64 ttl, .int .i64 pr, .int .u8 a.a.toNat, .int .u8 a.b.toNat, .int .u8 a.c.toNat, .int .u8 a.d.toNat, .int .u8 b.a.toNat, .int .u8 b.b.toNat, .int .u8 b.c.toNat, .int .u8 b.d.toNat, .string s]
abbrev pkC (id : Int) (m : Bool) (off ttl pr : Int) (a b : Q4) (s : ByteArray) : Obj :=
  .cells #[.int .i64 id, .bool m, .int .i64 off, .int .i64 ttl, .int .i64 pr, .int .u8 a.a.toNat, .int .u8 a.b.toNat, .int .u8 a.c.toNat, .int .u8 a.d.toNat, .int .u8 b.a.toNat, .int .u8 b.b.toNat, .int .u8 b.c.toNat, .int .u8 b.d.toNat, .string s] 34
abbrev rp (id : Int) (m : Bool) (off ttl pr : Int) (a b s : ByteArray) : Value :=
  .agg #[.int .i64 id, .bool m, .int .i64 off, .int .i64 ttl, .int .i64 pr, .string a, .string b, .string s]
abbrev rpC (id : Int) (m : Bool) (off ttl pr : Int) (a b s : ByteArray) : Obj :=
  .cells #[.int .i64 id, .bool m, .int .i64 off, .int .i64 ttl, .int .i64 pr, .string a, .string b, .string s] 41
abbrev hd (k sv f g all sum : Int) : Value := .agg #[.int .i64 k, .int .i64 sv, .int .i64 f, .int .i64 g, .int .i64 all, .int .i64 sum]
theorem cells25 : Try.prog.cellsOf 34 = 14 := by kernel_rfl
theorem cells32 : Try.prog.cellsOf 41 = 8 := by kernel_rfl
end Go.Proofs.Ytgdjcoodjdckkaa
