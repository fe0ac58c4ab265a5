/- Contracts of the law's ip: an address as a text. -/
import Derived.Test.YtiedfdnjnjohdaaEc
namespace Go.Proofs.Ytiedfdnjnjohdaa
open Go.RowKit Go.Proofs.PitotIp
open Go.Proofs.Ytiedfdnjnjohdaa.Bi (lies_lt lies_cell lies_frozen lies_alloc)

abbrev ip4 (q : Q4) : Value := .agg #[.int .u8 q.a.toNat, .int .u8 q.b.toNat, .int .u8 q.c.toNat, .int .u8 q.d.toNat]
abbrev ip4C (q : Q4) : Obj := .cells #[.int .u8 q.a.toNat, .int .u8 q.b.toNat, .int .u8 q.c.toNat, .int .u8 q.d.toNat] 29

def ipB (q : Q4) : ByteArray := ⟨#[q.a, q.b, q.c, q.d]⟩
theorem ipB_list (q : Q4) : (ipB q).data.toList = q.bytes := rfl
theorem ipB_size (q : Q4) : (ipB q).size = 4 := rfl

set_option maxHeartbeats 400000 in
theorem ip_any (q : Q4) (w : World) : Calls Try.prog 25 #[ip4 q] w fun e w' => e = .returned (.string (ipB q)) ∧ Below w.heap.size w w' := by
  have L : ((w.alloc (ip4C q)).alloc (.cells #[.int .u8 q.a.toNat, .int .u8 q.b.toNat, .int .u8 q.c.toNat, .int .u8 q.d.toNat] 5)).heap[w.heap.size + 1]? = some (.cells #[.int .u8 q.a.toNat, .int .u8 q.b.toNat, .int .u8 q.c.toNat, .int .u8 q.d.toNat] 5) := by
    have := heap_alloc_new (w.alloc (ip4C q)) (.cells #[.int .u8 q.a.toNat, .int .u8 q.b.toNat, .int .u8 q.c.toNat, .int .u8 q.d.toNat] 5)
    simpa using this
  have cv := conv_four _ _ 0 q (lies_cell L 0) (lies_cell L 1) (lies_cell L 2) (lies_cell L 3)
  have kb : Below w.heap.size w ((w.alloc (ip4C q)).alloc (.cells #[.int .u8 q.a.toNat, .int .u8 q.b.toNat, .int .u8 q.c.toNat, .int .u8 q.d.toNat] 5)) := ((Below.refl _ w).alloc (Nat.le_refl _) _).alloc (by simp) _
  have kb := Lib.hid kb
  clear L
  go_enter Try.func25, Try.ntmps25
  go_wp2
  go_returns
  exact ⟨rfl, kb.out⟩
end Go.Proofs.Ytiedfdnjnjohdaa
