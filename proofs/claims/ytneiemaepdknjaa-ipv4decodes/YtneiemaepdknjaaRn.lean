/- Contracts of the document's two and Decode: the packet at the front of bytes. -/
import Derived.Test.YtneiemaepdknjaaDx
import Derived.Test.YtneiemaepdknjaaPl
namespace Go.Proofs.Ytneiemaepdknjaa
open Go.RowKit Go.Proofs.PitotIp
open Go.Proofs.Ytneiemaepdknjaa.Bi (lies_lt lies_cell lies_frozen lies_alloc)

theorem index_at (B : ByteArray) (x : UInt8) (j : Nat) (hj : j < B.size) (_hb : B.size ≤ 1000000) (h : B.data.toList[j]? = some x) (w : World) :
    (Instr.index 9 (.string B) (.int .i64 j)).run Try.prog w = .ok (.int .u8 x.toNat) w := by
  have h1 : B[j]'hj = x := by
    have : B[j]'hj = B.data.toList[j]'(by simpa using hj) := by simp; rfl
    rw [this]
    exact (List.getElem?_eq_some_iff.1 h).2
  simp [Instr.index, go_sem, h1, hj]

theorem below_drewN {B : Nat} {a w : World} (h : Below B a w) (n : Nat) : Below B a (w.drewN n) := ⟨h.os, h.tape, h.output, h.size, h.block⟩

set_option maxHeartbeats 1000000 in
/-- The first two bytes of a text as a number. -/
theorem two_any (B : ByteArray) (x y : UInt8) (l : List UInt8) (hB : B.data.toList = x :: y :: l) (hs : B.size ≤ 1000000) (w : World) :
    Calls Try.prog 22 #[.string B] w fun e w' => e = .returned (.int .i64 (PitotAddr.num x y : Nat)) ∧ Below w.heap.size w w' := by
  have hz : B.size = l.length + 2 := by rw [size_toList, hB]; rfl
  have i0 := fun w => index_at B x 0 (by omega) hs (by rw [hB]; rfl) w
  have i1 := fun w => index_at B y 1 (by omega) hs (by rw [hB]; rfl) w
  rw [show ((0 : Nat) : Int) = 0 from rfl] at i0
  rw [show ((1 : Nat) : Int) = 1 from rfl] at i1
  obtain ⟨R, HR⟩ : ∃ R, Hid (R = PitotAddr.num x y) := ⟨_, rfl⟩
  rw [← HR.out]
  have hx := x.toNat_lt
  have hy := y.toNat_lt
  have w0 : wrap64 (x.toNat : Int) = x.toNat := IntWalk.wrap64_in _ (by omega)
  have w1 : wrap64 (y.toNat : Int) = y.toNat := IntWalk.wrap64_in _ (by omega)
  clear hz hs
  go_enter Try.func22, Try.ntmps22
  go_wp2
  go_quiet (fail)
  go_wp2
  go_returns
  exact ⟨Bi.ret_int (by rw [HR.out]; unfold PitotAddr.num; omega), below_drewN (Below.refl _ _) _⟩

end Go.Proofs.Ytneiemaepdknjaa
