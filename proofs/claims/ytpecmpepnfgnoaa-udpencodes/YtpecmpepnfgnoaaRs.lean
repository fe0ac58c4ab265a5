/- Contracts of the document's two and sum. -/
import Derived.Test.YtpecmpepnfgnoaaRp
namespace Go.Proofs.Ytpecmpepnfgnoaa
open Go.RowKit Go.Proofs.PitotIp Go.Proofs.PitotUdp
open Go.Proofs.PitotAddr (hi lo num num_lt)
open Go.Proofs.Ytpecmpepnfgnoaa.Bi (lies_lt lies_cell lies_frozen lies_alloc)

abbrev NumIs (n : Int) (B : ByteArray) : Prop := ∀ w, Calls Try.prog 20 #[.int .i64 n, .int .i64 2] w fun e w' => e = .returned (.string B) ∧ Below w.heap.size w w'
theorem num_two (n : Nat) (h : n < 65536) : NumIs n ⟨#[hi n, lo n]⟩ := fun w => by
  have := Bi.num_any n 2 w (by omega) (by omega)
  rw [be2] at this
  exact this

theorem index_at (B : ByteArray) (x : UInt8) (j : Nat) (hj : j < B.size) (_hb : B.size ≤ 1000000) (h : B.data.toList[j]? = some x) (w : World) :
    (Instr.index 9 (.string B) (.int .i64 j)).run Try.prog w = .ok (.int .u8 x.toNat) w := by
  have h1 : B[j]'hj = x := by
    have : B[j]'hj = B.data.toList[j]'(by simpa using hj) := by simp; rfl
    rw [this]
    exact (List.getElem?_eq_some_iff.1 h).2
  simp [Instr.index, go_sem, h1, hj]

theorem below_drewN {B : Nat} {a w : World} (h : Below B a w) (n : Nat) : Below B a (w.drewN n) := ⟨h.os, h.tape, h.output, h.size, h.block⟩

set_option maxHeartbeats 1000000 in
/-- The first two bytes of a text as a number. -/
theorem two_any (B : ByteArray) (x y : UInt8) (l : List UInt8) (hB : B.data.toList = x :: y :: l) (hs : B.size ≤ 1000000) (w : World) :
    Calls Try.prog 27 #[.string B] w fun e w' => e = .returned (.int .i64 (num x y : Nat)) ∧ Below w.heap.size w w' := by
  have hz : B.size = l.length + 2 := by rw [size_toList, hB]; rfl
  have i0 := fun w => index_at B x 0 (by omega) hs (by rw [hB]; rfl) w
  have i1 := fun w => index_at B y 1 (by omega) hs (by rw [hB]; rfl) w
  rw [show ((0 : Nat) : Int) = 0 from rfl] at i0
  rw [show ((1 : Nat) : Int) = 1 from rfl] at i1
  obtain ⟨R, HR⟩ : ∃ R, Hid (R = num x y) := ⟨_, rfl⟩
  rw [← HR.out]
  have hx := x.toNat_lt
  have hy := y.toNat_lt
  have w0 : wrap64 (x.toNat : Int) = x.toNat := IntWalk.wrap64_in _ (by omega)
  have w1 : wrap64 (y.toNat : Int) = y.toNat := IntWalk.wrap64_in _ (by omega)
  clear hz hs
  go_enter Try.func27, Try.ntmps27
  go_wp2
  go_quiet (fail)
  go_wp2
  go_returns
  exact ⟨Bi.ret_int (by rw [HR.out]; unfold PitotAddr.num; omega), below_drewN (Below.refl _ _) _⟩

set_option maxRecDepth 100000 in
set_option maxHeartbeats 1000000 in
theorem refSum_core (A B s NB C : ByteArray) (o : Nat) (zA : A.size = 4) (zB : B.size = 4) (zs : s.size ≤ 9100) (zN : NB.size = 2) (hN : NumIs s.size NB) (hC : A ++ B ++ ⟨#[0, 17]⟩ ++ NB ++ s = C)
    (hO : ∀ w, Calls Try.prog 33 #[.string C] w fun e w' => e = .returned (.int .i64 o) ∧ Below w.heap.size w w') (w : World) :
    Calls Try.prog 21 #[.string A, .string B, .string s] w fun e w' => e = .returned (.int .i64 (fixS o : Nat)) ∧ Below w.heap.size w w' := by
  have HN := Lib.hid hN; have HO := Lib.hid hO
  clear hN hO
  have y1 : (⟨#[0, 17]⟩ : ByteArray).size = 2 := rfl
  have HF : Hid (fixS o = if o = 0 then 65535 else o) := rfl
  by_cases ho : o = 0
  · subst ho
    go_enter Try.func21, Try.ntmps21
    go_wp2_with (first
      | (go_at_call 20; (with_reducible refine (HN.out _).mono ?_); rintro r w1 ⟨rfl, hb1⟩)
      | (go_at_call 33; (with_reducible refine (HO.out _).mono ?_); rintro r w2 ⟨rfl, hb2⟩))
    go_returns
    exact ⟨by rw [HF.out]; rfl, hb1.trans (hb2.mono hb1.size)⟩
  · have ho' : ((o : Int) == 0) = false := by simp; exact ho
    go_enter Try.func21, Try.ntmps21
    go_wp2_with (first
      | (go_at_call 20; (with_reducible refine (HN.out _).mono ?_); rintro r w1 ⟨rfl, hb1⟩)
      | (go_at_call 33; (with_reducible refine (HO.out _).mono ?_); rintro r w2 ⟨rfl, hb2⟩))
    go_returns
    exact ⟨by rw [HF.out, if_neg ho]; rfl, hb1.trans (hb2.mono hb1.size)⟩

theorem refSum_any (a b : Q4) (s : ByteArray) (zs : s.size ≤ 9100) (w : World) :
    Calls Try.prog 21 #[.string (ipB a), .string (ipB b), .string s] w fun e w' => e = .returned (.int .i64 (PitotUdp.sumOf a b s.data.toList : Nat)) ∧ Below w.heap.size w w' := by
  have hC : (ipB a ++ ipB b ++ ⟨#[0, 17]⟩ ++ ⟨#[hi s.size, lo s.size]⟩ ++ s).data.toList = PitotUdp.ahead a b s.data.toList.length ++ s.data.toList := by
    rw [← size_toList]
    simp [PitotUdp.ahead, ipB, Q4.bytes]
  have hz : (ipB a ++ ipB b ++ ⟨#[0, 17]⟩ ++ ⟨#[hi s.size, lo s.size]⟩ ++ s).size ≤ 69999 := by
    rw [size_toList, hC, List.length_append, PitotUdp.ahead_length, ← size_toList]; omega
  have h := refSum_core (ipB a) (ipB b) s _ _ (PitotMath.ones (PitotUdp.ahead a b s.data.toList.length ++ s.data.toList)) rfl rfl zs rfl (num_two s.size (by omega)) rfl (fun w => by
    have h1 := Bi.refOnes_any (ipB a ++ ipB b ++ ⟨#[0, 17]⟩ ++ ⟨#[hi s.size, lo s.size]⟩ ++ s) w hz
    rwa [hC] at h1) w
  exact h
end Go.Proofs.Ytpecmpepnfgnoaa
