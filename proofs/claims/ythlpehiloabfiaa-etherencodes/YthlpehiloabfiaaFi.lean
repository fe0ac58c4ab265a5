/- Contract of filling: the bytes 0 behind what a frame carries. -/
import Derived.Test.YthlpehiloabfiaaSz
import Derived.Test.YthlpehiloabfiaaBiShelf
namespace Go.Proofs.Ythlpehiloabfiaa
open Go.RowKit Go.Proofs.PitotEther

theorem repeat_zero : ∀ c, Lib.repeatL [0] c = List.replicate c (0 : UInt8)
  | 0 => rfl
  | c + 1 => by rw [Lib.repeatL, repeat_zero c, List.replicate_succ]; rfl

theorem pad_fill (d : List UInt8) : pad d = d ++ fill d.length := rfl

theorem repeat_any (c : Nat) (w : World) (hc : c ≤ 45) :
    Calls Try.prog 45 #[.string ⟨#[0]⟩, .int .i64 c] w fun e w' => e = .returned (.string ⟨(List.replicate c (0 : UInt8)).toArray⟩) ∧ Below w.heap.size w w' := by
  refine (Try.strings_Repeat ⟨#[0]⟩ c w (by omega) (by show 1 * c ≤ _; omega)).mono fun e w' ⟨he, hb⟩ => ⟨?_, hb⟩
  rw [he]
  show Ending.returned (.string ⟨(Lib.repeatL [0] c).toArray⟩) = _
  rw [repeat_zero]

set_option maxHeartbeats 400000 in
theorem filling_any (n : Nat) (w : World) (h : n ≤ 1499) :
    Calls Try.prog 22 #[.int .i64 n] w fun e w' => e = .returned (.string ⟨(fill n).toArray⟩) ∧ Below w.heap.size w w' := by
  have h1 := sz_nat n h
  have h2 : sz n - 19 - (n : Int) = ((45 - n : Nat) : Int) := by rw [h1]; omega
  obtain ⟨z, Hz⟩ : ∃ z, Hid (z = sz n) := ⟨_, rfl⟩
  obtain ⟨c, Hc⟩ : ∃ c, Hid (c = 45 - n) := ⟨_, rfl⟩
  have hS : ∀ w, Calls Try.prog 12 #[.int .i64 n] w fun e w' => e = .returned (.int .i64 z) ∧ w = w' := by
    rw [Hz.out]; exact fun w => size_any n w (by omega)
  have hR : ∀ w, Calls Try.prog 45 #[.string ⟨#[0]⟩, .int .i64 c] w fun e w' => e = .returned (.string ⟨(fill n).toArray⟩) ∧ Below w.heap.size w w' := by
    have : fill n = List.replicate c 0 := by rw [Hc.out]; rfl
    rw [this]; exact fun w => repeat_any c w (by rw [Hc.out]; omega)
  rw [← Hz.out, ← Hc.out] at h2
  have hz1 : z = (c : Int) + 19 + n := by omega
  have hc45 : c ≤ 45 := by rw [Hc.out]; omega
  clear h1
  have HS := Lib.hid hS; clear hS
  have HR := Lib.hid hR; clear hR
  subst hz1
  clear h2
  have e1 : (c : Int) + 19 + (n : Int) - 19 - (n : Int) = (c : Int) := by omega
  go_enter Try.func22, Try.ntmps22
  go_wp2_with (first
    | (go_at_call 12; (with_reducible refine (HS.out _).mono ?_); rintro e w1 ⟨rfl, rfl⟩)
    | (go_at_call 45; (try rw [e1]); (with_reducible refine (HR.out _).mono ?_); rintro e w2 ⟨rfl, hb2⟩))
  go_returns
  exact ⟨rfl, hb2⟩
end Go.Proofs.Ythlpehiloabfiaa
