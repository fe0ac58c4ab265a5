/- Contracts of judgeLong and judgeSum. -/
import Derived.Test.YtpecmpepnfgnoaaEc
namespace Go.Proofs.Ytpecmpepnfgnoaa
open Go.RowKit Go.Proofs.PitotIp Go.Proofs.PitotUdp
open Go.Proofs.Ytpecmpepnfgnoaa.Bi (WrAt lies_lt lies_cell lies_frozen lies_alloc)

/-- What is wrong with how many bytes there are to be, and are. -/
def jl (all there : Nat) : Int := if all < 8 ∨ 8200 < all then 15 else if there < all then 10 else if all < there then 11 else 0
/-- What is wrong with a sum that a datagram came with. -/
def js (sum own : Nat) : Int := if sum ≠ 0 ∧ sum ≠ own then 12 else 0

theorem ret_i {a b : Int} (h : a = b) : Ending.returned (.int .i64 a) = .returned (.int .i64 b) := by rw [h]

set_option maxHeartbeats 1000000 in
theorem judgeLong_any (all there : Nat) (w : World) : Calls Try.prog 25 #[.int .i64 all, .int .i64 there] w fun e w' => e = .returned (.int .i64 (jl all there)) ∧ w = w' := by
  have h : (all < 8) ∨ (¬ all < 8 ∧ 8200 < all) ∨ (¬ all < 8 ∧ ¬ 8200 < all ∧ there < all) ∨ (¬ all < 8 ∧ ¬ 8200 < all ∧ ¬ there < all ∧ all < there) ∨ (¬ all < 8 ∧ ¬ 8200 < all ∧ ¬ there < all ∧ ¬ all < there) := by omega
  obtain ⟨R, HR⟩ : ∃ R, Hid (R = jl all there) := ⟨_, rfl⟩
  rw [← HR.out]
  rcases h with h1 | ⟨h1, h2⟩ | ⟨h1, h2, h3⟩ | ⟨h1, h2, h3, h4⟩ | ⟨h1, h2, h3, h4⟩
  · have HA : Hid (15 = R) := by show _ = _; rw [HR.out]; unfold jl; rw [if_pos (by omega)]
    go_enter Try.func25, Try.ntmps25
    go_wp2
    go_returns
    exact ⟨ret_i HA.out, rfl⟩
  · have HA : Hid (15 = R) := by show _ = _; rw [HR.out]; unfold jl; rw [if_pos (by omega)]
    go_enter Try.func25, Try.ntmps25
    go_wp2
    go_returns
    exact ⟨ret_i HA.out, rfl⟩
  · have HA : Hid (10 = R) := by show _ = _; rw [HR.out]; unfold jl; rw [if_neg (by omega), if_pos h3]
    go_enter Try.func25, Try.ntmps25
    go_wp2
    go_returns
    exact ⟨ret_i HA.out, rfl⟩
  · have HA : Hid (11 = R) := by show _ = _; rw [HR.out]; unfold jl; rw [if_neg (by omega), if_neg h3, if_pos h4]
    go_enter Try.func25, Try.ntmps25
    go_wp2
    go_returns
    exact ⟨ret_i HA.out, rfl⟩
  · have HA : Hid (0 = R) := by show _ = _; rw [HR.out]; unfold jl; rw [if_neg (by omega), if_neg h3, if_neg h4]
    go_enter Try.func25, Try.ntmps25
    go_wp2
    go_returns
    exact ⟨ret_i HA.out, rfl⟩

set_option maxRecDepth 100000 in
set_option maxHeartbeats 1000000 in
theorem judgeSum_any (a b : Q4) (sum f t : Nat) (s : ByteArray) (hf : f < 65536) (ht : t < 65536) (hd : s.size ≤ 9000) (w : World) :
    Calls Try.prog 26 #[.int .i64 sum, en a b f t, .string s] w fun e w' => e = .returned (.int .i64 (js sum (PitotUdp.sumOf a b ((dg (8 + s.size) f t 0).list ++ s.data.toList)))) ∧ Below w.heap.size w w' := by
  have H17 := sumOf_any a b f t s hf ht hd
  obtain ⟨S, HS⟩ : ∃ S, Hid (S = PitotUdp.sumOf a b ((dg (8 + s.size) f t 0).list ++ s.data.toList)) := ⟨_, rfl⟩
  rw [← HS.out] at H17 ⊢
  have H17 := Lib.hid H17
  clear hf ht hd
  have k0 : Hid (Below w.heap.size w (w.alloc (enC a b f t))) := (Below.refl _ w).alloc (Nat.le_refl _) _
  obtain ⟨R, HR⟩ : ∃ R, Hid (R = js sum S) := ⟨_, rfl⟩
  rw [← HR.out]
  by_cases h1 : sum = 0
  · have HA : Hid (0 = R) := by show _ = _; rw [HR.out]; unfold js; rw [if_neg (by omega)]
    subst h1
    go_enter Try.func26, Try.ntmps26
    go_wp2
    go_returns
    exact ⟨ret_i HA.out, k0.out⟩
  · have h1' : ((sum : Int) == 0) = false := by simp; exact h1
    by_cases h2 : sum = S
    · have HA : Hid (0 = R) := by show _ = _; rw [HR.out]; unfold js; rw [if_neg (by omega)]
      subst h2
      go_enter Try.func26, Try.ntmps26
      go_wp2_with (first
        | (go_at_call 17; (with_reducible refine (H17.out _).mono ?_); rintro r w1 ⟨rfl, hb⟩))
      go_returns
      exact ⟨ret_i HA.out, k0.out.trans (hb.mono k0.out.size)⟩
    · have HA : Hid (12 = R) := by show _ = _; rw [HR.out]; unfold js; rw [if_pos (by omega)]
      have h2' : ((sum : Int) != (S : Int)) = true := by simp; omega
      have h3' : ¬ (sum : Int) = (S : Int) := by omega
      go_enter Try.func26, Try.ntmps26
      go_wp2_with (first
        | (go_at_call 17; (with_reducible refine (H17.out _).mono ?_); rintro r w1 ⟨rfl, hb⟩))
      go_returns
      exact ⟨ret_i HA.out, k0.out.trans (hb.mono k0.out.size)⟩
end Go.Proofs.Ytpecmpepnfgnoaa
