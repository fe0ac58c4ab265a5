/- Contracts of judge and keyOf. -/
import Derived.Test.YtgdjcoodjdckkaaPs
set_option maxRecDepth 100000
namespace Go.Proofs.Ytgdjcoodjdckkaa
open Go.RowKit Go.Proofs.PitotIp Go.Maps
open Go.Proofs.PitotReasm (Bg Tb Fine bad)
open Go.Proofs.Ytgdjcoodjdckkaa.Bi (lies_lt lies_cell lies_frozen lies_alloc lies_set)

/-- The Key of a packet. -/
structure Pk.Wf (p : Pk) : Prop where
  pr : (Lit.int .i64 p.pr).wf = true
  id : (Lit.int .i64 p.id).wf = true
def Pk.key (p : Pk) (h : p.Wf) : K := ⟨p.a, p.b, p.pr, p.id, h.pr, h.id⟩
abbrev Pk.d (p : Pk) : List UInt8 := p.s.data.toList
theorem Pk.d_length (p : Pk) : p.d.length = p.s.size := by rw [Pk.d, Array.length_toList]; rfl

set_option maxHeartbeats 1000000 in
theorem keyOf_any (p : Pk) (h : p.Wf) (w : World) : Calls Try.prog 38 #[p.val] w fun e w' => e = .returned (p.key h).val ∧ Below w.heap.size w w' := by
  have kb : Hid (Below w.heap.size w ((w.alloc p.obj).alloc (p.key h).obj)) := by
    have k1 := (Below.refl w.heap.size w).alloc (Nat.le_refl _) p.obj
    exact k1.alloc k1.size _
  obtain ⟨id, m, off, ttl, pr, a, b, s⟩ := p
  simp only [Pk.key]
  go_enter Try.func38, Try.ntmps38
  go_wp2
  (try simp only [Exit.inBlock, Exit.then])
  refine bodyPost_ret (by simp [results, Try.results38, go_sem]; try rfl) rfl ?_
  exact ⟨rfl, kb.out⟩

/-- What judge answers. -/
def jr (p : Pk) (ahead : Nat) : Int :=
  if p.off ≠ ((ahead / 8 : Nat) : Int) then 25 else if bad p.m p.d = true then 15 else if 8200 < ahead + p.s.size then 11 else 0

set_option maxHeartbeats 2000000 in
theorem judge_part (p : Pk) (ahead : Nat) (hs : p.s.size ≤ 1000000000) (hh : ahead ≤ 8200) (w : World) :
    Calls Try.prog 39 #[p.val, .int .i64 ahead] w fun e w' => e = .returned (.int .i64 (jr p ahead)) ∧ Below w.heap.size w w' := by
  obtain ⟨J, HJ⟩ : ∃ J, Hid (J = jr p ahead) := ⟨_, rfl⟩
  rw [← HJ.out]
  have hbad := HJ.out
  have hdl := p.d_length
  unfold jr at hbad
  simp only [bad, hdl] at hbad
  obtain ⟨id, m, off, ttl, pr, a, b, s⟩ := p
  simp only at hbad hs
  have kb : Hid (Below w.heap.size w (w.alloc (pkC id m off ttl pr a b s))) := (Below.refl _ w).alloc (Nat.le_refl _) _
  clear HJ hdl
  by_cases h1 : off = ((ahead / 8 : Nat) : Int)
  · rw [if_neg (by simpa using h1)] at hbad
    have h1' : off = (ahead : Int) / 8 := by omega
    subst h1'
    clear h1
    cases m
    · rw [if_neg (by simp)] at hbad
      by_cases h6 : 8200 < ahead + s.size
      · rw [if_pos h6] at hbad
        subst hbad
        have h7 : (8200 : Int) - ahead < s.size := by omega
        go_enter Try.func39, Try.ntmps39
        go_wp2
        go_returns
        exact ⟨rfl, kb.out⟩
      · rw [if_neg h6] at hbad
        subst hbad
        have h7 : ¬ (8200 : Int) - ahead < s.size := by omega
        go_enter Try.func39, Try.ntmps39
        go_wp2
        go_returns
        exact ⟨rfl, kb.out⟩
    · by_cases h2 : s.size = 0
      · rw [if_pos (by simp [h2])] at hbad
        subst hbad
        have h3 : (s.toList == []) = true := by
          have : s.toList = [] := by rw [ByteArray.toList_eq]; exact List.length_eq_zero_iff.1 (by simpa using h2)
          rw [this]; rfl
        go_enter Try.func39, Try.ntmps39
        go_wp2
        go_returns
        exact ⟨rfl, kb.out⟩
      · have h3 : (s.toList == []) = false := by
          have : s.toList ≠ [] := by rw [ByteArray.toList_eq]; intro e; apply h2; have := congrArg List.length e; simpa using this
          simpa using this
        by_cases h4 : s.size % 8 = 0
        · rw [if_neg (by simp [h2, h4])] at hbad
          have h5 : (s.size : Int) % 8 = 0 := by omega
          by_cases h6 : 8200 < ahead + s.size
          · rw [if_pos h6] at hbad
            subst hbad
            have h7 : (8200 : Int) - ahead < s.size := by omega
            go_enter Try.func39, Try.ntmps39
            go_wp2
            go_returns
            exact ⟨rfl, kb.out⟩
          · rw [if_neg h6] at hbad
            subst hbad
            have h7 : ¬ (8200 : Int) - ahead < s.size := by omega
            go_enter Try.func39, Try.ntmps39
            go_wp2
            go_returns
            exact ⟨rfl, kb.out⟩
        · rw [if_pos (by simp [h4])] at hbad
          subst hbad
          have h5 : ¬ (s.size : Int) % 8 = 0 := by omega
          go_enter Try.func39, Try.ntmps39
          go_wp2
          go_returns
          exact ⟨rfl, kb.out⟩
  · rw [if_pos (by simpa using h1)] at hbad
    subst hbad
    have h1' : ¬ off = (ahead : Int) / 8 := by omega
    go_enter Try.func39, Try.ntmps39
    go_wp2
    go_returns
    exact ⟨rfl, kb.out⟩
end Go.Proofs.Ytgdjcoodjdckkaa
