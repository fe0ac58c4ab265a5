/- What Decode answers to any bytes: by the first eight of them and what is behind. -/
import Derived.Test.YtpecmpepnfgnoaaDe
namespace Go.Proofs.Ytpecmpepnfgnoaa
open Go.RowKit Go.Proofs.PitotIp Go.Proofs.PitotUdp
open Go.Proofs.PitotAddr (hi lo num num_lt hi_num lo_num)

theorem jl_zero {U n : Nat} (h : jl U n = 0) : U = n ∧ n ≤ 8200 := by
  unfold jl at h
  split at h
  · omega
  · split at h
    · omega
    · split at h
      · omega
      · omega
theorem uerr_long {a b : Q4} {h : D8} {l : List UInt8} (hj : jl (num h.n1 h.n0) (8 + l.length) ≠ 0) : uerr a b h l = jl (num h.n1 h.n0) (8 + l.length) := by
  unfold uerr jl D8.all at *
  by_cases h1 : num h.n1 h.n0 < 8 ∨ 8200 < num h.n1 h.n0
  · rw [if_pos h1, if_pos h1]
  · rw [if_neg h1] at hj ⊢
    rw [if_neg h1]
    by_cases h2 : 8 + l.length < num h.n1 h.n0
    · rw [if_pos h2, if_pos h2]
    · rw [if_neg h2] at hj ⊢
      rw [if_neg h2]
      by_cases h3 : num h.n1 h.n0 < 8 + l.length
      · rw [if_pos h3, if_pos h3]
      · rw [if_neg h3] at hj
        exact absurd rfl hj
theorem uerr_sum {a b : Q4} {h : D8} {l : List UInt8} (hj : jl (num h.n1 h.n0) (8 + l.length) = 0) : uerr a b h l = js (num h.s1 h.s0) (PitotUdp.sumOf a b (h.bare ++ l)) := by
  obtain ⟨h1, h2⟩ := jl_zero hj
  unfold uerr js D8.all
  rw [if_neg (by omega), if_neg (by omega), if_neg (by omega)]
theorem bare_of {h : D8} {n : Nat} (hn : num h.n1 h.n0 = n) : (dg n (num h.f1 h.f0) (num h.t1 h.t0) 0).list = h.bare := by
  subst hn
  unfold dg
  rw [hi_num, lo_num, hi_num, lo_num, hi_num, lo_num]
  rfl

theorem dec_bad (a b : Q4) (h : D8) (l : List UInt8) (s : ByteArray) (hs : s.data.toList = h.list ++ l) (hl : l.length ≤ 100000) (c : Int) (hc : uerr a b h l = c) (h0 : c ≠ 0) (w : World) :
    Calls Try.prog 13 #[ip4 a, ip4 b, .string s] w fun e w' => e = .returned (.tuple #[en0, .string ⟨#[]⟩, .int .i64 c]) ∧ Below w.heap.size w w' := by
  have hs' : s = ⟨(h.list ++ l).toArray⟩ := ba_ext hs
  by_cases hj : jl (num h.n1 h.n0) (8 + l.length) = 0
  · have hu := uerr_sum (a := a) (b := b) hj
    have hb := bare_of (jl_zero hj).1
    exact decode_core a b h l s hs' hl w _ _ _ _ rfl rfl rfl rfl 0 c hj.symm (fun _ => by rw [hb, ← hu, hc]) _ (.inr (.inl ⟨rfl, h0, rfl⟩))
  · have hu := uerr_long (a := a) (b := b) hj
    exact decode_core a b h l s hs' hl w _ _ _ _ rfl rfl rfl rfl c 0 (by rw [← hu, hc]) (fun e => absurd e h0) _ (.inl ⟨h0, rfl⟩)

theorem dec_good (a b : Q4) (h : D8) (l : List UInt8) (s : ByteArray) (hs : s.data.toList = h.list ++ l) (hl : l.length ≤ 100000) (hc : uerr a b h l = 0) (w : World) :
    Calls Try.prog 13 #[ip4 a, ip4 b, .string s] w fun e w' => e = .returned (.tuple #[en a b (num h.f1 h.f0 : Nat) (num h.t1 h.t0 : Nat), .string ⟨l.toArray⟩, .int .i64 0]) ∧ Below w.heap.size w w' := by
  have hs' : s = ⟨(h.list ++ l).toArray⟩ := ba_ext hs
  by_cases hj : jl (num h.n1 h.n0) (8 + l.length) = 0
  · have hu := uerr_sum (a := a) (b := b) hj
    have hb := bare_of (jl_zero hj).1
    exact decode_core a b h l s hs' hl w _ _ _ _ rfl rfl rfl rfl 0 0 hj.symm (fun _ => by rw [hb, ← hu, hc]) _ (.inr (.inr ⟨rfl, rfl, rfl⟩))
  · have hu := uerr_long (a := a) (b := b) hj
    exact absurd (hu.symm.trans hc) hj
end Go.Proofs.Ytpecmpepnfgnoaa
