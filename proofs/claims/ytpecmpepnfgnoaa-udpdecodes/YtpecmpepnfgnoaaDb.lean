/- Both Decodes answer the same. -/
import Derived.Test.YtpecmpepnfgnoaaDx
import Derived.Test.YtpecmpepnfgnoaaRd
namespace Go.Proofs.Ytpecmpepnfgnoaa
open Go.RowKit Go.Proofs.PitotIp Go.Proofs.PitotUdp
open Go.Proofs.PitotAddr (hi lo num num_lt hi_num lo_num)

theorem drop_of {s : ByteArray} {l : List UInt8} (hs : s.data.toList = l) (i : Nat) : (s.extract i s.size).data.toList = l.drop i := by
  rw [extract_list, hs, List.take_of_length_le (by rw [← hs, ← size_toList]; omega)]
theorem two_is {s : ByteArray} {x y : UInt8} {l : List UInt8} (h : s.data.toList = x :: y :: l) (hs : s.size ≤ 1000000) : TwoIs s (num x y) := fun w => two_any s x y l h hs w

theorem dec_both (a b : Q4) (s : ByteArray) (hs : s.size ≤ 9000) :
    (∃ c : Int, c ≠ 0 ∧ (∀ w, Calls Try.prog 13 #[ip4 a, ip4 b, .string s] w fun e w' => e = .returned (.tuple #[en0, .string ⟨#[]⟩, .int .i64 c]) ∧ Below w.heap.size w w') ∧
      (∀ w, Calls Try.prog 14 #[.string (ipB a), .string (ipB b), .string s] w fun e w' => e = .returned (.tuple #[re0, .string ⟨#[]⟩, .int .i64 c]) ∧ Below w.heap.size w w')) ∨
    (∃ (f t : Nat) (D : ByteArray), (∀ w, Calls Try.prog 13 #[ip4 a, ip4 b, .string s] w fun e w' => e = .returned (.tuple #[en a b f t, .string D, .int .i64 0]) ∧ Below w.heap.size w w') ∧
      (∀ w, Calls Try.prog 14 #[.string (ipB a), .string (ipB b), .string s] w fun e w' => e = .returned (.tuple #[re (ipB a) (ipB b) f t, .string D, .int .i64 0]) ∧ Below w.heap.size w w')) := by
  by_cases h8 : s.size < 8
  · exact .inl ⟨10, by omega, fun w => decode_short a b s w h8, fun w => refdec_short _ _ s w h8⟩
  · obtain ⟨h, l, e⟩ := D8.of s.data.toList (by rw [← size_toList]; omega)
    have hz : s.size = 8 + l.length := by rw [size_toList, e, List.length_append, D8.list_length]
    have x0 : s.data.toList = h.f1 :: h.f0 :: h.t1 :: h.t0 :: h.n1 :: h.n0 :: h.s1 :: h.s0 :: l := e
    have x2 : (s.extract 2 s.size).data.toList = h.t1 :: h.t0 :: h.n1 :: h.n0 :: h.s1 :: h.s0 :: l := drop_of x0 2
    have x4 : (s.extract 4 s.size).data.toList = h.n1 :: h.n0 :: h.s1 :: h.s0 :: l := drop_of x0 4
    have x6 : (s.extract 6 s.size).data.toList = h.s1 :: h.s0 :: l := drop_of x0 6
    have x8 : (s.extract 8 s.size).data.toList = l := drop_of x0 8
    have y6 : (s.extract 0 6).data.toList = h.front := by rw [extract_list, x0]; rfl
    have T0 := two_is x0 (by omega)
    have T2 := two_is x2 (by rw [size_toList, x2]; simp; omega)
    have T4 := two_is x4 (by rw [size_toList, x4]; simp; omega)
    have T6 := two_is x6 (by rw [size_toList, x6]; simp; omega)
    by_cases hj : jl (num h.n1 h.n0) (8 + l.length) = 0
    · obtain ⟨hU, hU2⟩ := jl_zero hj
      have hm : (s.extract 0 6 ++ (⟨#[0, 0]⟩ : ByteArray) ++ s.extract 8 s.size).data.toList = h.bare ++ l := by
        rw [ByteArray.data_append, ByteArray.data_append, Array.toList_append, Array.toList_append, y6, x8]
        rfl
      have hz6 : (s.extract 0 6).size = 6 := by rw [size_toList, y6]; rfl
      have hz8 : (s.extract 8 s.size).size = l.length := by rw [size_toList, x8]
      have hsum : RefSumIs (ipB a) (ipB b) (s.extract 0 6 ++ (⟨#[0, 0]⟩ : ByteArray) ++ s.extract 8 s.size) (PitotUdp.sumOf a b (h.bare ++ l)) := fun w => by
        have h1 := refSum_any a b (s.extract 0 6 ++ (⟨#[0, 0]⟩ : ByteArray) ++ s.extract 8 s.size) (by rw [size_toList, hm, List.length_append, D8.bare_length]; omega) w
        rwa [hm] at h1
      have hu := uerr_sum (a := a) (b := b) hj
      by_cases hc : uerr a b h l = 0
      · refine .inr ⟨num h.f1 h.f0, num h.t1 h.t0, ⟨l.toArray⟩, fun w => dec_good a b h l s e (by omega) hc w, fun w => ?_⟩
        rw [← ba_ext x8]
        by_cases hS : num h.s1 h.s0 = 0
        · exact refdec_none (ipB a) (ipB b) s _ _ _ _ _ _ _ _ _ _ w (by omega) (by omega) rfl T4 (by omega) (by omega) rfl T6 rfl rfl hz6 (by omega) rfl rfl T0 T2 hS
        · refine refdec_good (ipB a) (ipB b) s _ _ _ _ _ _ _ _ (PitotUdp.sumOf a b (h.bare ++ l)) _ _ w (by omega) (by omega) rfl T4 (by omega) (by omega) rfl T6 rfl rfl hz6 (by omega) rfl rfl T0 T2 hS ?_ hsum
          rw [hc] at hu
          unfold js at hu
          split at hu
          · omega
          · omega
      · have hx : num h.s1 h.s0 ≠ 0 ∧ num h.s1 h.s0 ≠ PitotUdp.sumOf a b (h.bare ++ l) := by
          rw [hu] at hc
          unfold js at hc
          split at hc
          · assumption
          · exact absurd rfl hc
        have hc2 : uerr a b h l = 12 := by rw [hu]; unfold js; rw [if_pos hx]
        exact .inl ⟨12, by omega, fun w => dec_bad a b h l s e (by omega) 12 hc2 (by omega) w, fun w => refdec_sum (ipB a) (ipB b) s _ _ _ _ _ _ _ (PitotUdp.sumOf a b (h.bare ++ l)) w (by omega) (by omega) rfl T4 (by omega) (by omega) rfl T6 rfl rfl hz6 (by omega) rfl hx.1 hx.2 hsum⟩
    · have hu := uerr_long (a := a) (b := b) hj
      refine .inl ⟨jl (num h.n1 h.n0) (8 + l.length), hj, fun w => dec_bad a b h l s e (by omega) _ hu hj w, fun w => ?_⟩
      have hcs : (num h.n1 h.n0 < 8) ∨ (¬ num h.n1 h.n0 < 8 ∧ 8200 < num h.n1 h.n0) ∨ (¬ num h.n1 h.n0 < 8 ∧ ¬ 8200 < num h.n1 h.n0 ∧ s.size < num h.n1 h.n0) ∨ (¬ num h.n1 h.n0 < 8 ∧ ¬ 8200 < num h.n1 h.n0 ∧ ¬ s.size < num h.n1 h.n0 ∧ num h.n1 h.n0 < s.size) := by
        unfold jl at hj
        split at hj
        · omega
        · split at hj
          · omega
          · split at hj
            · omega
            · exact absurd rfl hj
      rw [← hz]
      rcases hcs with g | g | g | g
      · rw [show jl (num h.n1 h.n0) s.size = 15 by unfold jl; rw [if_pos (by omega)]]
        exact refdec_a (ipB a) (ipB b) s _ _ w (by omega) (by omega) rfl T4 g
      · rw [show jl (num h.n1 h.n0) s.size = 15 by unfold jl; rw [if_pos (by omega)]]
        exact refdec_b (ipB a) (ipB b) s _ _ w (by omega) (by omega) rfl T4 g
      · rw [show jl (num h.n1 h.n0) s.size = 10 by unfold jl; rw [if_neg (by omega), if_pos (by omega)]]
        exact refdec_c (ipB a) (ipB b) s _ _ w (by omega) (by omega) rfl T4 g
      · rw [show jl (num h.n1 h.n0) s.size = 11 by unfold jl; rw [if_neg (by omega), if_neg (by omega), if_pos (by omega)]]
        exact refdec_d (ipB a) (ipB b) s _ _ w (by omega) (by omega) rfl T4 g
end Go.Proofs.Ytpecmpepnfgnoaa
