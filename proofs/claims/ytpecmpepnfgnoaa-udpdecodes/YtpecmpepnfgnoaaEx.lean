/- What Decode answers to a datagram that was encoded, to its parts, and to one that was changed. -/
import Derived.Test.YtpecmpepnfgnoaaDx
namespace Go.Proofs.Ytpecmpepnfgnoaa
open Go.RowKit Go.Proofs.PitotIp Go.Proofs.PitotUdp
open Go.Proofs.PitotAddr (hi lo num num_lt hi_num lo_num num_hi_lo)

theorem outB_parts (a b : Q4) (f t : Nat) (s : ByteArray) : (outB a b f t s).data.toList = (dgOk a b f t s.data.toList).list ++ s.data.toList := outB_list a b f t s
theorem list_ba (s : ByteArray) : (⟨s.data.toList.toArray⟩ : ByteArray) = s := (ba_ext rfl).symm

theorem dec_back (a b : Q4) (f t : Nat) (s : ByteArray) (h : MayBe f t s) (w : World) :
    Calls Try.prog 13 #[ip4 a, ip4 b, .string (outB a b f t s)] w fun e w' => e = .returned (.tuple #[en a b f t, .string s, .int .i64 0]) ∧ Below w.heap.size w w' := by
  have hd := h.d
  have hz : s.data.toList.length ≤ 8192 := by rw [← size_toList]; exact hd
  have h1 := dec_good a b (dgOk a b f t s.data.toList) s.data.toList _ (outB_parts a b f t s) (by omega) (back a b f t _ hz) w
  rwa [dgOk_from a b f t _ h.f, dgOk_to a b f t _ h.t, list_ba] at h1

theorem dec_cut (a b : Q4) (f t : Nat) (s : ByteArray) (h : MayBe f t s) (j : Nat) (hj : j < 8 + s.size) (w : World) :
    Calls Try.prog 13 #[ip4 a, ip4 b, .string ((outB a b f t s).extract 0 j)] w fun e w' => e = .returned (.tuple #[en0, .string ⟨#[]⟩, .int .i64 10]) ∧ Below w.heap.size w w' := by
  have hd := h.d
  have hl : s.data.toList.length = s.size := (size_toList s).symm
  by_cases h8 : j < 8
  · refine decode_short a b _ w ?_
    rw [ByteArray.size_extract, outB_size]
    omega
  · have e1 : ((outB a b f t s).extract 0 j).data.toList = (dgOk a b f t s.data.toList).list ++ s.data.toList.take (j - 8) := by
      rw [extract_list, outB_parts, List.drop_zero, List.take_append, List.take_of_length_le (by rw [D8.list_length]; omega), D8.list_length]
    exact dec_bad a b _ _ _ e1 (by rw [List.length_take]; omega) 10 (cut a b f t _ _ (by omega) (by rw [List.length_take]; omega)) (by omega) w

theorem dec_more (a b : Q4) (f t : Nat) (s x : ByteArray) (h : MayBe f t s) (hx : 0 < x.size) (hx2 : x.size ≤ 10000) (w : World) :
    Calls Try.prog 13 #[ip4 a, ip4 b, .string (outB a b f t s ++ x)] w fun e w' => e = .returned (.tuple #[en0, .string ⟨#[]⟩, .int .i64 11]) ∧ Below w.heap.size w w' := by
  have hd := h.d
  have hl : s.data.toList.length = s.size := (size_toList s).symm
  have hl2 : x.data.toList.length = x.size := (size_toList x).symm
  have e1 : (outB a b f t s ++ x).data.toList = (dgOk a b f t s.data.toList).list ++ (s.data.toList ++ x.data.toList) := by
    rw [ByteArray.data_append, Array.toList_append, outB_parts, List.append_assoc]
  exact dec_bad a b _ _ _ e1 (by rw [List.length_append]; omega) 11 (more a b f t _ _ (by omega) (by rw [List.length_append]; omega)) (by omega) w

theorem dec_none (a b p q : Q4) (f t : Nat) (s : ByteArray) (h : MayBe f t s) (w : World) :
    Calls Try.prog 13 #[ip4 p, ip4 q, .string ((outB a b f t s).extract 0 6 ++ (⟨#[0, 0]⟩ : ByteArray) ++ (outB a b f t s).extract 8 (outB a b f t s).size)] w fun e w' => e = .returned (.tuple #[en p q f t, .string s, .int .i64 0]) ∧ Below w.heap.size w w' := by
  have hd := h.d
  have hl : s.data.toList.length = s.size := (size_toList s).symm
  obtain ⟨k, hk⟩ : ∃ k, k = dgOk a b f t s.data.toList := ⟨_, rfl⟩
  have e0 := outB_parts a b f t s
  rw [← hk] at e0
  have e6 : ((outB a b f t s).extract 0 6).data.toList = k.front := by rw [extract_list, e0]; rfl
  have e8 : ((outB a b f t s).extract 8 (outB a b f t s).size).data.toList = s.data.toList := by
    rw [extract_list, List.take_of_length_le (by rw [← size_toList]; omega), e0]; rfl
  have e1 : ((outB a b f t s).extract 0 6 ++ (⟨#[0, 0]⟩ : ByteArray) ++ (outB a b f t s).extract 8 (outB a b f t s).size).data.toList = (⟨k.f1, k.f0, k.t1, k.t0, k.n1, k.n0, 0, 0⟩ : D8).list ++ s.data.toList := by
    rw [ByteArray.data_append, ByteArray.data_append, Array.toList_append, Array.toList_append, e6, e8]; rfl
  have hall : (⟨k.f1, k.f0, k.t1, k.t0, k.n1, k.n0, 0, 0⟩ : D8).all = 8 + s.data.toList.length := by
    have := dgOk_all a b f t s.data.toList (by omega)
    rw [← hk] at this
    exact this
  have h1 := dec_good p q _ _ _ e1 (by omega) (none_sum p q _ _ hall (by omega) rfl) w
  have hf := dgOk_from a b f t s.data.toList h.f
  have ht := dgOk_to a b f t s.data.toList h.t
  rw [← hk] at hf ht
  show Calls Try.prog 13 _ w _
  have h2 : num (⟨k.f1, k.f0, k.t1, k.t0, k.n1, k.n0, 0, 0⟩ : D8).f1 (⟨k.f1, k.f0, k.t1, k.t0, k.n1, k.n0, 0, 0⟩ : D8).f0 = f := hf
  have h3 : num (⟨k.f1, k.f0, k.t1, k.t0, k.n1, k.n0, 0, 0⟩ : D8).t1 (⟨k.f1, k.f0, k.t1, k.t0, k.n1, k.n0, 0, 0⟩ : D8).t0 = t := ht
  rw [h2, h3, list_ba] at h1
  exact h1

theorem dec_told (a b : Q4) (f t : Nat) (s : ByteArray) (h : MayBe f t s) (j : Nat) (hj : j < 8 + s.size) (h4 : j ≠ 4) (h5 : j ≠ 5) (x : UInt8) (L : List UInt8) (hL : L = (outB a b f t s).data.toList) (hx : L[j]? ≠ some x)
    (x6 x7 : UInt8) (h6 : (L.set j x)[6]? = some x6) (h7 : (L.set j x)[7]? = some x7) (hz : x6.toNat ≠ 0 ∨ x7.toNat ≠ 0) (w : World) :
    Calls Try.prog 13 #[ip4 a, ip4 b, .string ⟨(L.set j x).toArray⟩] w fun e w' => e = .returned (.tuple #[en0, .string ⟨#[]⟩, .int .i64 12]) ∧ Below w.heap.size w w' := by
  have hd := h.d
  have hl : s.data.toList.length = s.size := (size_toList s).symm
  rw [outB_list] at hL
  subst hL
  have hlen : ((PitotUdp.bytes a b f t s.data.toList).set j x).length = 8 + s.size := by rw [List.length_set, PitotUdp.bytes_length, hl]
  obtain ⟨g, u, e⟩ := D8.of ((PitotUdp.bytes a b f t s.data.toList).set j x) (by omega)
  have hu : u.length = s.size := by
    rw [e, List.length_append, D8.list_length] at hlen; omega
  have hs1 : g.s1 = x6 := by
    rw [e] at h6
    exact Option.some.inj h6
  have hs0 : g.s0 = x7 := by
    rw [e] at h7
    exact Option.some.inj h7
  have h12 := told a b f t s.data.toList (by omega) g u j (by omega) h4 h5 x hx e.symm (by rw [hs1, hs0]; unfold num; omega)
  exact dec_bad a b g u _ (by rw [e]) (by omega) 12 h12 (by omega) w
end Go.Proofs.Ytpecmpepnfgnoaa
