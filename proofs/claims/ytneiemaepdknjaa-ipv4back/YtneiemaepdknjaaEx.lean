/- What Encode answers to any packet; Decode behind Encode, Encode behind Decode, Decode of a packet of which one byte is another one. -/
import Derived.Test.YtneiemaepdknjaaDx
namespace Go.Proofs.Ytneiemaepdknjaa
open Go.RowKit Go.Proofs.PitotIp
open Go.Proofs.PitotAddr (hi lo)

theorem enc_cases (id : Int) (m : Bool) (off ttl pr : Int) (a b : Q4) (s : ByteArray) (hs : s.size ≤ 9223372036854775807) :
    (∃ e : Int, e ≠ 0 ∧ ∀ w, Calls Try.prog 10 #[pk id m off ttl pr a b s] w fun r w' => r = .returned (.tuple #[.string ⟨#[]⟩, .int .i64 e]) ∧ Below w.heap.size w w') ∨
    (∃ i o t p : Nat, id = i ∧ off = o ∧ ttl = t ∧ pr = p ∧ MayBe i o t p s) := by
  by_cases h : (0 ≤ id ∧ id ≤ 65535) ∧ (0 ≤ off ∧ off ≤ 8191) ∧ (0 ≤ ttl ∧ ttl ≤ 255) ∧ (0 ≤ pr ∧ pr ≤ 255)
  · obtain ⟨⟨h1, h2⟩, ⟨h3, h4⟩, ⟨h5, h6⟩, ⟨h7, h8⟩⟩ := h
    obtain ⟨i, rfl⟩ := Int.eq_ofNat_of_zero_le h1
    obtain ⟨o, rfl⟩ := Int.eq_ofNat_of_zero_le h3
    obtain ⟨t, rfl⟩ := Int.eq_ofNat_of_zero_le h5
    obtain ⟨p, rfl⟩ := Int.eq_ofNat_of_zero_le h7
    by_cases hl : s.size ≤ 65515
    · exact .inr ⟨i, o, t, p, rfl, rfl, rfl, rfl, ⟨by omega, by omega, by omega, by omega, hl⟩⟩
    · exact .inl ⟨11, by omega, fun w => encode_long i m o t p a b s w (by omega) (by omega) (by omega) (by omega) (by omega) hs⟩
  · exact .inl ⟨1, by omega, fun w => encode_arg id m off ttl pr a b s w h⟩

theorem pt_more (m : Bool) (off : Nat) (h : off < 8192) : decide (8192 ≤ pt m off) = m := by
  cases m
  · exact decide_eq_false (by simp [pt]; omega)
  · exact decide_eq_true (by simp [pt])
theorem pt_off (m : Bool) (off : Nat) (h : off < 8192) : pt m off % 8192 = off := by cases m <;> simp [pt] <;> omega
theorem pt_back (p : Nat) (h : p < 16384) : pt (decide (8192 ≤ p)) (p % 8192) = p := by
  by_cases c : 8192 ≤ p
  · rw [decide_eq_true c]; simp [pt]; omega
  · rw [decide_eq_false c]; simp [pt]; omega

/-- The head that Encode writes. -/
abbrev okH (i : Nat) (m : Bool) (o t p : Nat) (a b : Q4) (n : Nat) : H20 := headOk (20 + n) i (pt m o) t p a b
theorem okH_good (i : Nat) (m : Bool) (o t p : Nat) (a b : Q4) (s : ByteArray) (h : MayBe i o t p s) : (okH i m o t p a b s.size).Good :=
  headOk_good _ _ _ _ _ _ _ (by omega) (by have := h.d; omega) (pt_lt m o h.o)
theorem okH_all (i : Nat) (m : Bool) (o t p : Nat) (a b : Q4) (s : ByteArray) (h : MayBe i o t p s) : (okH i m o t p a b s.size).all = 20 + s.size :=
  headOk_all _ _ _ _ _ _ _ (by have := h.d; omega)
theorem outB_is (i : Nat) (m : Bool) (o t p : Nat) (a b : Q4) (s : ByteArray) : (outB i m o t p a b s).data.toList = (okH i m o t p a b s.size).list ++ s.data.toList := by
  rw [outB_list, PitotIp.bytes, size_toList]

theorem hq_ok (i : Nat) (m : Bool) (o t p : Nat) (a b : Q4) (s : ByteArray) (h : MayBe i o t p s) : hq (okH i m o t p a b s.size) s = pk i m o t p a b s := by
  have e1 : PitotAddr.num (okH i m o t p a b s.size).i1 (okH i m o t p a b s.size).i0 = i := headOk_id _ _ _ _ _ _ _ h.i
  have e2 : (okH i m o t p a b s.size).part = pt m o := headOk_part _ _ _ _ _ _ _ (by have := pt_lt m o h.o; omega)
  have e3 : (okH i m o t p a b s.size).t.toNat = t := by show (lo t).toNat = t; rw [PitotAddr.lo_nat]; have := h.t; omega
  have e4 : (okH i m o t p a b s.size).r.toNat = p := by show (lo p).toNat = p; rw [PitotAddr.lo_nat]; have := h.p; omega
  unfold hq
  rw [e1, e2, e3, e4, pt_more m o h.o, pt_off m o h.o]
  rfl

/-- What was encoded is decoded, whatever is behind it. -/
theorem dec_back (i : Nat) (m : Bool) (o t p : Nat) (a b : Q4) (s rest : ByteArray) (h : MayBe i o t p s) (hr : rest.size ≤ 10000) (w : World) :
    Calls Try.prog 13 #[.string (outB i m o t p a b s ++ rest)] w fun e w' => e = .returned (.tuple #[pk i m o t p a b s, .int .i64 0]) ∧ Below w.heap.size w w' := by
  have hd := h.d
  have f : Front (outB i m o t p a b s ++ rest) (okH i m o t p a b s.size) (s.data.toList ++ rest.data.toList) := ⟨by
    rw [ByteArray.data_append, Array.toList_append, outB_is, List.append_assoc]⟩
  have e := dec_good _ _ _ f (by rw [List.length_append, ← size_toList, ← size_toList]; omega) (okH_good i m o t p a b s h) (by rw [okH_all i m o t p a b s h, List.length_append, ← size_toList]; omega) w
  rw [okH_all i m o t p a b s h, show 20 + s.size - 20 = s.data.toList.length by rw [← size_toList]; omega, List.take_left, show (⟨s.data.toList.toArray⟩ : ByteArray) = s from rfl, hq_ok i m o t p a b s h] at e
  exact e

/-- What is decoded is encoded as the same bytes. -/
theorem enc_again (s : ByteArray) (h : H20) (t : List UInt8) (f : Front s h t) (hm : t.length ≤ 60000) (g : h.Good) (hl : h.all ≤ 20 + t.length) (w : World) :
    Calls Try.prog 10 #[hq h ⟨(t.take (h.all - 20)).toArray⟩] w fun e w' => e = .returned (.tuple #[.string (s.extract 0 h.all), .int .i64 0]) ∧ Below w.heap.size w w' := by
  have hp := g.part
  have hi := PitotAddr.num_lt h.i1 h.i0
  have ht := h.t.toNat_lt
  have hr := h.r.toNat_lt
  have e := encode_ok (PitotAddr.num h.i1 h.i0) (decide (8192 ≤ h.part)) (h.part % 8192) h.t.toNat h.r.toNat h.src h.dst ⟨(t.take (h.all - 20)).toArray⟩ w ⟨hi, by omega, ht, hr, by rw [size_toList]; simp; omega⟩
  have eo : outB (PitotAddr.num h.i1 h.i0) (decide (8192 ≤ h.part)) (h.part % 8192) h.t.toNat h.r.toNat h.src h.dst ⟨(t.take (h.all - 20)).toArray⟩ = s.extract 0 h.all := by
    apply ByteArray.ext
    rw [← Array.toList_inj, outB_list, extract_list, List.drop_zero, f.e, pt_back _ hp]
    exact PitotIp.again h g t hl
  rw [eo] at e
  exact e

/-- A packet of which one byte of the first twenty is another one is not taken. -/
theorem dec_told (i : Nat) (m : Bool) (o t p : Nat) (a b : Q4) (s : ByteArray) (h : MayBe i o t p s) (j : Nat) (hj : j < 20) (x : UInt8) (L : List UInt8) (hL : L = (outB i m o t p a b s).data.toList) (hx : L[j]? ≠ some x) :
    ∃ c : Int, c ≠ 0 ∧ ∀ w, Calls Try.prog 13 #[.string ⟨(L.set j x).toArray⟩] w fun e w' => e = .returned (.tuple #[pk0, .int .i64 c]) ∧ Below w.heap.size w w' := by
  have hd := h.d
  rw [outB_is] at hL
  have hlen : L.length = 20 + s.size := by rw [hL, List.length_append, H20.list_length, ← size_toList]
  rcases dec_cases ⟨(L.set j x).toArray⟩ (by rw [size_toList]; simp; omega) with q | ⟨g, u, f, hg, _⟩
  · exact q
  · exfalso
    have e : L.set j x = g.list ++ u := by have := f.e; simpa using this
    rw [hL, List.set_append_left _ _ (by rw [H20.list_length]; exact hj)] at e
    have e2 := (List.append_inj e (by rw [List.length_set, H20.list_length, H20.list_length])).1
    have e3 := PitotIp.told _ g (okH_good i m o t p a b s h) hg j hj x e2.symm
    rw [← e2] at e3
    apply hx
    rw [hL, List.getElem?_append_left (by rw [H20.list_length]; exact hj), ← e3]
    simp [H20.list_length, hj]
end Go.Proofs.Ytneiemaepdknjaa
