/- What Encode answers to any frame. -/
import Derived.Test.YthlpehiloabfiaaDx
import Derived.Test.YthlpehiloabfiaaFo
namespace Go.Proofs.Ythlpehiloabfiaa
open Go.RowKit Go.Proofs.PitotAddr Go.Proofs.PitotEther

/-- A frame that may be. -/
structure MayBe (v n k q : Nat) (s : ByteArray) : Prop where
  v1 : 1 ≤ v
  v2 : v ≤ 65535
  n2 : n ≤ 4095
  k2 : k ≤ 1
  q2 : q ≤ 255
  d2 : s.size ≤ 1499

theorem ba_list (s : ByteArray) : s = ⟨s.data.toList.toArray⟩ := by
  apply ByteArray.ext; simp

/-- Its bytes. -/
def outB (v n k q : Nat) (s : ByteArray) : ByteArray := ⟨(PitotEther.bytes v n k q s.data.toList).toArray⟩

theorem outB_size (v n k q : Nat) (s : ByteArray) : (outB v n k q s).size = max s.size 45 + 19 := by
  show (PitotEther.bytes v n k q s.data.toList).toArray.size = _
  simp [bytes_length]

theorem encode_may (v n k q : Nat) (s : ByteArray) (w : World) (h : MayBe v n k q s) :
    Calls Try.prog 10 #[fr v n k q s] w fun e w' => e = .returned (.tuple #[.string (outB v n k q s), .int .i64 0]) ∧ Below w.heap.size w w' := by
  have := encode_ok v n k q s.data.toList w h.v1 h.v2 h.n2 h.k2 h.q2 (by simpa using h.d2)
  rw [← ba_list] at this
  exact this

/-- Encode: an error and no bytes, or the bytes. -/
theorem enc_cases (a b c d : Int) (s : ByteArray) (hs : s.size ≤ 9223372036854775807) :
    (∃ e : Nat, (e = 1 ∨ e = 11) ∧ ∀ w, Calls Try.prog 10 #[fr a b c d s] w fun r w' => r = .returned (.tuple #[.string ⟨#[]⟩, .int .i64 e]) ∧ Below w.heap.size w w') ∨
    (∃ v n k q : Nat, a = v ∧ b = n ∧ c = k ∧ d = q ∧ MayBe v n k q s) := by
  by_cases h1 : 1 ≤ a ∧ a ≤ 65535
  · obtain ⟨v, rfl⟩ := Int.eq_ofNat_of_zero_le (show 0 ≤ a by omega)
    by_cases h2 : 0 ≤ b ∧ b ≤ 4095 ∧ 0 ≤ c ∧ c ≤ 1
    · obtain ⟨n, rfl⟩ := Int.eq_ofNat_of_zero_le (show 0 ≤ b by omega)
      obtain ⟨k, rfl⟩ := Int.eq_ofNat_of_zero_le (show 0 ≤ c by omega)
      by_cases h3 : d < 0 ∨ 255 < d
      · exact .inl ⟨1, .inl rfl, fun w => encode_seq v n k d s w (by omega) (by omega) (by omega) (by omega) h3⟩
      · obtain ⟨q, rfl⟩ := Int.eq_ofNat_of_zero_le (show 0 ≤ d by omega)
        by_cases h4 : 1499 < s.size
        · exact .inl ⟨11, .inr rfl, fun w => encode_long v n k q s w (by omega) (by omega) (by omega) (by omega) (by omega) h4 hs⟩
        · exact .inr ⟨v, n, k, q, rfl, rfl, rfl, rfl, by omega, by omega, by omega, by omega, by omega, by omega⟩
    · exact .inl ⟨1, .inl rfl, fun w => encode_src v b c d s w (by omega) (by omega) h2⟩
  · exact .inl ⟨1, .inl rfl, fun w => encode_vl a b c d s w h1⟩

/-- On A and on B: the same error, or the bytes of both. -/
theorem enc_sides (a b d : Int) (s : ByteArray) (hs : s.size ≤ 9223372036854775807) :
    (∃ e : Nat, (e = 1 ∨ e = 11) ∧ (∀ w, Calls Try.prog 10 #[fr a b 0 d s] w fun r w' => r = .returned (.tuple #[.string ⟨#[]⟩, .int .i64 e]) ∧ Below w.heap.size w w') ∧
      (∀ w, Calls Try.prog 10 #[fr a b 1 d s] w fun r w' => r = .returned (.tuple #[.string ⟨#[]⟩, .int .i64 e]) ∧ Below w.heap.size w w')) ∨
    (∃ v n q : Nat, a = v ∧ b = n ∧ d = q ∧ MayBe v n 0 q s ∧ MayBe v n 1 q s) := by
  by_cases h1 : 1 ≤ a ∧ a ≤ 65535
  · obtain ⟨v, rfl⟩ := Int.eq_ofNat_of_zero_le (show 0 ≤ a by omega)
    by_cases h2 : 0 ≤ b ∧ b ≤ 4095
    · obtain ⟨n, rfl⟩ := Int.eq_ofNat_of_zero_le (show 0 ≤ b by omega)
      by_cases h3 : d < 0 ∨ 255 < d
      · exact .inl ⟨1, .inl rfl, fun w => encode_seq v n 0 d s w (by omega) (by omega) (by omega) (by omega) h3, fun w => encode_seq v n 1 d s w (by omega) (by omega) (by omega) (by omega) h3⟩
      · obtain ⟨q, rfl⟩ := Int.eq_ofNat_of_zero_le (show 0 ≤ d by omega)
        by_cases h4 : 1499 < s.size
        · exact .inl ⟨11, .inr rfl, fun w => encode_long v n 0 q s w (by omega) (by omega) (by omega) (by omega) (by omega) h4 hs, fun w => encode_long v n 1 q s w (by omega) (by omega) (by omega) (by omega) (by omega) h4 hs⟩
        · exact .inr ⟨v, n, q, rfl, rfl, rfl, ⟨by omega, by omega, by omega, by omega, by omega, by omega⟩, ⟨by omega, by omega, by omega, by omega, by omega, by omega⟩⟩
    · exact .inl ⟨1, .inl rfl, fun w => encode_src v b 0 d s w (by omega) (by omega) (by omega), fun w => encode_src v b 1 d s w (by omega) (by omega) (by omega)⟩
  · exact .inl ⟨1, .inl rfl, fun w => encode_vl a b 0 d s w h1, fun w => encode_vl a b 1 d s w h1⟩

theorem decode_may (v n k q : Nat) (s : ByteArray) (w : World) (h : MayBe v n k q s) :
    Calls Try.prog 14 #[.string (outB v n k q s)] w fun e w' => e = .returned (.tuple #[fr v n k q ⟨(pad s.data.toList).toArray⟩, .int .i64 0]) ∧ Below w.heap.size w w' :=
  decode_encoded v n k q s.data.toList w h.v1 h.v2 h.n2 h.k2 h.q2 (by simpa using h.d2)
theorem look_may (v n k q : Nat) (s : ByteArray) (w : World) (h : MayBe v n k q s) :
    Calls Try.prog 16 #[.string (outB v n k q s)] w fun e w' => e = .returned (.tuple #[.int .i64 v, .int .i64 0]) ∧ Below w.heap.size w w' :=
  look_encoded v n k q s.data.toList w h.v1 h.v2 h.n2 h.k2 (by simpa using h.d2)

/-- One byte that is another one. -/
theorem decode_turned (v n k q : Nat) (s : ByteArray) (j : Nat) (hj : j < max s.size 45 + 19) (x : UInt8) (h : MayBe v n k q s) (hx : x ≠ (PitotEther.bytes v n k q s.data.toList)[j]'(by rw [bytes_length]; simpa using hj)) (w : World) :
    Calls Try.prog 14 #[.string ⟨((PitotEther.bytes v n k q s.data.toList).set j x).toArray⟩] w fun e w' => e = .returned (.tuple #[fr0, .int .i64 12]) ∧ Below w.heap.size w w' := by
  have hz : (⟨((PitotEther.bytes v n k q s.data.toList).set j x).toArray⟩ : ByteArray).size = max s.size 45 + 19 := by
    show ((PitotEther.bytes v n k q s.data.toList).set j x).toArray.size = _
    simp [bytes_length]
  have hd := h.d2
  refine decode_sum _ w (by omega) (by omega) ?_
  have := told v n k q s.data.toList j (by rw [bytes_length]; simpa using hj) x hx
  simpa using this
end Go.Proofs.Ythlpehiloabfiaa
