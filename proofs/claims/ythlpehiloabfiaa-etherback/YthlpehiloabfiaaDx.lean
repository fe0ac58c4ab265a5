/- What bytes are: seven kinds; what Decode and Look answer; awake. -/
import Derived.Test.YthlpehiloabfiaaDd
namespace Go.Proofs.Ythlpehiloabfiaa
open Go.RowKit Go.Proofs.PitotAddr Go.Proofs.PitotEther

/-- Bytes that are a frame. -/
structure IsFrame (s : ByteArray) (p : Pt) (k : Nat) : Prop where
  opens : Opens s p
  vl : p.a.isVL = true
  net : k ≤ 1
  src : p.b.isEnd k = true
  kind : p.x = 8 ∧ p.y = 0

theorem dec_kinds (s : ByteArray) : s.size < 64 ∨ 1518 < s.size ∨ (64 ≤ s.size ∧ s.size ≤ 1518 ∧ PitotCrc.opened s.data.toList = false) ∨
    (∃ p, Opens s p ∧ p.a.isVL = false) ∨ (∃ p, Opens s p ∧ p.a.isVL = true ∧ p.b.isEnd 0 = false ∧ p.b.isEnd 1 = false) ∨
    (∃ p k, Opens s p ∧ p.a.isVL = true ∧ k ≤ 1 ∧ p.b.isEnd k = true ∧ ¬ (p.x = 8 ∧ p.y = 0)) ∨ (∃ p k, IsFrame s p k) := by
  by_cases h1 : s.size < 64
  · exact .inl h1
  by_cases h2 : 1518 < s.size
  · exact .inr (.inl h2)
  cases ho : PitotCrc.opened s.data.toList with
  | false => exact .inr (.inr (.inl ⟨by omega, by omega, rfl⟩))
  | true =>
    have hl : (s.extract 0 (s.size - 4)).data.toList.length = s.size - 4 := by
      rw [Cr.extract_list]; simp
    obtain ⟨p, hp⟩ := Pt.of (s.extract 0 (s.size - 4)).data.toList (by omega)
    have hd : p.d.length + 15 = s.size - 4 := by rw [← Pt.list_length, ← hp, hl]
    have O : Opens s p := by
      refine ⟨by omega, by omega, by omega, ho, ?_⟩
      rw [hd]
      exact ba_ext hp
    refine .inr (.inr (.inr ?_))
    cases hv : p.a.isVL with
    | false => exact .inl ⟨p, O, hv⟩
    | true =>
      refine .inr ?_
      by_cases hk : ∃ k, k ≤ 1 ∧ p.b.isEnd k = true
      · obtain ⟨k, hk1, hk2⟩ := hk
        by_cases hx : p.x = 8 ∧ p.y = 0
        · exact .inr (.inr ⟨p, k, O, hv, hk1, hk2, hx⟩)
        · exact .inr (.inl ⟨p, k, O, hv, hk1, hk2, hx⟩)
      · refine .inl ⟨p, O, hv, ?_, ?_⟩
        · cases h0 : p.b.isEnd 0 with
          | false => rfl
          | true => exact absurd ⟨0, by omega, h0⟩ hk
        · cases h0 : p.b.isEnd 1 with
          | false => rfl
          | true => exact absurd ⟨1, by omega, h0⟩ hk

theorem Pt.txt_12 (p : Pt) : 12 ≤ p.txt.size := by rw [p.txt_size]; omega

theorem decode_vl (s : ByteArray) (p : Pt) (w : World) (h : Opens s p) (hv : p.a.isVL = false) :
    Calls Try.prog 14 #[.string s] w fun e w' => e = .returned (.tuple #[fr0, .int .i64 14]) ∧ Below w.heap.size w w' :=
  decode_addr s p w h fun w => ends_vl p.txt p.a p.b w p.txt_12 (by rw [p.txt_size]; have := h.hi; omega) p.front hv
theorem decode_of (s : ByteArray) (p : Pt) (w : World) (h : Opens s p) (hv : p.a.isVL = true) (h0 : p.b.isEnd 0 = false) (h1 : p.b.isEnd 1 = false) :
    Calls Try.prog 14 #[.string s] w fun e w' => e = .returned (.tuple #[fr0, .int .i64 14]) ∧ Below w.heap.size w w' :=
  decode_addr s p w h fun w => ends_of p.txt p.a p.b w p.txt_12 (by rw [p.txt_size]; have := h.hi; omega) p.front hv h0 h1
theorem decode_other (s : ByteArray) (p : Pt) (k : Nat) (w : World) (h : Opens s p) (hv : p.a.isVL = true) (hk : k ≤ 1) (he : p.b.isEnd k = true) (hx : ¬ (p.x = 8 ∧ p.y = 0)) :
    Calls Try.prog 14 #[.string s] w fun e w' => e = .returned (.tuple #[fr0, .int .i64 13]) ∧ Below w.heap.size w w' :=
  decode_kind s p (num p.a.e p.a.f) (num p.b.d p.b.e) k w h (fun w => ends_ok p.txt p.a p.b w p.txt_12 (by rw [p.txt_size]; have := h.hi; omega) p.front hv k hk he) hx
theorem decode_frame (s : ByteArray) (p : Pt) (k : Nat) (w : World) (h : IsFrame s p k) :
    Calls Try.prog 14 #[.string s] w fun e w' => e = .returned (.tuple #[fr (num p.a.e p.a.f : Nat) (num p.b.d p.b.e : Nat) k p.q.toNat ⟨p.d.toArray⟩, .int .i64 0]) ∧ Below w.heap.size w w' :=
  decode_ok s p (num p.a.e p.a.f) (num p.b.d p.b.e) k w h.opens (fun w => ends_ok p.txt p.a p.b w p.txt_12 (by rw [p.txt_size]; have := h.opens.hi; omega) p.front h.vl k h.net h.src) h.kind

/-- Decode: an error and no frame, or a frame. -/
theorem dec_cases (s : ByteArray) (hm : s.size ≤ 9223372036854775807) :
    (∃ c : Nat, (c = 10 ∨ c = 11 ∨ c = 12 ∨ c = 13 ∨ c = 14) ∧ ∀ w, Calls Try.prog 14 #[.string s] w fun e w' => e = .returned (.tuple #[fr0, .int .i64 c]) ∧ Below w.heap.size w w') ∨
    (∃ p k, IsFrame s p k) := by
  rcases dec_kinds s with h | h | ⟨h1, h2, h3⟩ | ⟨p, h1, h2⟩ | ⟨p, h1, h2, h3, h4⟩ | ⟨p, k, h1, h2, h3, h4, h5⟩ | h
  · exact .inl ⟨10, by simp, fun w => decode_short s w h⟩
  · exact .inl ⟨11, by simp, fun w => decode_long s w h hm⟩
  · exact .inl ⟨12, by simp, fun w => decode_sum s w h1 h2 h3⟩
  · exact .inl ⟨14, by simp, fun w => decode_vl s p w h1 h2⟩
  · exact .inl ⟨14, by simp, fun w => decode_of s p w h1 h2 h3 h4⟩
  · exact .inl ⟨13, by simp, fun w => decode_other s p k w h1 h2 h3 h4 h5⟩
  · exact .inr h

theorem isVL_bounds {m : M6} (h : m.isVL = true) : 1 ≤ num m.e m.f ∧ num m.e m.f ≤ 65535 := by
  have := num_lt m.e m.f
  unfold M6.isVL at h
  simp at h
  omega
theorem isEnd_bounds {m : M6} {k : Nat} (h : m.isEnd k = true) : num m.d m.e ≤ 4095 := by
  unfold M6.isEnd at h
  simp at h
  omega

/-- What is decoded is encoded as the same bytes. -/
theorem frame_again (s : ByteArray) (p : Pt) (k : Nat) (h : IsFrame s p k) : PitotEther.bytes (num p.a.e p.a.f) (num p.b.d p.b.e) k p.q.toNat p.d = s.data.toList := by
  have hs := h.opens.size
  have hl : s.data.toList.length = p.d.length + 19 := by simpa using hs
  refine again s.data.toList p.a p.b k p.d p.q h.net h.opens.opened h.vl h.src h.opens.lo ?_
  have ht : (s.extract 0 (p.d.length + 15)).data.toList = p.txt.data.toList := by rw [h.opens.txt]
  rw [Cr.extract_list, List.drop_zero, Pt.txt_list] at ht
  rw [hl, show p.d.length + 19 - 4 = p.d.length + 15 by omega, ht]
  simp [Pt.list, Pt.behind, h.kind.1, h.kind.2]

theorem encode_again (s : ByteArray) (p : Pt) (k : Nat) (w : World) (h : IsFrame s p k) :
    Calls Try.prog 10 #[fr (num p.a.e p.a.f : Nat) (num p.b.d p.b.e : Nat) k p.q.toNat ⟨p.d.toArray⟩] w fun e w' => e = .returned (.tuple #[.string s, .int .i64 0]) ∧ Below w.heap.size w w' := by
  have hv := isVL_bounds h.vl
  have he := isEnd_bounds h.src
  have hq := p.q.toNat_lt
  refine (encode_ok _ _ k p.q.toNat p.d w hv.1 hv.2 he h.net (by omega) h.opens.hi).mono fun e w' ⟨h1, h2⟩ => ⟨?_, h2⟩
  rw [h1, frame_again s p k h]

/-- What was encoded is bytes of a frame. -/
def partsOf (v n k q : Nat) (d : List UInt8) : Pt := ⟨⟨3, 0, 0, 0, hi v, lo v⟩, ⟨2, 0, 0, hi n, lo n, lo (32 * (k + 1))⟩, 8, 0, pad d, lo q⟩
theorem parts_list (v n k q : Nat) (d : List UInt8) : (partsOf v n k q d).list = body v n k q d := by
  simp [partsOf, Pt.list, Pt.behind, body, PitotEther.ahead, M6.bytes]
theorem encoded_frame (v n k q : Nat) (d : List UInt8) (h1 : 1 ≤ v) (h2 : v ≤ 65535) (h3 : n ≤ 4095) (h4 : k ≤ 1) (hd : d.length ≤ 1499) :
    IsFrame ⟨(PitotEther.bytes v n k q d).toArray⟩ (partsOf v n k q d) k := by
  have hp : (partsOf v n k q d).d.length = max d.length 45 := pad_length d
  refine ⟨⟨?_, by omega, by omega, ?_, ?_⟩, link_isVL v h1 h2, h4, src_isEnd n k h3 h4, rfl, rfl⟩
  · show (PitotEther.bytes v n k q d).toArray.size = _
    rw [hp]; simp [bytes_length]
  · simp [bytes_opened]
  · apply ba_ext
    rw [Cr.extract_list, List.drop_zero, hp]
    simp [bytes_take, parts_list]
theorem decode_encoded (v n k q : Nat) (d : List UInt8) (w : World) (h1 : 1 ≤ v) (h2 : v ≤ 65535) (h3 : n ≤ 4095) (h4 : k ≤ 1) (hq : q ≤ 255) (hd : d.length ≤ 1499) :
    Calls Try.prog 14 #[.string ⟨(PitotEther.bytes v n k q d).toArray⟩] w fun e w' => e = .returned (.tuple #[fr v n k q ⟨(pad d).toArray⟩, .int .i64 0]) ∧ Below w.heap.size w w' := by
  refine (decode_frame _ _ k w (encoded_frame v n k q d h1 h2 h3 h4 hd)).mono fun e w' ⟨he, hb⟩ => ⟨?_, hb⟩
  rw [he]
  have e1 : num (partsOf v n k q d).a.e (partsOf v n k q d).a.f = v := num_hi_lo v (by omega)
  have e2 : num (partsOf v n k q d).b.d (partsOf v n k q d).b.e = n := num_hi_lo n (by omega)
  have e3 : (partsOf v n k q d).q.toNat = q := by show (lo q).toNat = q; rw [lo_nat]; omega
  rw [e1, e2, e3]
  rfl

/-- Look at bytes that are a frame. -/
theorem frame_front (s : ByteArray) (p : Pt) (h : Opens s p) : s.extract 0 12 = ⟨(p.a.bytes ++ p.b.bytes).toArray⟩ := by
  have ht : (s.extract 0 (p.d.length + 15)).data.toList = p.txt.data.toList := by rw [h.txt]
  rw [Cr.extract_list, List.drop_zero, Pt.txt_list] at ht
  refine front12 s p.a p.b (p.behind ++ s.data.toList.drop (p.d.length + 15)) ?_
  have := List.take_append_drop (p.d.length + 15) s.data.toList
  rw [ht] at this
  refine this.symm.trans ?_
  simp [Pt.list]
theorem look_frame (s : ByteArray) (p : Pt) (k : Nat) (w : World) (h : IsFrame s p k) :
    Calls Try.prog 16 #[.string s] w fun e w' => e = .returned (.tuple #[.int .i64 (num p.a.e p.a.f : Nat), .int .i64 0]) ∧ Below w.heap.size w w' :=
  look_of s _ _ _ _ w fun w => ends_ok s p.a p.b w (by have := h.opens.size; omega) (by have := h.opens.size; have := h.opens.hi; omega) (frame_front s p h.opens) h.vl k h.net h.src
theorem look_encoded (v n k q : Nat) (d : List UInt8) (w : World) (h1 : 1 ≤ v) (h2 : v ≤ 65535) (h3 : n ≤ 4095) (h4 : k ≤ 1) (hd : d.length ≤ 1499) :
    Calls Try.prog 16 #[.string ⟨(PitotEther.bytes v n k q d).toArray⟩] w fun e w' => e = .returned (.tuple #[.int .i64 v, .int .i64 0]) ∧ Below w.heap.size w w' := by
  refine (look_frame _ _ k w (encoded_frame v n k q d h1 h2 h3 h4 hd)).mono fun e w' ⟨he, hb⟩ => ⟨?_, hb⟩
  rw [he]
  have e1 : num (partsOf v n k q d).a.e (partsOf v n k q d).a.f = v := num_hi_lo v (by omega)
  rw [e1]

set_option maxRecDepth 100000 in
set_option maxHeartbeats 1000000 in
theorem awake_any (w : World) : Calls Try.prog 9 #[] w fun e w' => e = .returned (.bool true) ∧ Below w.heap.size w w' := by
  have h10 := fun w => encode_ok 1 2 0 3 [] w (by omega) (by omega) (by omega) (by omega) (by omega) (by simp)
  have hl := bytes_length 1 2 0 3 []
  have e0 : ((3 : Nat) : Int) = 3 := rfl
  have e1 : ((1 : Nat) : Int) = 1 := rfl
  have e2 : ((2 : Nat) : Int) = 2 := rfl
  have e3 : ((0 : Nat) : Int) = 0 := rfl
  have e4 : (⟨([] : List UInt8).toArray⟩ : ByteArray) = ⟨#[]⟩ := rfl
  rw [e4, e0, e1, e2, e3] at h10
  clear e0 e1 e2 e3 e4
  obtain ⟨R, HR⟩ : ∃ R : ByteArray, Hid (R = ⟨(PitotEther.bytes 1 2 0 3 []).toArray⟩) := ⟨_, rfl⟩
  rw [← HR.out] at h10
  have hR : R.size = 64 := by rw [HR.out]; show (PitotEther.bytes 1 2 0 3 []).toArray.size = _; simp [hl]
  have h14 := fun w => decode_short ⟨#[115, 104, 111, 114, 116]⟩ w (by show (5 : Nat) < 64; omega)
  have h45 := fun w => size_any 45 w (by omega)
  have h46 := fun w => size_any 46 w (by omega)
  have s45 : sz 45 = 64 := rfl
  have s46 : sz 46 = 65 := rfl
  rw [s45] at h45
  rw [s46] at h46
  clear s45 s46 hl
  have H10 := Lib.hid h10; clear h10
  have H14 := Lib.hid h14; clear h14
  have H45 := Lib.hid h45; clear h45
  have H46 := Lib.hid h46; clear h46
  go_enter Try.func9, Try.ntmps9
  go_wp2_with (first
    | (go_at_call 10; (with_reducible refine (H10.out _).mono ?_); rintro e w1 ⟨rfl, hb1⟩)
    | (go_at_call 14; (with_reducible refine (H14.out _).mono ?_); rintro e w2 ⟨rfl, hb2⟩)
    | (go_at_call 12; (with_reducible refine (H45.out _).mono ?_); rintro e w3 ⟨rfl, rfl⟩)
    | (go_at_call 12; (with_reducible refine (H46.out _).mono ?_); rintro e w4 ⟨rfl, rfl⟩))
  go_returns
  have k2 := hb1.trans (hb2.mono hb1.size)
  exact ⟨rfl, k2.alloc k2.size _⟩
end Go.Proofs.Ythlpehiloabfiaa
