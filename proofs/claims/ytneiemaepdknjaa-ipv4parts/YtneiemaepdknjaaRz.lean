/- What the program's and the document's Decode answer, both. -/
import Derived.Test.YtneiemaepdknjaaRs
import Derived.Test.YtneiemaepdknjaaRy
namespace Go.Proofs.Ytneiemaepdknjaa
open Go.RowKit Go.Proofs.PitotIp

theorem Front.idx {s : ByteArray} {h : H20} {t : List UInt8} (f : Front s h t) (hs : s.size ≤ 200000) (j : Nat) (hj : j < 20) (x : UInt8) (hx : h.list[j]? = some x) : IdxIs s j x.toNat := fun w => by
  refine index_at s x j (by rw [f.size]; omega) (by omega) ?_ w
  rw [f.e, List.getElem?_append_left (by rw [h.list_length]; exact hj), hx]

theorem Front.from {s : ByteArray} {h : H20} {t : List UInt8} (f : Front s h t) (hs : s.size ≤ 200000) (j : Nat) (x y : UInt8) (l : List UInt8) (hd : h.list.drop j = x :: y :: l) (hj : j ≤ 20) : TwoIs (s.extract j s.size) (PitotAddr.num x y : Nat) := fun w => by
  refine two_any _ x y (l ++ t) ?_ (by rw [ByteArray.size_extract]; omega) w
  rw [extract_list, List.take_of_length_le (by rw [← size_toList]; omega), f.e, List.drop_append, h.list_length, hd, show j - 20 = 0 by omega]
  rfl
theorem Front.part {s : ByteArray} {h : H20} {t : List UInt8} (f : Front s h t) : s.extract 12 16 = ipB h.src ∧ s.extract 16 20 = ipB h.dst := by
  refine ⟨?_, ?_⟩
  · apply ba_ext
    rw [extract_list, f.e]
    rfl
  · apply ba_ext
    rw [extract_list, f.e]
    rfl

theorem refOnes_is (h : H20) : RefOnesIs (⟨h.front.toArray⟩ ++ ⟨#[0, 0]⟩ ++ ⟨h.back.toArray⟩) (h.sum : Nat) := fun w => by
  have e : ((⟨h.front.toArray⟩ : ByteArray) ++ ⟨#[0, 0]⟩ ++ ⟨h.back.toArray⟩).data.toList = h.bare := by simp [H20.bare]
  have h1 := Bi.refOnes_any (⟨h.front.toArray⟩ ++ ⟨#[0, 0]⟩ ++ ⟨h.back.toArray⟩) w (by rw [size_toList, e, h.bare_length]; omega)
  rw [e] at h1
  exact h1

/-- The document's Decode of bytes that are no packet. -/
theorem ref_bad (s : ByteArray) (h : H20) (t : List UInt8) (f : Front s h t) (hm : t.length ≤ 100000) (he : derr h t ≠ 0) (w : World) :
    Calls Try.prog 14 #[.string s] w fun e w' => e = .returned (.tuple #[rp0, .int .i64 (derr h t)]) ∧ Below w.heap.size w w' := by
  have hsz : 20 ≤ s.size := by rw [f.size]; omega
  have hmm : s.size ≤ 200000 := by rw [f.size]; omega
  have i0 : IdxIs s 0 h.k.toNat := f.idx hmm 0 (by omega) h.k rfl
  have i1 : IdxIs s 1 h.z.toNat := f.idx hmm 1 (by omega) h.z rfl
  have h2 : TwoIs (s.extract 2 s.size) (h.all : Nat) := f.from hmm 2 h.n1 h.n0 _ rfl (by omega)
  have h6 : TwoIs (s.extract 6 s.size) (h.part : Nat) := f.from hmm 6 h.p1 h.p0 _ rfl (by omega)
  have h10 : TwoIs (s.extract 10 s.size) (PitotAddr.num h.s1 h.s0 : Nat) := f.from hmm 10 h.s1 h.s0 _ rfl (by omega)
  unfold derr at he ⊢
  by_cases c1 : h.k ≠ 69
  · rw [if_pos c1]
    exact refdec_kind s _ w hsz hmm i0 (by have := byte_int c1; exact this)
  · rw [if_neg c1] at he ⊢
    have ek : (h.k.toNat : Int) = 69 := by rw [Classical.not_not.1 c1]; rfl
    rw [ek] at i0
    by_cases c2 : h.z ≠ 0 ∨ h.all < 20 ∨ 16384 ≤ h.part
    · rw [if_pos c2]
      by_cases d1 : h.z ≠ 0
      · exact refdec_z s _ _ _ _ _ w hsz hmm i0 i1 rfl rfl h2 h6 (by have := byte_int d1; exact this)
      · have ez : (h.z.toNat : Int) = 0 := by rw [Classical.not_not.1 d1]; rfl
        rw [ez] at i1
        by_cases d2 : h.all < 20
        · exact refdec_n s _ _ _ _ w hsz hmm i0 i1 rfl rfl h2 h6 d2
        · have d3 : 16384 ≤ h.part := by
            rcases c2 with c | c | c
            · exact absurd c d1
            · exact absurd c d2
            · exact c
          exact refdec_p s _ _ _ _ w hsz hmm i0 i1 rfl rfl h2 h6 (by omega) d3
    · rw [if_neg c2] at he ⊢
      have d1 : h.z = 0 := by
        by_cases hz : h.z = 0
        · exact hz
        · exact absurd (.inl hz) c2
      have ez : (h.z.toNat : Int) = 0 := by rw [d1]; rfl
      rw [ez] at i1
      have hp : h.part < 16384 := by omega
      have ha : 20 ≤ h.all := by omega
      by_cases c3 : PitotAddr.num h.s1 h.s0 ≠ h.sum
      · rw [if_pos c3]
        exact refdec_sum s _ _ _ _ _ _ _ _ _ w hsz hmm i0 i1 rfl rfl h2 h6 ha hp rfl f.front f.back rfl rfl h10 (refOnes_is h) (by exact_mod_cast c3)
      · rw [if_neg c3] at he ⊢
        by_cases c4 : 20 + t.length < h.all
        · rw [if_pos c4]
          exact refdec_miss s _ _ _ _ _ _ _ _ _ w hsz hmm i0 i1 rfl rfl h2 h6 ha hp rfl f.front f.back rfl rfl h10 (refOnes_is h) (by exact_mod_cast Classical.not_not.1 c3) (by rw [f.size]; exact c4)
        · rw [if_neg c4] at he
          exact absurd rfl he

/-- The document's Decode of bytes that begin with a packet. -/
theorem ref_good (s : ByteArray) (h : H20) (t : List UInt8) (f : Front s h t) (hm : t.length ≤ 100000) (g : h.Good) (hl : h.all ≤ 20 + t.length) (w : World) :
    Calls Try.prog 14 #[.string s] w fun e w' => e = .returned (.tuple #[rp (PitotAddr.num h.i1 h.i0 : Nat) (decide (8192 ≤ h.part)) (h.part % 8192 : Nat) h.t.toNat h.r.toNat (ipB h.src) (ipB h.dst) ⟨(t.take (h.all - 20)).toArray⟩, .int .i64 0]) ∧ Below w.heap.size w w' := by
  have hsz : 20 ≤ s.size := by rw [f.size]; omega
  have hmm : s.size ≤ 200000 := by rw [f.size]; omega
  have i0 : IdxIs s 0 h.k.toNat := f.idx hmm 0 (by omega) h.k rfl
  have i1 : IdxIs s 1 h.z.toNat := f.idx hmm 1 (by omega) h.z rfl
  have i8 : IdxIs s 8 h.t.toNat := f.idx hmm 8 (by omega) h.t rfl
  have i9 : IdxIs s 9 h.r.toNat := f.idx hmm 9 (by omega) h.r rfl
  have h2 : TwoIs (s.extract 2 s.size) (h.all : Nat) := f.from hmm 2 h.n1 h.n0 _ rfl (by omega)
  have h4 : TwoIs (s.extract 4 s.size) (PitotAddr.num h.i1 h.i0 : Nat) := f.from hmm 4 h.i1 h.i0 _ rfl (by omega)
  have h6 : TwoIs (s.extract 6 s.size) (h.part : Nat) := f.from hmm 6 h.p1 h.p0 _ rfl (by omega)
  have h10 : TwoIs (s.extract 10 s.size) (PitotAddr.num h.s1 h.s0 : Nat) := f.from hmm 10 h.s1 h.s0 _ rfl (by omega)
  have ek : (h.k.toNat : Int) = 69 := by rw [g.k]; rfl
  have ez : (h.z.toNat : Int) = 0 := by rw [g.z]; rfl
  rw [ek] at i0
  rw [ez] at i1
  have ht := h.t.toNat_lt
  have hr := h.r.toNat_lt
  have e := refdec_yes s _ _ _ _ _ _ _ _ _ _ _ _ _ _ _ _ w hsz hmm i0 i1 rfl rfl h2 h6 g.all g.part rfl f.front f.back rfl rfl h10 (refOnes_is h) (by exact_mod_cast g.sum) (by rw [f.size]; exact hl) rfl h4 i8 i9 (IntWalk.i64_in _ (by omega)) (IntWalk.i64_in _ (by omega)) (by rw [IntWalk.rem_in _ _ (by omega)]; omega) f.part.1 f.part.2 (f.rest _ g.all)
  have em : decide (8192 ≤ (h.part : Int)) = decide (8192 ≤ h.part) := by
    by_cases c : 8192 ≤ h.part
    · rw [decide_eq_true c, decide_eq_true (by omega)]
    · rw [decide_eq_false c, decide_eq_false (by omega)]
  rw [em] at e
  exact e

/-- Both Decodes answer the same packet, as Plain has it, and the same error. -/
theorem dec_both (s : ByteArray) (hs : s.size ≤ 100000) :
    ∃ (i : Int) (m : Bool) (o t p : Int) (a b : Q4) (d : ByteArray) (A B : ByteArray) (e : Int) (z : Bool), z = (e != 0) ∧
      (∀ w, Calls Try.prog 13 #[.string s] w fun r w' => r = .returned (.tuple #[pk i m o t p a b d, .int .i64 e]) ∧ Below w.heap.size w w') ∧
      (∀ w, Calls Try.prog 14 #[.string s] w fun r w' => r = .returned (.tuple #[rp i m o t p A B d, .int .i64 e]) ∧ Below w.heap.size w w') ∧
      (∀ w, Calls Try.prog 12 #[pk i m o t p a b d, .bool z] w fun r w' => r = .returned (rp i m o t p A B d) ∧ Below w.heap.size w w') := by
  by_cases hsz : s.size < 20
  · exact ⟨0, false, 0, 0, 0, q0, q0, ⟨#[]⟩, ⟨#[]⟩, ⟨#[]⟩, 10, true, rfl, fun w => decode_short s w hsz, fun w => refdec_short s w hsz, fun w => plain_true 0 false 0 0 0 q0 q0 ⟨#[]⟩ w rfl rfl⟩
  · obtain ⟨h, t, f⟩ := Front.of s (by omega)
    have hz := f.size
    by_cases e : derr h t = 0
    · obtain ⟨g, hl⟩ := derr_zero h t e
      exact ⟨_, _, _, _, _, _, _, _, _, _, 0, false, rfl, fun w => dec_good s h t f (by omega) g hl w, fun w => ref_good s h t f (by omega) g hl w, fun w => plain_false _ _ _ _ _ _ _ _ w⟩
    · exact ⟨0, false, 0, 0, 0, q0, q0, ⟨#[]⟩, ⟨#[]⟩, ⟨#[]⟩, derr h t, true, by simp [e], fun w => dec_bad s h t f (by omega) e w, fun w => ref_bad s h t f (by omega) e w, fun w => plain_true 0 false 0 0 0 q0 q0 ⟨#[]⟩ w rfl rfl⟩
end Go.Proofs.Ytneiemaepdknjaa
