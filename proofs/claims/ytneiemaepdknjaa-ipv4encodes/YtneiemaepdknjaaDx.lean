/- What Decode answers to any bytes; the chapter's examples (awake). -/
import Derived.Test.YtneiemaepdknjaaDk
import Derived.Test.YtneiemaepdknjaaDf1
import Derived.Test.YtneiemaepdknjaaDf2
import Derived.Test.YtneiemaepdknjaaDs
import Derived.Test.YtneiemaepdknjaaDm
namespace Go.Proofs.Ytneiemaepdknjaa
open Go.RowKit Go.Proofs.PitotIp
open Go.Proofs.Ytneiemaepdknjaa.Bi (lies_lt lies_cell lies_frozen lies_alloc)

theorem ba_ext {s : ByteArray} {l : List UInt8} (h : s.data.toList = l) : s = ⟨l.toArray⟩ := by
  apply ByteArray.ext
  rw [← Array.toList_inj, h]
theorem extract_list (s : ByteArray) (i j : Nat) : (s.extract i j).data.toList = (s.data.toList.take j).drop i := by
  simp [ByteArray.data_extract, List.drop_take]
theorem size_toList (s : ByteArray) : s.size = s.data.toList.length := by simp

/-- The bytes 0 to 19 of a text. -/
structure Front (s : ByteArray) (h : H20) (t : List UInt8) : Prop where
  e : s.data.toList = h.list ++ t
theorem Front.size {s : ByteArray} {h : H20} {t : List UInt8} (f : Front s h t) : s.size = 20 + t.length := by rw [size_toList, f.e, List.length_append, h.list_length]
theorem Front.all {s : ByteArray} {h : H20} {t : List UInt8} (f : Front s h t) : s.extract 0 20 = ⟨h.list.toArray⟩ := by
  apply ba_ext
  rw [extract_list, f.e, List.drop_zero, List.take_append_of_le_length (by rw [h.list_length]; omega), List.take_of_length_le (by rw [h.list_length]; omega)]
theorem Front.front {s : ByteArray} {h : H20} {t : List UInt8} (f : Front s h t) : s.extract 0 10 = ⟨h.front.toArray⟩ := by
  apply ba_ext
  rw [extract_list, f.e, List.drop_zero]
  rfl
theorem Front.back {s : ByteArray} {h : H20} {t : List UInt8} (f : Front s h t) : s.extract 12 20 = ⟨h.back.toArray⟩ := by
  apply ba_ext
  rw [extract_list, f.e]
  rfl
theorem Front.rest {s : ByteArray} {h : H20} {t : List UInt8} (f : Front s h t) (n : Nat) (hn : 20 ≤ n) : s.extract 20 n = ⟨(t.take (n - 20)).toArray⟩ := by
  apply ba_ext
  rw [extract_list, f.e, List.take_append, h.list_length, List.take_of_length_le (by rw [h.list_length]; exact hn), List.drop_append, h.list_length, List.drop_of_length_le (by rw [h.list_length]; omega)]
  simp
theorem Front.of (s : ByteArray) (hs : 20 ≤ s.size) : ∃ h t, Front s h t := by
  obtain ⟨h, t, e⟩ := H20.of s.data.toList (by rw [← size_toList]; exact hs)
  exact ⟨h, t, ⟨e⟩⟩

theorem ones_is (h : H20) : OnesIs (⟨h.front.toArray⟩ ++ ⟨#[0, 0]⟩ ++ ⟨h.back.toArray⟩) (h.sum : Nat) := fun w => by
  have e : ((⟨h.front.toArray⟩ : ByteArray) ++ ⟨#[0, 0]⟩ ++ ⟨h.back.toArray⟩).data.toList = h.bare := by simp [H20.bare]
  have h1 := Bi.ones_any (⟨h.front.toArray⟩ ++ ⟨#[0, 0]⟩ ++ ⟨h.back.toArray⟩) w (by rw [size_toList, e, h.bare_length]; omega)
  rw [e] at h1
  exact h1

/-- The packet that a head says, with its Data. -/
abbrev hq (h : H20) (d : ByteArray) : Value := pk (PitotAddr.num h.i1 h.i0 : Nat) (decide (8192 ≤ h.part)) (h.part % 8192 : Nat) h.t.toNat h.r.toNat h.src h.dst d

/-- Why there is no packet; 0: there is one. -/
def derr (h : H20) (t : List UInt8) : Int :=
  if h.k ≠ 69 then 13 else if h.z ≠ 0 ∨ h.all < 20 ∨ 16384 ≤ h.part then 15 else if PitotAddr.num h.s1 h.s0 ≠ h.sum then 12 else if 20 + t.length < h.all then 10 else 0

theorem derr_zero (h : H20) (t : List UInt8) (e : derr h t = 0) : h.Good ∧ h.all ≤ 20 + t.length := by
  unfold derr at e
  split at e
  · cases e
  · split at e
    · cases e
    · split at e
      · cases e
      · split at e
        · cases e
        · rename_i a b c d
          refine ⟨⟨by simpa using a, ?_, ?_, ?_, by simpa using c⟩, by omega⟩
          · by_cases hz : h.z = 0
            · exact hz
            · exact absurd (.inl hz) b
          · omega
          · omega
theorem good_derr (h : H20) (t : List UInt8) (g : h.Good) (hl : h.all ≤ 20 + t.length) : derr h t = 0 := by
  unfold derr
  have h1 := g.all
  have h2 := g.part
  rw [if_neg (by simp [g.k]), if_neg (by simp [g.z]; omega), if_neg (by simp [g.sum]), if_neg (by omega)]
theorem derr_range (h : H20) (t : List UInt8) : derr h t = 0 ∨ derr h t = 10 ∨ derr h t = 12 ∨ derr h t = 13 ∨ derr h t = 15 := by
  unfold derr
  split
  · simp
  · split
    · simp
    · split
      · simp
      · split <;> simp

theorem byte_int {c d : UInt8} (h : c ≠ d) : (c.toNat : Int) ≠ (d.toNat : Int) := fun e => h (UInt8.toNat_inj.1 (by exact_mod_cast e))

theorem head_is (h : H20) : HeadIs ⟨h.list.toArray⟩ (hpk h) (hhd h) := fun w => readHead_any h w

/-- Decode of bytes that are no packet. -/
theorem dec_bad (s : ByteArray) (h : H20) (t : List UInt8) (f : Front s h t) (hm : t.length ≤ 100000) (he : derr h t ≠ 0) (w : World) :
    Calls Try.prog 13 #[.string s] w fun e w' => e = .returned (.tuple #[pk0, .int .i64 (derr h t)]) ∧ Below w.heap.size w w' := by
  have hsz : 20 ≤ s.size := by rw [f.size]; omega
  have hmm : s.size ≤ 200000 := by rw [f.size]; omega
  have hH := head_is h
  unfold derr at he ⊢
  by_cases c1 : h.k ≠ 69
  · rw [if_pos c1]
    exact decode_kind s _ _ _ _ _ _ _ _ _ _ _ _ _ _ w hsz hmm f.all hH (by have := byte_int c1; exact this)
  · rw [if_neg c1] at he ⊢
    have ek : (h.k.toNat : Int) = 69 := by rw [Classical.not_not.1 c1]; rfl
    unfold hhd at hH
    rw [ek] at hH
    by_cases c2 : h.z ≠ 0 ∨ h.all < 20 ∨ 16384 ≤ h.part
    · rw [if_pos c2]
      by_cases d1 : h.z ≠ 0
      · exact decode_z s _ _ _ _ _ _ _ _ _ _ _ _ _ w hsz hmm f.all hH (by have := byte_int d1; exact this)
      · have ez : (h.z.toNat : Int) = 0 := by rw [Classical.not_not.1 d1]; rfl
        rw [ez] at hH
        have hp := PitotAddr.num_lt h.p1 h.p0
        by_cases d2 : 32768 ≤ h.part
        · exact decode_a s _ _ _ _ _ _ _ _ _ _ _ _ w hsz hmm f.all hH (by unfold H20.part at d2; omega)
        · have ea : ((PitotAddr.num h.p1 h.p0 / 32768 : Nat) : Int) = 0 := by unfold H20.part at d2; omega
          rw [ea] at hH
          by_cases d3 : 16384 ≤ h.part
          · exact decode_b s _ _ _ _ _ _ _ _ _ _ _ w hsz hmm f.all hH (by unfold H20.part at d2 d3; omega)
          · have eb : ((PitotAddr.num h.p1 h.p0 / 16384 % 2 : Nat) : Int) = 0 := by unfold H20.part at d2 d3; omega
            rw [eb] at hH
            have dn : h.all < 20 := by
              rcases c2 with c | c | c
              · exact absurd c d1
              · exact c
              · exact absurd c d3
            exact decode_n s _ _ _ _ _ _ _ _ _ _ w hsz hmm f.all hH dn
    · rw [if_neg c2] at he ⊢
      have d1 : h.z = 0 := by
        by_cases hz : h.z = 0
        · exact hz
        · exact absurd (.inl hz) c2
      have ez : (h.z.toNat : Int) = 0 := by rw [d1]; rfl
      have hp : h.part < 16384 := by omega
      have ha : 20 ≤ h.all := by omega
      have ea : ((PitotAddr.num h.p1 h.p0 / 32768 : Nat) : Int) = 0 := by unfold H20.part at hp; omega
      have eb : ((PitotAddr.num h.p1 h.p0 / 16384 % 2 : Nat) : Int) = 0 := by unfold H20.part at hp; omega
      rw [ez, ea, eb] at hH
      by_cases c3 : PitotAddr.num h.s1 h.s0 ≠ h.sum
      · rw [if_pos c3]
        exact decode_sum s _ _ _ _ _ _ _ _ _ _ _ _ _ w hsz hmm f.all hH f.front f.back rfl rfl (ones_is h) ha (by exact_mod_cast c3)
      · rw [if_neg c3] at he ⊢
        by_cases c4 : 20 + t.length < h.all
        · rw [if_pos c4]
          exact decode_miss s _ _ _ _ _ _ _ _ _ _ _ _ _ w hsz hmm f.all hH f.front f.back rfl rfl (ones_is h) ha (by exact_mod_cast Classical.not_not.1 c3) (by rw [f.size]; exact c4)
        · rw [if_neg c4] at he
          exact absurd rfl he

/-- Decode of bytes that begin with a packet. -/
theorem dec_good (s : ByteArray) (h : H20) (t : List UInt8) (f : Front s h t) (hm : t.length ≤ 100000) (g : h.Good) (hl : h.all ≤ 20 + t.length) (w : World) :
    Calls Try.prog 13 #[.string s] w fun e w' => e = .returned (.tuple #[hq h ⟨(t.take (h.all - 20)).toArray⟩, .int .i64 0]) ∧ Below w.heap.size w w' := by
  have hsz : 20 ≤ s.size := by rw [f.size]; omega
  have hmm : s.size ≤ 200000 := by rw [f.size]; omega
  have hH := head_is h
  have ek : (h.k.toNat : Int) = 69 := by rw [g.k]; rfl
  have ez : (h.z.toNat : Int) = 0 := by rw [g.z]; rfl
  have hp := g.part
  have ea : ((PitotAddr.num h.p1 h.p0 / 32768 : Nat) : Int) = 0 := by unfold H20.part at hp; omega
  have eb : ((PitotAddr.num h.p1 h.p0 / 16384 % 2 : Nat) : Int) = 0 := by unfold H20.part at hp; omega
  have em : (((PitotAddr.num h.p1 h.p0 / 8192 % 2 : Nat) : Int) == 1) = decide (8192 ≤ h.part) := by
    unfold H20.part at hp ⊢
    by_cases c : 8192 ≤ PitotAddr.num h.p1 h.p0
    · rw [decide_eq_true c, show PitotAddr.num h.p1 h.p0 / 8192 % 2 = 1 by omega]; rfl
    · rw [decide_eq_false c, show PitotAddr.num h.p1 h.p0 / 8192 % 2 = 0 by omega]; rfl
  unfold hhd hpk at hH
  rw [ek, ez, ea, eb, em] at hH
  exact decode_yes s _ _ _ _ _ _ _ _ _ _ _ _ _ w _ hsz hmm f.all hH f.front f.back rfl rfl (ones_is h) g.all (by exact_mod_cast g.sum) (by rw [f.size]; exact hl) (f.rest _ g.all)

/-- Decode answers an error and no packet, or the packet of a head that is taken. -/
theorem dec_cases (s : ByteArray) (hs : s.size ≤ 100000) :
    (∃ c : Int, c ≠ 0 ∧ ∀ w, Calls Try.prog 13 #[.string s] w fun e w' => e = .returned (.tuple #[pk0, .int .i64 c]) ∧ Below w.heap.size w w') ∨
    (∃ h t, Front s h t ∧ h.Good ∧ h.all ≤ 20 + t.length) := by
  by_cases hsz : s.size < 20
  · exact .inl ⟨10, by omega, fun w => decode_short s w hsz⟩
  · obtain ⟨h, t, f⟩ := Front.of s (by omega)
    have hz := f.size
    by_cases e : derr h t = 0
    · obtain ⟨g, hl⟩ := derr_zero h t e
      exact .inr ⟨h, t, f, g, hl⟩
    · exact .inl ⟨_, e, fun w => dec_bad s h t f (by omega) e w⟩

set_option maxRecDepth 100000 in
set_option maxHeartbeats 1000000 in
theorem awake_any (w : World) : Calls Try.prog 9 #[] w fun e w' => e = .returned (.bool true) ∧ Below w.heap.size w w' := by
  obtain ⟨B, HB⟩ : ∃ B, Hid (B = outB 7 false 0 0 0 q0 q0 ⟨#[]⟩) := ⟨_, rfl⟩
  have hB : B.size = 20 := by rw [HB.out, outB_size]; rfl
  have H1 : ∀ w, Calls Try.prog 10 #[pk 7 false 0 0 0 q0 q0 ⟨#[]⟩] w fun e w' => e = .returned (.tuple #[.string B, .int .i64 0]) ∧ Below w.heap.size w w' := fun w => by
    rw [HB.out]; exact encode_ok 7 false 0 0 0 q0 q0 ⟨#[]⟩ w ⟨by omega, by omega, by omega, by omega, by show (0 : Nat) ≤ _; omega⟩
  have H2 : ∀ w, Calls Try.prog 13 #[.string ⟨#[49, 50, 51, 52, 53, 54, 55, 56, 57, 48, 49, 50, 51, 52, 53, 54, 55, 56, 57]⟩] w fun e w' => e = .returned (.tuple #[pk0, .int .i64 10]) ∧ Below w.heap.size w w' := fun w => decode_short _ w (by show (19 : Nat) < 20; omega)
  have H1 := Lib.hid H1; have H2 := Lib.hid H2
  go_enter Try.func9, Try.ntmps9
  go_wp2_with (first
    | (go_at_call 10; (refine (H1.out _).mono ?_); rintro e w1 ⟨rfl, hb1⟩)
    | (go_at_call 13; (refine (H2.out _).mono ?_); rintro e w2 ⟨rfl, hb2⟩))
  go_returns
  have k1 := hb1.trans (hb2.mono hb1.size)
  exact ⟨rfl, k1.alloc k1.size _⟩
end Go.Proofs.Ytneiemaepdknjaa
