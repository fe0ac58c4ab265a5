/- Contracts of the document's Encode and of the law's plain; both Encodes answer the same. -/
import Derived.Test.YtcljlaiafgbfkaaEc
namespace Go.Proofs.Ytcljlaiafgbfkaa
open Go.RowKit Go.Proofs.PitotIcmp
open Go.Proofs.PitotAddr (hi lo)
open Go.Proofs.Ytcljlaiafgbfkaa.Bi (WrAt putStep u8_any u16_any text_any lies_lt lies_cell lies_frozen lies_alloc)

abbrev NumIs (n : Int) (B : ByteArray) : Prop := ∀ w, Calls Try.prog 11 #[.int .i64 n, .int .i64 2] w fun e w' => e = .returned (.string B) ∧ Below w.heap.size w w'
theorem num_two (n : Nat) (h : n < 65536) : NumIs n ⟨#[hi n, lo n]⟩ := fun w => by
  have := Bi.num_any n 2 w (by omega) (by omega)
  rw [be2] at this
  exact this

set_option maxHeartbeats 400000 in
theorem plain_any (a : Bool) (i q : Int) (s : ByteArray) (w : World) : Calls Try.prog 7 #[eo a i q s] w fun e w' => e = .returned (eo a i q s) ∧ Below w.heap.size w w' := by
  have k0 : Hid (Below w.heap.size w ((w.alloc (eoC a i q s)).alloc (roC a i q s))) := ((Below.refl _ w).alloc (Nat.le_refl _) _).alloc (by simp) _
  go_enter Try.func7, Try.ntmps7
  go_wp2
  go_returns
  first | exact ⟨rfl, k0.out⟩ | exact ⟨rfl, (Below.refl _ w).alloc (Nat.le_refl _) _⟩

set_option maxRecDepth 100000 in
set_option maxHeartbeats 4000000 in
theorem refenc_arg (a : Bool) (f t : Int) (s : ByteArray) (w : World) (h : ¬ ((0 ≤ f ∧ f ≤ 65535) ∧ (0 ≤ t ∧ t ≤ 65535))) :
    Calls Try.prog 6 #[eo a f t s] w fun e w' => e = .returned (.tuple #[.string ⟨#[]⟩, .int .i64 1]) ∧ Below w.heap.size w w' := by
  have h' : f < 0 ∨ (¬ f < 0 ∧ 65535 < f) ∨ (¬ f < 0 ∧ ¬ 65535 < f ∧ t < 0) ∨ (¬ f < 0 ∧ ¬ 65535 < f ∧ ¬ t < 0 ∧ 65535 < t) := by omega
  clear h
  have k0 : Hid (Below w.heap.size w (w.alloc (roC a f t s))) := (Below.refl _ w).alloc (Nat.le_refl _) _
  rcases h' with h1 | ⟨h1, h2⟩ | ⟨h1, h2, h3⟩ | ⟨h1, h2, h3, h4⟩
  all_goals
    go_enter Try.func6, Try.ntmps6
    go_wp2
    go_returns
    exact ⟨rfl, k0.out⟩

set_option maxRecDepth 100000 in
set_option maxHeartbeats 4000000 in
theorem refenc_long (a : Bool) (f t : Nat) (s : ByteArray) (w : World) (hf : f < 65536) (ht : t < 65536) (hs : 64 < s.size) (hm : s.size ≤ 9223372036854775807) :
    Calls Try.prog 6 #[eo a f t s] w fun e w' => e = .returned (.tuple #[.string ⟨#[]⟩, .int .i64 11]) ∧ Below w.heap.size w w' := by
  have k0 : Hid (Below w.heap.size w (w.alloc (roC a f t s))) := (Below.refl _ w).alloc (Nat.le_refl _) _
  go_enter Try.func6, Try.ntmps6
  go_wp2
  go_returns
  exact ⟨rfl, k0.out⟩

def kindB (a : Bool) : ByteArray := if a = true then ⟨#[0, 0]⟩ else ⟨#[8, 0]⟩

set_option maxRecDepth 100000 in
set_option maxHeartbeats 4000000 in
theorem refenc_core (a : Bool) (f t S : Nat) (s N1 N2 N4 M R T : ByteArray) (w : World) (hf : f < 65536) (ht : t < 65536) (hs : s.size ≤ 64) (z1 : N1.size = 2) (z2 : N2.size = 2) (z4 : N4.size = 2)
    (h1 : NumIs f N1) (h2 : NumIs t N2) (h4 : NumIs S N4) (hT : N1 ++ N2 ++ s = T) (zT : T.size ≤ 100) (hM : kindB a ++ ⟨#[0, 0]⟩ ++ T = M) (hR : kindB a ++ N4 ++ T = R)
    (h5 : ∀ w, Calls Try.prog 12 #[.string M] w fun e w' => e = .returned (.int .i64 S) ∧ Below w.heap.size w w') :
    Calls Try.prog 6 #[eo a f t s] w fun e w' => e = .returned (.tuple #[.string R, .int .i64 0]) ∧ Below w.heap.size w w' := by
  have H1 := Lib.hid h1; have H2 := Lib.hid h2; have H4 := Lib.hid h4; have H5 := Lib.hid h5
  clear h1 h2 h4 h5
  have HR := Lib.hid hR; have HM := Lib.hid hM; have HT := Lib.hid hT
  clear hR hM hT
  have L0 : Hid ((w.alloc (roC a f t s)).heap[w.heap.size]? = some (roC a f t s)) := heap_alloc_new w _
  have k0 : Hid (Below w.heap.size w (w.alloc (roC a f t s))) := (Below.refl _ w).alloc (Nat.le_refl _) _
  have n1 : ¬ 9223372036854775807 < N1.size + N2.size := by omega
  have n2 : ¬ 9223372036854775807 < N1.size + N2.size + s.size := by omega
  clear z1 z2
  have n3 : (⟨#[0, 0]⟩ : ByteArray).size = 2 := rfl
  have n4 : (⟨#[8, 0]⟩ : ByteArray).size = 2 := rfl
  cases a
  all_goals
    simp only [kindB, Bool.false_eq_true, if_false, if_true] at HM HR
    go_enter Try.func6, Try.ntmps6
    go_upto_region 8 with fail
    generalize w.alloc (roC _ f t s) = X at L0 k0 ⊢
    have L0 : Hid (X.drew.heap[w.heap.size]? = some (roC _ f t s)) := L0.out
    have k0 : Hid (Below w.heap.size w X.drew) := k0.out.drew
    go_cut [5] from 6 (fun s5 wc => s5 = .string T ∧ Below w.heap.size w wc)
    case first =>
      go_region_held3 (fun w' => w'.cell? ⟨w.heap.size, 1, none⟩ = some (.int .i64 f) ∧ w'.cell? ⟨w.heap.size, 2, none⟩ = some (.int .i64 t) ∧ w'.cell? ⟨w.heap.size, 3, none⟩ = some (.string s))
        (with_reducible exact (cells4 L0.out).2)
        (first
          | (go_at_call 11; (with_reducible refine (H1.out _).mono ?_); rintro r w1 ⟨rfl, hb⟩
             (have L0 : Hid (w1.heap[w.heap.size]? = some (roC _ f t s)) := lies_below L0.out hb (lies_lt L0.out))
             (have k0 : Hid (Below w.heap.size w w1) := k0.out.trans (hb.mono k0.out.size))
             (clear hb))
          | (go_at_call 11; (with_reducible refine (H2.out _).mono ?_); rintro r w2 ⟨rfl, hb⟩
             (have L0 : Hid (w2.heap[w.heap.size]? = some (roC _ f t s)) := lies_below L0.out hb (lies_lt L0.out))
             (have k0 : Hid (Below w.heap.size w w2) := k0.out.trans (hb.mono k0.out.size))
             (clear hb)))
      all_goals
        go_wp2
        go_meet
        case rel => exact ⟨by rw [HT.out], k0.out⟩
    case rest =>
      obtain ⟨rfl, kY⟩ := hcut
      have kY := Lib.hid kY
      have eM := HM.out
      have eR := HR.out
      clear n1 n2
      go_wp2_with (first
        | (go_at_call 12; (with_reducible refine (H5.out _).mono ?_); rintro r w4 ⟨rfl, hb4⟩)
        | (go_at_call 11; (with_reducible refine (H4.out _).mono ?_); rintro r w5 ⟨rfl, hb5⟩))
      go_returns
      have k4 := kY.out.trans (hb4.mono kY.out.size)
      exact ⟨rfl, k4.trans (hb5.mono k4.size)⟩

theorem refenc_ok (a : Bool) (i q : Nat) (s : ByteArray) (w : World) (hi' : i < 65536) (hq : q < 65536) (hs : s.size ≤ 64) :
    Calls Try.prog 6 #[eo a i q s] w fun e w' => e = .returned (.tuple #[.string (outB a i q s), .int .i64 0]) ∧ Below w.heap.size w w' := by
  obtain ⟨T, eT⟩ : ∃ T : ByteArray, ⟨#[hi i, lo i]⟩ ++ ⟨#[hi q, lo q]⟩ ++ s = T := ⟨_, rfl⟩
  obtain ⟨M, eM⟩ : ∃ M : ByteArray, kindB a ++ ⟨#[0, 0]⟩ ++ T = M := ⟨_, rfl⟩
  have lT : T.data.toList = [hi i, lo i, hi q, lo q] ++ s.data.toList := by rw [← eT]; simp
  have lK : (kindB a).data.toList = [kind a, 0] := by cases a <;> rfl
  have lM : M.data.toList = (ec a i q 0).bare ++ s.data.toList := by
    rw [← eM]
    simp [lT, lK, ec, E8.bare]
  have zT : T.size ≤ 100 := by rw [size_toList, lT, List.length_append, ← size_toList]; simp; omega
  have zM : M.size ≤ 69999 := by rw [size_toList, lM, List.length_append, ← size_toList, E8.bare_length]; omega
  have hS := sumOf_le a i q s.data.toList
  refine refenc_core a i q (PitotIcmp.sumOf a i q s.data.toList) s _ _ _ M _ T w hi' hq hs rfl rfl rfl (num_two i hi') (num_two q hq) (num_two _ (by omega)) eT zT eM ?_ (fun w => ?_)
  · apply ByteArray.ext
    rw [← Array.toList_inj, outB_list]
    simp [lT, lK, PitotIcmp.bytes, ecOk, ec, E8.list]
  · have h1 := Bi.refOnes_any M w zM
    rw [lM] at h1
    exact h1

/-- Both Encodes answer the same. -/
theorem enc_both (a : Bool) (i q : Int) (s : ByteArray) (hs : s.size ≤ 9223372036854775807) :
    ∃ (S : ByteArray) (e : Int), (∀ w, Calls Try.prog 5 #[eo a i q s] w fun r w' => r = .returned (.tuple #[.string S, .int .i64 e]) ∧ Below w.heap.size w w') ∧
      (∀ w, Calls Try.prog 6 #[eo a i q s] w fun r w' => r = .returned (.tuple #[.string S, .int .i64 e]) ∧ Below w.heap.size w w') := by
  by_cases h : (0 ≤ i ∧ i ≤ 65535) ∧ (0 ≤ q ∧ q ≤ 65535)
  · obtain ⟨i', rfl⟩ := Int.eq_ofNat_of_zero_le h.1.1
    obtain ⟨q', rfl⟩ := Int.eq_ofNat_of_zero_le h.2.1
    by_cases hd : s.size ≤ 64
    · exact ⟨_, 0, fun w => encode_ok a i' q' s w (by omega) (by omega) hd, fun w => refenc_ok a i' q' s w (by omega) (by omega) hd⟩
    · exact ⟨_, 11, fun w => encode_long a i' q' s w (by omega) (by omega) (by omega) hs, fun w => refenc_long a i' q' s w (by omega) (by omega) (by omega) hs⟩
  · exact ⟨_, 1, fun w => encode_arg a i q s w h, fun w => refenc_arg a i q s w h⟩
end Go.Proofs.Ytcljlaiafgbfkaa
