/- Contracts of the document's Encode; both Encodes answer the same. -/
import Derived.Test.YtpecmpepnfgnoaaRs
import Derived.Test.YtpecmpepnfgnoaaEc
namespace Go.Proofs.Ytpecmpepnfgnoaa
open Go.RowKit Go.Proofs.PitotIp Go.Proofs.PitotUdp
open Go.Proofs.PitotAddr (hi lo num num_lt)
open Go.Proofs.Ytpecmpepnfgnoaa.Bi (lies_lt lies_cell lies_frozen lies_alloc)

set_option maxRecDepth 100000 in
set_option maxHeartbeats 4000000 in
theorem refenc_arg (A B : ByteArray) (f t : Int) (s : ByteArray) (w : World) (h : ¬ ((0 ≤ f ∧ f ≤ 65535) ∧ (0 ≤ t ∧ t ≤ 65535))) :
    Calls Try.prog 11 #[re A B f t, .string s] w fun e w' => e = .returned (.tuple #[.string ⟨#[]⟩, .int .i64 1]) ∧ Below w.heap.size w w' := by
  have h' : f < 0 ∨ (¬ f < 0 ∧ 65535 < f) ∨ (¬ f < 0 ∧ ¬ 65535 < f ∧ t < 0) ∨ (¬ f < 0 ∧ ¬ 65535 < f ∧ ¬ t < 0 ∧ 65535 < t) := by omega
  clear h
  have k0 : Hid (Below w.heap.size w (w.alloc (reC A B f t))) := (Below.refl _ w).alloc (Nat.le_refl _) _
  rcases h' with h1 | ⟨h1, h2⟩ | ⟨h1, h2, h3⟩ | ⟨h1, h2, h3, h4⟩
  all_goals
    go_enter Try.func11, Try.ntmps11
    go_wp2
    go_returns
    exact ⟨rfl, k0.out⟩

set_option maxRecDepth 100000 in
set_option maxHeartbeats 4000000 in
theorem refenc_long (A B : ByteArray) (f t : Nat) (s : ByteArray) (w : World) (hf : f < 65536) (ht : t < 65536) (hs : 8192 < s.size) (hm : s.size ≤ 9223372036854775807) :
    Calls Try.prog 11 #[re A B f t, .string s] w fun e w' => e = .returned (.tuple #[.string ⟨#[]⟩, .int .i64 11]) ∧ Below w.heap.size w w' := by
  have k0 : Hid (Below w.heap.size w (w.alloc (reC A B f t))) := (Below.refl _ w).alloc (Nat.le_refl _) _
  go_enter Try.func11, Try.ntmps11
  go_wp2
  go_returns
  exact ⟨rfl, k0.out⟩

set_option maxRecDepth 100000 in
set_option maxHeartbeats 4000000 in
theorem refenc_core (A B : ByteArray) (f t S : Nat) (s N1 N2 N3 N4 M R : ByteArray) (w : World) (hf : f < 65536) (ht : t < 65536) (hs : s.size ≤ 8192) (z1 : N1.size = 2) (z2 : N2.size = 2) (z3 : N3.size = 2) (z4 : N4.size = 2)
    (h1 : NumIs f N1) (h2 : NumIs t N2) (h3 : NumIs (8 + s.size) N3) (h4 : NumIs S N4) (hM : N1 ++ N2 ++ N3 ++ ⟨#[0, 0]⟩ ++ s = M) (hR : N1 ++ N2 ++ N3 ++ N4 ++ s = R)
    (h5 : ∀ w, Calls Try.prog 21 #[.string A, .string B, .string M] w fun e w' => e = .returned (.int .i64 S) ∧ Below w.heap.size w w') :
    Calls Try.prog 11 #[re A B f t, .string s] w fun e w' => e = .returned (.tuple #[.string R, .int .i64 0]) ∧ Below w.heap.size w w' := by
  have H1 := Lib.hid h1; have H2 := Lib.hid h2; have H3 := Lib.hid h3; have H4 := Lib.hid h4; have H5 := Lib.hid h5
  clear h1 h2 h3 h4 h5
  have HR := Lib.hid hR
  have HM := Lib.hid hM
  clear hR hM
  have L0 : Hid ((w.alloc (reC A B f t)).heap[w.heap.size]? = some (reC A B f t)) := heap_alloc_new w _
  have k0 : Hid (Below w.heap.size w (w.alloc (reC A B f t))) := (Below.refl _ w).alloc (Nat.le_refl _) _
  have hw : IntKind.i64.wrap (8 + (s.size : Int)) = 8 + (s.size : Int) := IntWalk.i64_in _ (by omega)
  go_enter Try.func11, Try.ntmps11
  go_upto_region 5 with fail
  generalize w.alloc (reC A B f t) = X at L0 k0 ⊢
  have L0 : Hid (X.drew.heap[w.heap.size]? = some (reC A B f t)) := L0.out
  have k0 : Hid (Below w.heap.size w X.drew) := k0.out.drew
  have n1 : ¬ 9223372036854775807 < N1.size + N2.size := by omega
  have n2 : ¬ 9223372036854775807 < (N1 ++ N2).size + N3.size := by rw [ByteArray.size_append]; omega
  have n3 : (N1 ++ N2 ++ N3).size = 6 := by rw [ByteArray.size_append, ByteArray.size_append]; omega
  obtain ⟨HH, EH⟩ : ∃ HH, Hid (HH = N1 ++ N2 ++ N3) := ⟨_, rfl⟩
  rw [← EH.out] at n3
  go_cut [6] from 7 (fun s6 wc => s6 = .string HH ∧ wc.heap[w.heap.size]? = some (reC A B f t) ∧ Below w.heap.size w wc)
  case first =>
    go_region_held3 (fun w' => w'.cell? ⟨w.heap.size, 0, none⟩ = some (.string A) ∧ w'.cell? ⟨w.heap.size, 1, none⟩ = some (.string B) ∧ w'.cell? ⟨w.heap.size, 2, none⟩ = some (.int .i64 f) ∧ w'.cell? ⟨w.heap.size, 3, none⟩ = some (.int .i64 t))
      (with_reducible exact cells4 L0.out)
      (first
        | (go_at_call 20; (with_reducible refine (H1.out _).mono ?_); rintro r w1 ⟨rfl, hb⟩
           (have L0 : Hid (w1.heap[w.heap.size]? = some (reC A B f t)) := lies_below L0.out hb (lies_lt L0.out))
           (have k0 : Hid (Below w.heap.size w w1) := k0.out.trans (hb.mono k0.out.size))
           (clear hb))
        | (go_at_call 20; (with_reducible refine (H2.out _).mono ?_); rintro r w2 ⟨rfl, hb⟩
           (have L0 : Hid (w2.heap[w.heap.size]? = some (reC A B f t)) := lies_below L0.out hb (lies_lt L0.out))
           (have k0 : Hid (Below w.heap.size w w2) := k0.out.trans (hb.mono k0.out.size))
           (clear hb))
        | (go_at_call 20; (with_reducible refine (H3.out _).mono ?_); rintro r w3 ⟨rfl, hb⟩
           (have L0 : Hid (w3.heap[w.heap.size]? = some (reC A B f t)) := lies_below L0.out hb (lies_lt L0.out))
           (have k0 : Hid (Below w.heap.size w w3) := k0.out.trans (hb.mono k0.out.size))
           (clear hb)))
    all_goals
      go_wp2
      go_meet
      case rel => exact ⟨by rw [EH.out], L0.out, k0.out⟩
  case rest =>
    obtain ⟨rfl, LY, kY⟩ := hcut
    obtain ⟨c0, c1, c2, c3⟩ := cells4 LY
    have kY := Lib.hid kY
    have y1 : (⟨#[0, 0]⟩ : ByteArray).size = 2 := rfl
    have eM : HH ++ ⟨#[0, 0]⟩ ++ s = M := by rw [EH.out]; exact HM.out
    have eR : HH ++ N4 ++ s = R := by rw [EH.out]; exact HR.out
    clear n1 n2 hw LY
    go_wp2_with (first
      | (go_at_call 21; (with_reducible refine (H5.out _).mono ?_); rintro r w4 ⟨rfl, hb4⟩)
      | (go_at_call 20; (with_reducible refine (H4.out _).mono ?_); rintro r w5 ⟨rfl, hb5⟩))
    go_returns
    have k4 := kY.out.trans (hb4.mono kY.out.size)
    exact ⟨rfl, k4.trans (hb5.mono k4.size)⟩

theorem refenc_ok (a b : Q4) (f t : Nat) (s : ByteArray) (w : World) (h : MayBe f t s) :
    Calls Try.prog 11 #[re (ipB a) (ipB b) f t, .string s] w fun e w' => e = .returned (.tuple #[.string (outB a b f t s), .int .i64 0]) ∧ Below w.heap.size w w' := by
  obtain ⟨hf, ht, hd⟩ := h
  have h3 : NumIs (8 + (s.size : Int)) ⟨#[hi (8 + s.size), lo (8 + s.size)]⟩ := by have := num_two (8 + s.size) (by omega); rwa [show ((8 + s.size : Nat) : Int) = 8 + (s.size : Int) by omega] at this
  obtain ⟨M, eM⟩ : ∃ M : ByteArray, M = ⟨((dg (8 + s.size) f t 0).list ++ s.data.toList).toArray⟩ := ⟨_, rfl⟩
  have lM : M.data.toList = (dg (8 + s.size) f t 0).list ++ s.data.toList := by rw [eM]
  have zM : M.size = 8 + s.size := by rw [size_toList, lM, List.length_append, D8.list_length, ← size_toList]
  have hS := sumOf_le a b M.data.toList
  refine refenc_core (ipB a) (ipB b) f t (PitotUdp.sumOf a b M.data.toList) s _ _ _ _ M _ w hf ht hd rfl rfl rfl rfl (num_two f hf) (num_two t ht) h3 (num_two _ (by omega)) ?_ ?_ (fun w => refSum_any a b M (by omega) w)
  · rw [eM]
    apply ByteArray.ext
    rw [← Array.toList_inj]
    simp [dg, D8.list, D8.front, hi, lo]
  · apply ByteArray.ext
    rw [← Array.toList_inj, outB_list, lM]
    have e8 : 8 + s.data.toList.length = 8 + s.size := by rw [← size_toList]
    unfold PitotUdp.bytes dgOk
    rw [e8]
    simp [dg, D8.list, D8.front]

/-- Both Encodes answer the same. -/
theorem enc_both (a b : Q4) (f t : Int) (s : ByteArray) (hs : s.size ≤ 9223372036854775807) :
    ∃ (S : ByteArray) (e : Int), (∀ w, Calls Try.prog 10 #[en a b f t, .string s] w fun r w' => r = .returned (.tuple #[.string S, .int .i64 e]) ∧ Below w.heap.size w w') ∧
      (∀ w, Calls Try.prog 11 #[re (ipB a) (ipB b) f t, .string s] w fun r w' => r = .returned (.tuple #[.string S, .int .i64 e]) ∧ Below w.heap.size w w') := by
  by_cases h : (0 ≤ f ∧ f ≤ 65535) ∧ (0 ≤ t ∧ t ≤ 65535)
  · obtain ⟨f', rfl⟩ := Int.eq_ofNat_of_zero_le h.1.1
    obtain ⟨t', rfl⟩ := Int.eq_ofNat_of_zero_le h.2.1
    by_cases hd : s.size ≤ 8192
    · exact ⟨_, 0, fun w => encode_ok a b f' t' s w ⟨by omega, by omega, hd⟩, fun w => refenc_ok a b f' t' s w ⟨by omega, by omega, hd⟩⟩
    · exact ⟨_, 11, fun w => encode_long a b f' t' s w (by omega) (by omega) (by omega) hs, fun w => refenc_long _ _ f' t' s w (by omega) (by omega) (by omega) hs⟩
  · exact ⟨_, 1, fun w => encode_arg a b f t s w h, fun w => refenc_arg _ _ f t s w h⟩
end Go.Proofs.Ytpecmpepnfgnoaa
