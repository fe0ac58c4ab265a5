/- Contracts of the document's Encode: a frame's bytes. What the program's and the document's Encode answer, both. -/
import Derived.Test.YthlpehiloabfiaaEx
namespace Go.Proofs.Ythlpehiloabfiaa
open Go.RowKit Go.Proofs.PitotAddr Go.Proofs.PitotEther
open Go.Proofs.Ythlpehiloabfiaa.Ad (refLink_bad refLink_ok refSource_bad refSource_ok lies_lt lies_below)

section
variable (a b c d : Int) (s D S : ByteArray) (e g : Int) (w : World)

set_option maxRecDepth 100000 in
set_option maxHeartbeats 1000000 in
theorem refenc_arg (hL : ∀ w, Calls Try.prog 26 #[.int .i64 a] w fun r w' => r = .returned (.tuple #[.string D, .int .i64 e]) ∧ Below w.heap.size w w')
    (hS : ∀ w, Calls Try.prog 27 #[.int .i64 b, .int .i64 c] w fun r w' => r = .returned (.tuple #[.string S, .int .i64 g]) ∧ Below w.heap.size w w')
    (h : e ≠ 0 ∨ (e = 0 ∧ g ≠ 0) ∨ (e = 0 ∧ g = 0 ∧ d < 0) ∨ (e = 0 ∧ g = 0 ∧ 0 ≤ d ∧ 255 < d)) :
    Calls Try.prog 11 #[fr a b c d s] w fun r w' => r = .returned (.tuple #[.string ⟨#[]⟩, .int .i64 1]) ∧ Below w.heap.size w w' := by
  have HL := Lib.hid hL; clear hL
  have HS := Lib.hid hS; clear hS
  have hE : (e != 0) = true ∧ ¬ e = 0 ∨ e = 0 ∧ (g != 0) = true ∧ ¬ g = 0 ∨ (e = 0 ∧ g = 0 ∧ d < 0) ∨ (e = 0 ∧ g = 0 ∧ ¬ d < 0 ∧ 255 < d) := by
    simp only [bne_iff_ne]; omega
  clear h
  rcases hE with ⟨h, h'⟩ | ⟨rfl, h, h'⟩ | ⟨rfl, rfl, h⟩ | ⟨rfl, rfl, h, h'⟩
  all_goals
    go_enter Try.func11, Try.ntmps11
    go_wp2_with (first
      | (go_at_call 26; (with_reducible refine (HL.out _).mono ?_); rintro r w1 ⟨rfl, hb1⟩
         (have L1 := lies_below (heap_alloc_new w (frC a b c d s)) hb1 (by simp))
         (obtain ⟨a0, a1, a2, a3, a4⟩ := five L1)
         (have L1 := Lib.hid L1))
      | (go_at_call 27; (with_reducible refine (HS.out _).mono ?_); rintro r w2 ⟨rfl, hb2⟩
         (have L2 := lies_below L1.out hb2 (lies_lt L1.out))
         (obtain ⟨c0, c1, c2, c3, c4⟩ := five L2)
         (have L2 := Lib.hid L2)))
    go_returns
    have k1 : Below w.heap.size w w1 := ((Below.refl _ w).alloc (Nat.le_refl _) _).trans (hb1.mono (by simp))
    exact ⟨rfl, k1.trans (hb2.mono k1.size)⟩

set_option maxRecDepth 100000 in
set_option maxHeartbeats 1000000 in
theorem refenc_long (hL : ∀ w, Calls Try.prog 26 #[.int .i64 a] w fun r w' => r = .returned (.tuple #[.string D, .int .i64 0]) ∧ Below w.heap.size w w')
    (hS : ∀ w, Calls Try.prog 27 #[.int .i64 b, .int .i64 c] w fun r w' => r = .returned (.tuple #[.string S, .int .i64 0]) ∧ Below w.heap.size w w')
    (h0 : 0 ≤ d) (h1 : d ≤ 255) (hs : 1499 < s.size) (hm : s.size ≤ 9223372036854775807) :
    Calls Try.prog 11 #[fr a b c d s] w fun r w' => r = .returned (.tuple #[.string ⟨#[]⟩, .int .i64 11]) ∧ Below w.heap.size w w' := by
  have HL := Lib.hid hL; clear hL
  have HS := Lib.hid hS; clear hS
  go_enter Try.func11, Try.ntmps11
  go_wp2_with (first
    | (go_at_call 26; (with_reducible refine (HL.out _).mono ?_); rintro r w1 ⟨rfl, hb1⟩
       (have L1 := lies_below (heap_alloc_new w (frC a b c d s)) hb1 (by simp))
       (obtain ⟨a0, a1, a2, a3, a4⟩ := five L1)
       (have L1 := Lib.hid L1))
    | (go_at_call 27; (with_reducible refine (HS.out _).mono ?_); rintro r w2 ⟨rfl, hb2⟩
       (have L2 := lies_below L1.out hb2 (lies_lt L1.out))
       (obtain ⟨c0, c1, c2, c3, c4⟩ := five L2)
       (have L2 := Lib.hid L2)))
  go_returns
  have k1 : Below w.heap.size w w1 := ((Below.refl _ w).alloc (Nat.le_refl _) _).trans (hb1.mono (by simp))
  exact ⟨rfl, k1.trans (hb2.mono k1.size)⟩
end

/-- So many bytes 0 behind. -/
def zs (A : ByteArray) (k : Nat) : ByteArray := A ++ ⟨(List.replicate k (0 : UInt8)).toArray⟩
theorem zs_zero (A : ByteArray) : zs A 0 = A := by apply ByteArray.ext; simp [zs]
theorem zs_size (A : ByteArray) (k : Nat) : (zs A k).size = A.size + k := by
  unfold zs; rw [ByteArray.size_append]; congr 1; show (List.replicate k (0 : UInt8)).toArray.size = k; simp
theorem zs_succ (A : ByteArray) (k : Nat) : zs A k ++ ⟨#[0]⟩ = zs A (k + 1) := by
  apply ByteArray.ext
  rw [← Array.toList_inj]
  simp [zs, List.replicate_succ']
theorem zs_list (A : ByteArray) (k : Nat) : (zs A k).data.toList = A.data.toList ++ List.replicate k 0 := by simp [zs]

def strLen : Value → Nat
  | .string s => s.size
  | _ => 0

set_option maxRecDepth 100000 in
set_option maxHeartbeats 1000000 in
theorem refenc_ok (v n p q : Nat) (s : ByteArray) (w : World) (h : MayBe v n p q s) :
    Calls Try.prog 11 #[fr v n p q s] w fun r w' => r = .returned (.tuple #[.string (outB v n p q s), .int .i64 0]) ∧ Below w.heap.size w w' := by
  obtain ⟨D, HD⟩ : ∃ B : ByteArray, Hid (B = ⟨#[3, 0, 0, 0, hi v, lo v]⟩) := ⟨_, rfl⟩
  obtain ⟨S, HS⟩ : ∃ B : ByteArray, Hid (B = ⟨#[2, 0, 0, hi n, lo n, lo (32 * (p + 1))]⟩) := ⟨_, rfl⟩
  have hL := fun w => refLink_ok v w h.v1 h.v2
  have hS := fun w => refSource_ok n p w h.n2 h.k2
  have hN := fun w => Ad.num1 q w (by have := h.q2; omega)
  rw [← HD.out] at hL
  rw [← HS.out] at hS
  obtain ⟨Q, HQ⟩ : ∃ B : ByteArray, Hid (B = ⟨#[lo q]⟩) := ⟨_, rfl⟩
  rw [← HQ.out] at hN
  have hQ1 : Q.size = 1 := by rw [HQ.out]; rfl
  have hD1 : D.size = 6 := by rw [HD.out]; rfl
  have hS1 : S.size = 6 := by rw [HS.out]; rfl
  have HL := Lib.hid hL; clear hL
  have HC := Lib.hid hS; clear hS
  have HN := Lib.hid hN; clear hN
  have hq := h.q2
  have hd := h.d2
  obtain ⟨A, HA⟩ : ∃ B : ByteArray, Hid (B = D ++ S ++ ⟨#[8, 0]⟩ ++ s) := ⟨_, rfl⟩
  have hA1 : A.size = 14 + s.size := by
    rw [HA.out, ByteArray.size_append, ByteArray.size_append, ByteArray.size_append, hD1, hS1]; rfl
  obtain ⟨R, HR⟩ : ∃ R, Hid (R = outB v n p q s) := ⟨_, rfl⟩
  rw [← HR.out]
  have hfin : ∀ k, k = 45 - s.size → Cr.sealB (zs A k ++ Q) = R := by
    intro k hk
    apply ByteArray.ext
    rw [← Array.toList_inj, Cr.sealB_list, HR.out]
    simp only [outB, PitotEther.bytes]
    congr 1
    rw [ByteArray.data_append, Array.toList_append, zs_list, HA.out, HQ.out, HD.out, HS.out, hk]
    simp [body, PitotEther.ahead, pad]
  have HF := Lib.hid hfin; clear hfin h
  go_enter Try.func11, Try.ntmps11
  go_wp2_with (first
    | (go_at_call 26; (with_reducible refine (HL.out _).mono ?_); rintro r w1 ⟨rfl, hb1⟩
       (have L1 := lies_below (heap_alloc_new w (frC v n p q s)) hb1 (by simp))
       (obtain ⟨a0, a1, a2, a3, a4⟩ := five L1)
       (have L1 := Lib.hid L1))
    | (go_at_call 27; (with_reducible refine (HC.out _).mono ?_); rintro r w2 ⟨rfl, hb2⟩
       (have L2 := lies_below L1.out hb2 (lies_lt L1.out))
       (obtain ⟨c0, c1, c2, c3, c4⟩ := five L2)
       (have L2 := Lib.hid L2)))
  go_loop [8] (fun t => ∃ k : Nat, k ≤ 45 - s.size ∧ t = .string (zs A k)) (fun t => 59 - strLen t)
  case atStart => exact ⟨0, Nat.zero_le _, by rw [zs_zero, HA.out]⟩
  case round =>
    obtain ⟨k, hk, rfl⟩ := hrel
    have hz := zs_size A k
    rw [hA1] at hz
    have z1 : (⟨#[0]⟩ : ByteArray).size = 1 := rfl
    by_cases hlt : k < 45 - s.size
    · go_wp2
      go_round
      case rel => exact ⟨k + 1, by omega, by rw [zs_succ]⟩
      case measure => simp [strLen, hz, z1]; omega
    · have hk' : k = 45 - s.size := by omega
      have HK := Lib.hid hk'; clear hk'
      go_wp2_with (first
        | (go_at_call 29; (with_reducible refine (HN.out _).mono ?_); rintro r w3 ⟨rfl, hb3⟩)
        | (go_at_call 28; (with_reducible refine (Cr.refSeal_any _ _ (by rw [ByteArray.size_append, hz, hQ1]; omega)).mono ?_); rintro r w4 ⟨rfl, hb4⟩))
      go_returns
      have k1 : Below w.heap.size w w1 := ((Below.refl _ w).alloc (Nat.le_refl _) _).trans (hb1.mono (by simp))
      have k2 := k1.trans (hb2.mono k1.size)
      have k3 := k2.trans (hb3.mono k2.size)
      refine ⟨?_, k3.trans (hb4.mono k3.size)⟩
      rw [HF.out k HK.out]
      rfl

/-- Both Encodes answer the same. -/
theorem enc_both (a b c d : Int) (s : ByteArray) (hs : s.size ≤ 9223372036854775807) :
    ∃ (S : ByteArray) (e : Int), (∀ w, Calls Try.prog 10 #[fr a b c d s] w fun r w' => r = .returned (.tuple #[.string S, .int .i64 e]) ∧ Below w.heap.size w w') ∧
      (∀ w, Calls Try.prog 11 #[fr a b c d s] w fun r w' => r = .returned (.tuple #[.string S, .int .i64 e]) ∧ Below w.heap.size w w') := by
  have hLb : ∀ {a : Int}, ¬ (1 ≤ a ∧ a ≤ 65535) → ∀ w, Calls Try.prog 26 #[.int .i64 a] w fun r w' => r = .returned (.tuple #[.string ⟨#[]⟩, .int .i64 1]) ∧ Below w.heap.size w w' :=
    fun h w => (refLink_bad _ w h).mono fun e w' ⟨h1, h2⟩ => ⟨h1, h2 ▸ Below.refl _ _⟩
  have hSb : ∀ {b c : Int}, ¬ (0 ≤ b ∧ b ≤ 4095 ∧ 0 ≤ c ∧ c ≤ 1) → ∀ w, Calls Try.prog 27 #[.int .i64 b, .int .i64 c] w fun r w' => r = .returned (.tuple #[.string ⟨#[]⟩, .int .i64 1]) ∧ Below w.heap.size w w' :=
    fun h w => (refSource_bad _ _ w h).mono fun e w' ⟨h1, h2⟩ => ⟨h1, h2 ▸ Below.refl _ _⟩
  by_cases h1 : 1 ≤ a ∧ a ≤ 65535
  · obtain ⟨v, rfl⟩ := Int.eq_ofNat_of_zero_le (show 0 ≤ a by omega)
    have hL := fun w => refLink_ok v w (by omega) (by omega)
    by_cases h2 : 0 ≤ b ∧ b ≤ 4095 ∧ 0 ≤ c ∧ c ≤ 1
    · obtain ⟨n, rfl⟩ := Int.eq_ofNat_of_zero_le (show 0 ≤ b by omega)
      obtain ⟨k, rfl⟩ := Int.eq_ofNat_of_zero_le (show 0 ≤ c by omega)
      have hS := fun w => refSource_ok n k w (by omega) (by omega)
      by_cases h3 : d < 0 ∨ 255 < d
      · exact ⟨_, 1, fun w => encode_seq v n k d s w (by omega) (by omega) (by omega) (by omega) h3, fun w => refenc_arg v n k d s _ _ 0 0 w hL hS (by omega)⟩
      · obtain ⟨q, rfl⟩ := Int.eq_ofNat_of_zero_le (show 0 ≤ d by omega)
        by_cases h4 : 1499 < s.size
        · exact ⟨_, 11, fun w => encode_long v n k q s w (by omega) (by omega) (by omega) (by omega) (by omega) h4 hs, fun w => refenc_long v n k q s _ _ w hL hS (by omega) (by omega) h4 hs⟩
        · have hm : MayBe v n k q s := ⟨by omega, by omega, by omega, by omega, by omega, by omega⟩
          exact ⟨_, 0, fun w => encode_may v n k q s w hm, fun w => refenc_ok v n k q s w hm⟩
    · exact ⟨_, 1, fun w => encode_src v b c d s w (by omega) (by omega) h2, fun w => refenc_arg v b c d s _ _ 0 1 w hL (hSb h2) (by omega)⟩
  · by_cases h2 : 0 ≤ b ∧ b ≤ 4095 ∧ 0 ≤ c ∧ c ≤ 1
    · obtain ⟨n, rfl⟩ := Int.eq_ofNat_of_zero_le (show 0 ≤ b by omega)
      obtain ⟨k, rfl⟩ := Int.eq_ofNat_of_zero_le (show 0 ≤ c by omega)
      exact ⟨_, 1, fun w => encode_vl a n k d s w h1, fun w => refenc_arg a n k d s _ _ 1 0 w (hLb h1) (fun w => refSource_ok n k w (by omega) (by omega)) (by omega)⟩
    · exact ⟨_, 1, fun w => encode_vl a b c d s w h1, fun w => refenc_arg a b c d s _ _ 1 1 w (hLb h1) (hSb h2) (by omega)⟩
end Go.Proofs.Ythlpehiloabfiaa
