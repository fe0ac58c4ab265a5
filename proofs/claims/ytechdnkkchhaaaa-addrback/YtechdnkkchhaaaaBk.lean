/- What AddrBack asks of Link, Source, Part and Group, each in one. -/
import Derived.Test.YtechdnkkchhaaaaAw
import Derived.Test.YtechdnkkchhaaaaLs
set_option maxRecDepth 100000
namespace Go.Proofs.Ytechdnkkchhaaaa
open Go.RowKit Go.Proofs.PitotAddr

theorem lo_inj {p q : Nat} (hp : p ≤ 1) (hq : q ≤ 1) (h : lo (32 * (p + 1)) = lo (32 * (q + 1))) : p = q := by
  have := congrArg UInt8.toNat h
  rw [lo_nat, lo_nat] at this
  omega
theorem hilo_inj {n m : Nat} (hn : n < 65536) (hm : m < 65536) (h1 : hi n = hi m) (h2 : lo n = lo m) : n = m := by
  rw [← num_hi_lo n hn, h1, h2, num_hi_lo m hm]

/-- Link. -/
theorem link_back (v : Int) : ∃ (m : M6) (k : Int),
    (∀ w, Calls Try.prog 10 #[.int .i64 v] w fun e w' => e = .returned (.tuple #[mac m.a m.b m.c m.d m.e m.f, .int .i64 k]) ∧ Below w.heap.size w w') ∧
    (k ≠ 0 ∨ k = 0 ∧ (∃ n : Nat, v = n ∧ 1 ≤ n ∧ n ≤ 65535 ∧ m = ⟨3, 0, 0, 0, hi n, lo n⟩) ∧
      (∀ w, Calls Try.prog 21 #[mac m.a m.b m.c m.d m.e m.f] w fun e w' => e = .returned (.tuple #[.int .i64 v, .int .i64 0]) ∧ Below w.heap.size w w') ∧
      (∀ w, Calls Try.prog 24 #[mac m.a m.b m.c m.d m.e m.f] w fun e w' => Hid (e = .returned (.tuple #[.agg #[.int .i64 0, .int .i64 0], .int .i64 14])) ∧ Below w.heap.size w w')) := by
  by_cases h : 1 ≤ v ∧ v ≤ 65535
  · obtain ⟨n, rfl⟩ := Int.eq_ofNat_of_zero_le (show 0 ≤ v by omega)
    refine ⟨⟨3, 0, 0, 0, hi n, lo n⟩, 0, fun w => link_ok n w (by omega) (by omega), .inr ⟨rfl, ⟨n, rfl, by omega, by omega, rfl⟩, fun w => ?_, fun w => ?_⟩⟩
    · have h1 := vl_any 3 0 0 0 (hi n) (lo n) w
      have e : (M6.mk 3 0 0 0 (hi n) (lo n)).isVL = true := by unfold M6.isVL; rw [num_hi_lo n (by omega), decide_eq_true (show 1 ≤ n by omega)]; rfl
      rw [if_pos e, num_hi_lo n (by omega)] at h1
      exact h1
    · have h1 := of_any 3 0 0 0 (hi n) (lo n) w
      rw [ofA_miss _ (fun j _ => by unfold M6.isEnd; rfl)] at h1
      exact h1
  · exact ⟨⟨0, 0, 0, 0, 0, 0⟩, 1, fun w => link_bad v w h, .inl (by omega)⟩

/-- Source. -/
theorem source_back (v p : Int) : ∃ (m : M6) (k : Int),
    (∀ w, Calls Try.prog 13 #[.agg #[.int .i64 v, .int .i64 p]] w fun e w' => e = .returned (.tuple #[mac m.a m.b m.c m.d m.e m.f, .int .i64 k]) ∧ Below w.heap.size w w') ∧
    (k ≠ 0 ∨ k = 0 ∧ (∃ n q : Nat, v = n ∧ p = q ∧ n ≤ 4095 ∧ q ≤ 1 ∧ m = ⟨2, 0, 0, hi n, lo n, lo (32 * (q + 1))⟩) ∧
      (∀ w, Calls Try.prog 24 #[mac m.a m.b m.c m.d m.e m.f] w fun e w' => Hid (e = .returned (.tuple #[.agg #[.int .i64 v, .int .i64 p], .int .i64 0])) ∧ Below w.heap.size w w') ∧
      (∀ w, Calls Try.prog 21 #[mac m.a m.b m.c m.d m.e m.f] w fun e w' => e = .returned (.tuple #[.int .i64 0, .int .i64 14]) ∧ Below w.heap.size w w')) := by
  by_cases h : 0 ≤ v ∧ v ≤ 4095 ∧ 0 ≤ p ∧ p ≤ 1
  · obtain ⟨n, rfl⟩ := Int.eq_ofNat_of_zero_le (show 0 ≤ v by omega)
    obtain ⟨q, rfl⟩ := Int.eq_ofNat_of_zero_le (show 0 ≤ p by omega)
    refine ⟨⟨2, 0, 0, hi n, lo n, lo (32 * (q + 1))⟩, 0, fun w => source_ok n q w (by omega) (by omega), .inr ⟨rfl, ⟨n, q, rfl, rfl, by omega, by omega, rfl⟩, fun w => ?_, fun w => ?_⟩⟩
    · have h1 := of_any 2 0 0 (hi n) (lo n) (lo (32 * (q + 1))) w
      have e : ∀ j, j ≤ 1 → (M6.mk 2 0 0 (hi n) (lo n) (lo (32 * (q + 1)))).isEnd j = decide (q = j) := fun j hj => by
        unfold M6.isEnd
        rw [num_hi_lo n (by omega), decide_eq_true (show n ≤ 4095 by omega), lo_nat]
        show (true && true && true && true && _) = _
        simp only [Bool.true_and, decide_eq_decide]
        omega
      rw [ofA_hit _ q (by omega) (fun j hj => by rw [e j (by omega)]; simp; omega) (by rw [e q (by omega)]; simp)] at h1
      rw [num_hi_lo n (by omega)] at h1
      exact h1
    · have h1 := vl_any 2 0 0 (hi n) (lo n) (lo (32 * (q + 1))) w
      rw [if_neg (by unfold M6.isVL; simp)] at h1
      exact h1
  · exact ⟨⟨0, 0, 0, 0, 0, 0⟩, 1, fun w => source_bad v p w h, .inl (by omega)⟩

/-- Part. -/
theorem part_back (v p : Int) : ∃ (a b c d : UInt8) (k : Int),
    (∀ w, Calls Try.prog 15 #[.int .i64 v, .int .i64 p] w fun e w' => e = .returned (.tuple #[ip a b c d, .int .i64 k]) ∧ Below w.heap.size w w') ∧
    (k ≠ 0 ∨ k = 0 ∧ (∀ w, Calls Try.prog 26 #[ip a b c d] w fun e w' => Hid (e = .returned (.tuple #[.int .i64 v, .int .i64 p, .int .i64 0, .int .i64 0])) ∧ Below w.heap.size w w')) := by
  by_cases h : 0 ≤ v ∧ v ≤ 4095 ∧ 0 ≤ p ∧ p ≤ 255
  · obtain ⟨n, rfl⟩ := Int.eq_ofNat_of_zero_le (show 0 ≤ v by omega)
    obtain ⟨p, rfl⟩ := Int.eq_ofNat_of_zero_le (show 0 ≤ p by omega)
    have hp : (p : Int) = ((lo p).toNat : Int) := by rw [lo_nat]; omega
    refine ⟨10, hi n, lo n, lo p, 0, fun w => ?_, .inr ⟨rfl, fun w => ?_⟩⟩
    · refine (part_ok n p w (by omega) (by omega)).mono fun _ _ ⟨h1, h2⟩ => ⟨?_, h2⟩
      rw [h1, hp]
      rfl
    · have h1 := whose_any 10 (hi n) (lo n) (lo p) w
      unfold whoA at h1
      rw [if_pos (by unfold isPart; rw [num_hi_lo n (by omega), decide_eq_true (show n ≤ 4095 by omega)]; rfl), num_hi_lo n (by omega), ← hp] at h1
      exact h1
  · exact ⟨0, 0, 0, 0, 1, fun w => part_bad v p w h, .inl (by omega)⟩

/-- Group. -/
theorem group_back (v : Int) : ∃ (a b c d : UInt8) (k : Int),
    (∀ w, Calls Try.prog 17 #[.int .i64 v] w fun e w' => e = .returned (.tuple #[ip a b c d, .int .i64 k]) ∧ Below w.heap.size w w') ∧
    (k ≠ 0 ∨ k = 0 ∧ (∀ w, Calls Try.prog 26 #[ip a b c d] w fun e w' => Hid (e = .returned (.tuple #[.int .i64 0, .int .i64 0, .int .i64 v, .int .i64 0])) ∧ Below w.heap.size w w')) := by
  by_cases h : 1 ≤ v ∧ v ≤ 65535
  · obtain ⟨n, rfl⟩ := Int.eq_ofNat_of_zero_le (show 0 ≤ v by omega)
    refine ⟨224, 224, hi n, lo n, 0, fun w => group_ok n w (by omega) (by omega), .inr ⟨rfl, fun w => ?_⟩⟩
    have h1 := whose_any 224 224 (hi n) (lo n) w
    unfold whoA at h1
    rw [if_neg (by unfold isPart; simp), if_pos (by unfold isGroup; rw [num_hi_lo n (by omega), decide_eq_true (show 1 ≤ n by omega)]; rfl), num_hi_lo n (by omega)] at h1
    exact h1
  · exact ⟨0, 0, 0, 0, 1, fun w => group_bad v w h, .inl (by omega)⟩

theorem link_eq {n m : Nat} (hn : n ≤ 65535) (hm : m ≤ 65535) (w : World) :
    (Go.Op.equalIn 10000 23 (mac 3 0 0 0 (hi n) (lo n)) (mac 3 0 0 0 (hi m) (lo m))).run Try.prog w = .ok ((n : Int) == (m : Int)) w := by
  rw [eq6, int_beq, int_beq, int_beq, int_beq]
  congr 1
  rw [Bool.eq_iff_iff]
  simp only [beq_self_eq_true, Bool.true_and, Bool.and_eq_true, beq_iff_eq]
  constructor
  · rintro ⟨h1, h2⟩
    rw [hilo_inj (by omega) (by omega) h1 h2]
  · intro h
    rw [Int.ofNat_inj.1 h]
    exact ⟨rfl, rfl⟩

theorem source_eq {n m p q : Nat} (hn : n ≤ 4095) (hm : m ≤ 4095) (hp : p ≤ 1) (hq : q ≤ 1) (w : World) :
    (Go.Op.equalIn 10000 23 (mac 2 0 0 (hi n) (lo n) (lo (32 * (p + 1)))) (mac 2 0 0 (hi m) (lo m) (lo (32 * (q + 1))))).run Try.prog w = .ok ((n : Int) == (m : Int) && (p : Int) == (q : Int)) w := by
  rw [eq6, int_beq, int_beq, int_beq, int_beq, int_beq]
  congr 1
  rw [Bool.eq_iff_iff]
  simp only [beq_self_eq_true, Bool.true_and, Bool.and_eq_true, beq_iff_eq]
  constructor
  · rintro ⟨⟨h1, h2⟩, h3⟩
    rw [hilo_inj (by omega) (by omega) h1 h2, lo_inj hp hq h3]
    exact ⟨rfl, rfl⟩
  · rintro ⟨h1, h2⟩
    rw [Int.ofNat_inj.1 h1, Int.ofNat_inj.1 h2]
    exact ⟨⟨rfl, rfl⟩, rfl⟩
end Go.Proofs.Ytechdnkkchhaaaa
