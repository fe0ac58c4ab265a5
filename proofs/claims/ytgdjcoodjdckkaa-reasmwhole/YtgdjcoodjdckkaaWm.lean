/- Parts that come in order come out whole: plain. -/
import Derived.Test.YtgdjcoodjdckkaaFd
import Derived.Test.YtgdjcoodjdckkaaSq
set_option maxRecDepth 100000
namespace Go.Proofs.Ytgdjcoodjdckkaa
open Go.RowKit Go.Proofs.PitotIp Go.Proofs.PitotFrag Go.Maps
open Go.Proofs.PitotReasm (Bg Tb Fine bad first next passed passE put keep)
open Go.Proofs.Ytgdjcoodjdckkaa.Bi (lies_lt lies_cell lies_frozen lies_alloc lies_set)

/-- What is so of the table ahead of part i. -/
structure Wi (k : K) (d : List UInt8) (R C i : Nat) (T : Tb K UInt8) : Prop where
  good : Good 40 T
  now : T.now ≤ i
  dr : T.dr ≤ i * 1000
  start : i = 0 → T = t0
  mid : 0 < i → i ≤ C → find T.l k = some ⟨k, 0, d.take (i * R)⟩
theorem wi_zero (k : K) (d : List UInt8) (R C : Nat) : Wi k d R C 0 t0 := ⟨good_new 40, by simp [t0], by simp [t0], fun _ => rfl, fun h => absurd h (by omega)⟩
/-- ahead of what comes between. -/
structure Wj (k : K) (d : List UInt8) (R C i : Nat) (T : Tb K UInt8) : Prop where
  good : Good 40 T
  now : T.now = i
  dr : T.dr ≤ i * 1000 + 200
  mid : i + 1 ≤ C → find T.l k = some ⟨k, 0, d.take ((i + 1) * R)⟩
theorem wj_next {k : K} {d : List UInt8} {R C i : Nat} {T : Tb K UInt8} (h : Wj k d R C i T) : Wi k d R C (i + 1) T := ⟨h.good, by have := h.now; omega, by have := h.dr; omega, fun e => absurd e (by omega), fun _ h1 => h.mid h1⟩
theorem wj_other {k k' : K} {d : List UInt8} {R C i : Nat} {T : Tb K UInt8} (h : Wj k d R C i T) (hi : i ≤ 10000) (hk : k' ≠ k) (m : Bool) (o : Int) (e : List UInt8) : Wi k d R C (i + 1) (put 40 1000000 T i k' m o e).1 := by
  have hp := pass_zero (t := T) (n := i) (by have := h.now; omega) (by omega)
  refine ⟨put_good h.good _ _ _ _ _, by rw [put_now hp]; omega, ?_, fun e => absurd e (by omega), fun _ h1 => ?_⟩
  · have := put_dr h.good (i : Int) k' m o e (wait := 1000000)
    have := h.dr
    omega
  · exact PitotReasm.put_other hk m o e (h.mid h1) (by show (i : Int) - 0 ≤ _; omega)

theorem piece_len (d : List UInt8) (R k C : Nat) (hk : k < C) (hC : C * R ≤ d.length) : (piece d R k).length = R := by
  have := mul_lt hk hC
  simp [piece]; omega
theorem mul_div8 (k R : Nat) (h8 : R % 8 = 0) : k * (R / 8) = k * R / 8 := by
  obtain ⟨r, rfl⟩ : ∃ r, R = 8 * r := ⟨R / 8, by omega⟩
  rw [Nat.mul_div_cancel_left _ (by omega), show k * (8 * r) = 8 * (k * r) by rw [Nat.mul_left_comm], Nat.mul_div_cancel_left _ (by omega)]
theorem mul_mod8 (k R : Nat) (h8 : R % 8 = 0) : k * R % 8 = 0 := by
  obtain ⟨r, rfl⟩ : ∃ r, R = 8 * r := ⟨R / 8, by omega⟩
  rw [show k * (8 * r) = 8 * (k * r) by rw [Nat.mul_left_comm], Nat.mul_mod_right]

/-- A part behind which others come. -/
theorem whole_part {k : K} {d : List UInt8} {R C i : Nat} {T : Tb K UInt8} (h : Wi k d R C i T) (hi : i < C) (hR : 24 ≤ R) (h8 : R % 8 = 0) (hC : C * R ≤ d.length) (hd : d.length ≤ 8200) :
    (put 40 1000000 T i k true ((i * (R / 8) : Nat) : Int) (piece d R i)).2 = (none, 0) ∧ Wj k d R C i (put 40 1000000 T i k true ((i * (R / 8) : Nat) : Int) (piece d R i)).1 := by
  have hCi : i ≤ C * R := Nat.le_trans (Nat.le_of_lt hi) (Nat.le_mul_of_pos_right _ (by omega))
  have hp := pass_zero (t := T) (n := i) h.now (by omega)
  have hpl := piece_len d R i C hi hC
  have hml := mul_lt hi hC
  have hbad : bad true (piece d R i) = false := by
    simp only [bad, hpl, Bool.true_and, Bool.or_eq_false_iff, decide_eq_false_iff_not]
    omega
  have hg := put_good h.good (i : Int) k true ((i * (R / 8) : Nat) : Int) (piece d R i) (wait := 1000000)
  have hdr := put_dr h.good (i : Int) k true ((i * (R / 8) : Nat) : Int) (piece d R i) (wait := 1000000)
  have hdr0 := h.dr
  by_cases h0 : i = 0
  · subst h0
    have ht := h.start rfl
    subst ht
    simp only [Nat.zero_mul] at hg hdr ⊢
    obtain ⟨e1, e2, e3⟩ := PitotReasm.put_first (most := 40) (wait := 1000000) (t := t0) (n := ((0 : Nat) : Int)) (k := k) (d := piece d R 0) hp rfl hbad (by omega) (by simp [keep, t0])
    refine ⟨e1, hg, e3, by omega, fun _ => ?_⟩
    show find _ k = _
    rw [show PitotReasm.find (put 40 1000000 t0 ((0 : Nat) : Int) k true 0 (piece d R 0)).1.l k = find (put 40 1000000 t0 ((0 : Nat) : Int) k true 0 (piece d R 0)).1.l k from rfl] at e2
    have e4 : piece d R 0 = d.take ((0 + 1) * R) := by simp [piece]
    rw [← e4]
    exact e2
  · have hm := h.mid (by omega) (by omega)
    have hl : (d.take (i * R)).length = i * R := by simp; omega
    obtain ⟨e1, e2, e3⟩ := PitotReasm.put_more (most := 40) (wait := 1000000) (t := T) (n := i) (k := k) (b := ⟨k, 0, d.take (i * R)⟩) (d := piece d R i) (o := ((i * (R / 8) : Nat) : Int)) hp hm (by show (i : Int) - 0 ≤ _; omega) (by rw [hl]; exact mul_mod8 i R h8) (by rw [hl, mul_div8 i R h8]) (by
      have : 0 < i * (R / 8) := Nat.mul_pos (by omega) (by omega)
      omega) hbad (by rw [hl]; omega)
    refine ⟨e1, hg, e3, by omega, fun _ => ?_⟩
    rw [← take_step]
    exact e2
/-- The last part. -/
theorem whole_last {k : K} {d : List UInt8} {R C : Nat} {T : Tb K UInt8} (h : Wi k d R C C T) (hR : 24 ≤ R) (h8 : R % 8 = 0) (hC : C * R ≤ d.length) (hd : d.length ≤ 8200) :
    (put 40 1000000 T C k false ((C * (R / 8) : Nat) : Int) (d.drop (C * R))).2 = (some d, 0) ∧ Wj k d R C C (put 40 1000000 T C k false ((C * (R / 8) : Nat) : Int) (d.drop (C * R))).1 := by
  have hCi : C ≤ C * R := Nat.le_mul_of_pos_right _ (by omega)
  have hp := pass_zero (t := T) (n := C) h.now (by omega)
  have hg := put_good h.good (C : Int) k false ((C * (R / 8) : Nat) : Int) (d.drop (C * R)) (wait := 1000000)
  have hdr := put_dr h.good (C : Int) k false ((C * (R / 8) : Nat) : Int) (d.drop (C * R)) (wait := 1000000)
  have hnw := put_now hp k false ((C * (R / 8) : Nat) : Int) (d.drop (C * R)) (most := 40) (wait := 1000000)
  have hdr0 := h.dr
  refine ⟨?_, hg, hnw, by omega, fun e => absurd e (by omega)⟩
  by_cases h0 : C = 0
  · subst h0
    have ht := h.start rfl
    subst ht
    simp only [Nat.zero_mul, List.drop_zero]
    rw [show ((0 : Nat) : Int) = 0 from rfl] at hp ⊢
    rw [PitotReasm.put_alone (most := 40) (wait := 1000000) (t := t0) (n := 0) k d hp (by simp [t0])]
  · have hm := h.mid (by omega) (Nat.le_refl _)
    have hl : (d.take (C * R)).length = C * R := by simp; omega
    obtain ⟨e1, e2⟩ := PitotReasm.put_last (most := 40) (wait := 1000000) (t := T) (n := C) (k := k) (b := ⟨k, 0, d.take (C * R)⟩) (d := d.drop (C * R)) (o := ((C * (R / 8) : Nat) : Int)) hp hm (by show (C : Int) - 0 ≤ _; omega) (by rw [hl]; exact mul_mod8 C R h8) (by rw [hl, mul_div8 C R h8]) (by
      have : 0 < C * (R / 8) := Nat.mul_pos (by omega) (by omega)
      omega) (by rw [hl]; simp; omega)
    rw [e1, List.take_append_drop]

theorem own_fr {base b n : Nat} {W W' : World} {v : Value} {xs : List Value} (h : W.ownsRow b 34 14 v n xs) (hF : Fr base W W') : W'.ownsRow b 34 14 v n xs := by
  refine ⟨h.1, ?_⟩
  rcases h.2 with hn | ⟨g, cap, cur, e, hg, hcur, r⟩
  · exact .inl hn
  · exact .inr ⟨g, cap, cur, e, hg, hF.kind _ _ _ _ (by decide) (by decide) (by decide) hcur, r⟩
theorem own_below {b n : Nat} {W W' : World} {v : Value} {xs : List Value} (h : W.ownsRow b 34 14 v n xs) (hF : Below W.heap.size W W') : W'.ownsRow b 34 14 v n xs := by
  refine ⟨h.1, ?_⟩
  rcases h.2 with hn | ⟨g, cap, cur, e, hg, hcur, r⟩
  · exact .inl hn
  · exact .inr ⟨g, cap, cur, e, hg, (hF.block g (lies_lt hcur)).trans hcur, r⟩
theorem neqP (w : World) (p : Pk) : (binOp .neq 34 p.val p.val).run Try.prog w = .ok (.bool false) w := by
  have h := eqP p p w
  rw [pkb_self] at h
  simp only [binOp]
  simp [Op.equal, Op.maxDepth, h]
/-- A packet's ID, one more. -/
def idUp (p : Pk) : Pk := { p with id := wrap64 (p.id + 1) }
theorem idUp_wf {p : Pk} (h : p.Wf) : (idUp p).Wf := ⟨h.pr, wrap64_wf _⟩
theorem idUp_ne (p : Pk) : (idUp p).id ≠ p.id ∨ ¬ p.Wf := by
  by_cases hw : p.Wf
  · left
    have := hw.id
    have h2 := bounds_i64 this
    show wrap64 (p.id + 1) ≠ p.id
    rw [wrap64]
    omega
  · right; exact hw
end Go.Proofs.Ytgdjcoodjdckkaa
