/- Contracts of the document's Writer (the reference): fits, Num, bytes, Put, Text, Bits, Bytes. -/
import Derived.Test.YtbdhneoicfciiaaWb
namespace Go.Proofs.Ytbdhneoicfciiaa
open Go.RowKit Go.Proofs.PitotMath

theorem be_cons : ∀ (k n : Nat), be (k + 1) n = UInt8.ofNat (n / 256 ^ k % 256) :: be k n
  | 0, n => by simp [be]
  | k + 1, n => by
    have h := be_cons k (n / 256)
    rw [be, h, be]
    have e : n / 256 / 256 ^ k = n / 256 ^ (k + 1) := by rw [Nat.pow_succ, Nat.mul_comm, Nat.div_div_eq_div_mul]
    rw [e]
    rfl

set_option maxHeartbeats 400000 in
theorem fits_any (n : Int) (m : Nat) (w : World) (hm : m ≤ 32) :
    Calls Try.prog 42 #[.int .i64 n, .int .i64 m] w fun e w' => e = .returned (.bool (fitsB n m)) ∧ w = w' := by
  obtain ⟨R, HR⟩ : ∃ R, Hid (R = fitsB n m) := ⟨_, rfl⟩
  rw [← HR.out]
  go_enter Try.func42, Try.ntmps42
  go_wp2
  go_loop [5, 6] (fun v5 v6 => ∃ k M : Nat, k ≤ m ∧ v6 = .int .i64 k ∧ v5 = .int .i64 M ∧ M ≤ 4294967296 ∧ Hid (M = 2 ^ k)) (fun _ v6 => m - (intOf v6).toNat)
  case atStart => exact ⟨0, 1, Nat.zero_le _, rfl, rfl, by omega, rfl⟩
  case round =>
    obtain ⟨k, M, hk, rfl, rfl, hM, HM⟩ := hrel
    by_cases hlt : k < m
    · have h2 : 2 * M ≤ 4294967296 := by
        have e := HM.out
        have : 2 ^ (k + 1) ≤ 2 ^ 32 := Nat.pow_le_pow_right (by omega) (by omega)
        rw [Nat.pow_succ] at this
        omega
      go_wp2
      go_round
      case rel => exact ⟨k + 1, 2 * M, by omega, by go_num, by go_num, h2, by show _ = _; rw [HM.out, Nat.pow_succ]; omega⟩
      case measure => simp [intOf]; omega
    · have hfin : Hid (fitsB n m = decide (0 ≤ n ∧ n < (M : Int))) := by
        show _ = _
        unfold fitsB
        have : k = m := by omega
        rw [HM.out, this]
        simp
      by_cases hn : 0 ≤ n
      · go_wp2
        go_returns
        exact ⟨ret_bool (by rw [HR.out, hfin.out]; simp [hn]), rfl⟩
      · go_wp2
        go_returns
        exact ⟨ret_bool (by rw [HR.out, hfin.out]; simp; omega), rfl⟩

theorem cat_one (c : UInt8) (l : List UInt8) : (⟨#[c]⟩ : ByteArray) ++ (⟨l.toArray⟩ : ByteArray) = ⟨(c :: l).toArray⟩ := by
  apply ByteArray.ext; simp

set_option maxHeartbeats 400000 in
theorem num_any (n m : Nat) (w : World) (hm : m ≤ 4) (hn : n ≤ 4294967296) :
    Calls Try.prog 43 #[.int .i64 n, .int .i64 m] w fun e w' => e = .returned (.string ⟨(be m n).toArray⟩) ∧ Below w.heap.size w w' := by
  go_enter Try.func43, Try.ntmps43
  go_wp2
  go_loopw [0, 5, 6] (fun v0 v5 v6 wr => ∃ (k j : Nat) (s : ByteArray), k ≤ m ∧ v6 = .int .i64 k ∧ v0 = .int .i64 j ∧ j ≤ n ∧ Hid (j = n / 256 ^ k) ∧ v5 = .string s ∧ s.size ≤ 4 ∧ Hid (s = ⟨(be k n).toArray⟩) ∧ Below w.heap.size w wr) (fun _ _ v6 _ => m - (intOf v6).toNat)
  case atStart => exact ⟨0, n, ⟨#[]⟩, Nat.zero_le _, rfl, rfl, Nat.le_refl _, by show n = n / 256 ^ 0; simp, rfl, by decide, rfl, Below.refl _ _⟩
  case round =>
    obtain ⟨k, j, s, hk, rfl, rfl, hj, Hj, rfl, hs, Hs, hb⟩ := hrel
    by_cases hlt : k < m
    · have hc := conv_one wr (UInt8.ofNat (j % 256)) ((j : Int) % 256) (by simp)
      have hsz : s.size + 1 ≤ 4 := by rw [Hs.out]; show (be k n).toArray.size + 1 ≤ 4; simp [be_length]; omega
      go_wp2
      go_roundw
      case rel =>
        refine ⟨k + 1, j / 256, (⟨#[UInt8.ofNat (j % 256)]⟩ : ByteArray) ++ s, by omega, by go_num, by go_num, by omega, ?_, rfl, ?_, ?_, ?_⟩
        · show _ = _
          rw [Hj.out, Nat.pow_succ, Nat.div_div_eq_div_mul]
        · rw [ByteArray.size_append]; show 1 + s.size ≤ 4; omega
        · show _ = _
          rw [Hs.out, cat_one, be_cons, Hj.out]
        · exact hb.alloc hb.size _
      case measure => simp [intOf]; omega
    · go_wp2
      go_returns
      refine ⟨?_, hb⟩
      show Ending.returned (.string s) = _
      rw [Hs.out, show k = m by omega]

/-- The sum of widths as the document's answer reckons it. -/
def rsum : List Int → Int → Option Int
  | [], s => some s
  | x :: t, s => if x < 1 ∨ 32 < x ∨ 32 < s then none else rsum t (s + x)

def refBytes (xs : List Int) : Int := match rsum xs 0 with
  | none => 0
  | some s => if okSum s = true then s / 8 else 0

theorem rsum_over {xs : List Int} {s : Int} (h : 32 < s) : rsum xs s = none ∨ rsum xs s = some s := by
  cases xs with
  | nil => exact .inr rfl
  | cons x t => left; simp only [rsum]; rw [if_pos (by omega)]

theorem rsum_tog : ∀ (xs : List Int) (s : Int), 0 ≤ s → s ≤ 32 → (∃ t, togGo xs s = some t ∧ rsum xs s = some t) ∨ (togGo xs s = none ∧ (rsum xs s = none ∨ ∃ t, 32 < t ∧ rsum xs s = some t))
  | [], s, _, _ => .inl ⟨s, rfl, rfl⟩
  | x :: t, s, h0, h1 => by
    simp only [togGo, rsum]
    by_cases h : x < 1 ∨ 32 - s < x
    · rw [if_pos h]
      right
      refine ⟨rfl, ?_⟩
      by_cases h' : x < 1 ∨ 32 < x ∨ 32 < s
      · rw [if_pos h']; exact .inl rfl
      · rw [if_neg h']
        rcases rsum_over (xs := t) (s := s + x) (by omega) with e | e
        · exact .inl e
        · exact .inr ⟨s + x, by omega, e⟩
    · rw [if_neg h, if_neg (by omega)]
      exact rsum_tog t (s + x) (by omega) (by omega)

theorem refBytes_eq (xs : List Int) : refBytes xs = if (togRes xs).2 = true then (togRes xs).1 else 0 := by
  unfold refBytes
  rcases rsum_tog xs 0 (by omega) (by omega) with ⟨t, h1, h2⟩ | ⟨h1, h2 | ⟨t, h3, h2⟩⟩
  · rw [togRes_some h1, h2]
  · rw [togRes_none h1, h2]; rfl
  · rw [togRes_none h1, h2]
    have : okSum t = false := by simp [okSum]; omega
    simp [this]

theorem rsum_cons {xs : List Int} {k : Nat} (hk : k < xs.length) (s : Int) : rsum (xs.drop k) s = if xs[k] < 1 ∨ 32 < xs[k] ∨ 32 < s then none else rsum (xs.drop (k + 1)) (s + xs[k]) := by
  rw [List.drop_eq_getElem_cons hk]; rfl

theorem refBytes_none {xs : List Int} (h : rsum xs 0 = none) : refBytes xs = 0 := by unfold refBytes; rw [h]
theorem refBytes_some {xs : List Int} {s : Int} (h : rsum xs 0 = some s) : refBytes xs = if okSum s = true then s / 8 else 0 := by unfold refBytes; rw [h]

set_option maxHeartbeats 400000 in
theorem rbytes_any (A : Option Addr) (cap : Nat) (xs : List Int) (w : World) (hx : IntsAt w A xs) (hl : xs.length ≤ 1000000) (n : Nat) (hn : n = xs.length) :
    Calls Try.prog 44 #[.slice A n cap] w fun e w' => e = .returned (.int .i64 (refBytes xs)) ∧ w = w' := by
  obtain ⟨R, HR⟩ : ∃ R, Hid (R = refBytes xs) := ⟨_, rfl⟩
  rw [← HR.out]
  have Hn := Lib.hid hn
  rw [← hn] at hl
  clear hn
  go_enter Try.func44, Try.ntmps44
  go_wp2
  go_loop [3, 4] (fun v3 v4 => ∃ (k : Nat) (s : Int), k ≤ n ∧ v4 = .int .i64 k ∧ v3 = .int .i64 s ∧ 0 ≤ s ∧ s ≤ 64 ∧ Hid (rsum (xs.drop k) s = rsum xs 0)) (fun _ v4 => n - (intOf v4).toNat)
  case atStart => exact ⟨0, 0, Nat.zero_le _, rfl, rfl, by omega, by omega, rfl⟩
  case round =>
    obtain ⟨k, s, hk, rfl, rfl, hs0, hs1, ht⟩ := hrel
    by_cases hlt : k < n
    · have hlt' : k < xs.length := by rw [← Hn.out]; exact hlt
      obtain ⟨b, off, rfl, _, hc⟩ := hx.get hlt'
      have hcs := rsum_cons hlt' s
      obtain ⟨x, Hx⟩ : ∃ x, Hid (x = xs[k]) := ⟨xs[k], rfl⟩
      rw [← Hx.out] at hc hcs
      have HC := Lib.hid hcs
      clear hcs
      by_cases hg : x < 1 ∨ 32 < x ∨ 32 < s
      · have hz : Hid (R = 0) := by show _ = _; rw [HR.out, refBytes_none (by rw [← ht.out, HC.out, if_pos hg])]
        by_cases hg1 : x < 1
        · go_wp2
          go_returns
          exact ⟨ret_int hz.out.symm, rfl⟩
        · by_cases hg2 : 32 < x
          · go_wp2
            go_returns
            exact ⟨ret_int hz.out.symm, rfl⟩
          · have hg3 : 32 < s := by omega
            go_wp2
            go_returns
            exact ⟨ret_int hz.out.symm, rfl⟩
      · go_wp2
        go_round
        case rel => exact ⟨k + 1, s + x, by omega, by go_num, rfl, by omega, by omega, by show rsum _ _ = _; rw [← ht.out, HC.out, if_neg hg]⟩
        case measure => simp [intOf]; omega
    · have hfin : Hid (refBytes xs = if okSum s = true then s / 8 else 0) := by
        show _ = _
        refine refBytes_some ?_
        rw [← ht.out, List.drop_of_length_le (by rw [← Hn.out]; omega)]; rfl
      by_cases h8 : s = 8
      · subst h8
        go_wp2
        go_returns
        exact ⟨ret_int (by rw [HR.out, hfin.out]; rfl), rfl⟩
      · by_cases h16 : s = 16
        · subst h16
          go_wp2
          go_returns
          exact ⟨ret_int (by rw [HR.out, hfin.out]; rfl), rfl⟩
        · by_cases h32 : s = 32
          · subst h32
            go_wp2
            go_returns
            exact ⟨ret_int (by rw [HR.out, hfin.out]; rfl), rfl⟩
          · have e8 : (s == 8) = false := by simpa using h8
            have e16 : (s == 16) = false := by simpa using h16
            have e32 : (s == 32) = false := by simpa using h32
            have hz : okSum s = false := by unfold okSum; rw [e8, e16, e32]; rfl
            have HZ := Lib.hid hz; clear hz h8 h16 h32
            go_wp2
            go_returns
            exact ⟨ret_int (by rw [HR.out, hfin.out, HZ.out]; rfl), rfl⟩
end Go.Proofs.Ytbdhneoicfciiaa
