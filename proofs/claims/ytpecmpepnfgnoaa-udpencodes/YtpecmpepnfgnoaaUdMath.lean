/- Plain facts on datagrams of UDP as lists of bytes. No conditions. -/
import Derived.Test.YtpecmpepnfgnoaaIpMath
namespace Go.Proofs.PitotUdp
open Go.Proofs.PitotAddr
open Go.Proofs.PitotIp (Q4 Q4.bytes f16_close lo_toNat)
open Go.Proofs.PitotMath (s16 f16 ones s16_even f16_le ones_le)

/-- One byte of a list is another one: its sum of 16 bits. -/
theorem s16_set : ∀ (l : List UInt8) (j : Nat) (h : j < l.length) (x : UInt8), s16 (l.set j x) + (if j % 2 = 0 then 256 else 1) * (l[j]).toNat = s16 l + (if j % 2 = 0 then 256 else 1) * x.toNat
  | [], j, h, x => by simp at h
  | [a], j, h, x => by
    have : j = 0 := by simp at h; omega
    subst this
    simp [s16]; omega
  | a :: b :: t, 0, h, x => by simp [s16]; omega
  | a :: b :: t, 1, h, x => by simp [s16]; omega
  | a :: b :: t, j + 2, h, x => by
    have ih := s16_set t j (by simp at h; omega) x
    have e : (j + 2) % 2 = j % 2 := by omega
    simp only [List.set_cons_succ, s16, List.getElem_cons_succ, e]
    omega

/-- The first eight bytes, whatever they are. -/
structure D8 where
  f1 : UInt8
  f0 : UInt8
  t1 : UInt8
  t0 : UInt8
  n1 : UInt8
  n0 : UInt8
  s1 : UInt8
  s0 : UInt8
def D8.front (h : D8) : List UInt8 := [h.f1, h.f0, h.t1, h.t0, h.n1, h.n0]
def D8.list (h : D8) : List UInt8 := h.front ++ [h.s1, h.s0]
/-- .. with the sum's bytes being 0. -/
def D8.bare (h : D8) : List UInt8 := h.front ++ [0, 0]
theorem D8.list_length (h : D8) : h.list.length = 8 := rfl
theorem D8.bare_length (h : D8) : h.bare.length = 8 := rfl
theorem D8.of (l : List UInt8) (h : 8 ≤ l.length) : ∃ (x : D8) (t : List UInt8), l = x.list ++ t := by
  match l, h with
  | x0 :: x1 :: x2 :: x3 :: x4 :: x5 :: x6 :: x7 :: t, _ => exact ⟨⟨x0, x1, x2, x3, x4, x5, x6, x7⟩, t, rfl⟩
theorem D8.inj {h g : D8} (e : h.list = g.list) : h = g := by
  obtain ⟨_, _, _, _, _, _, _, _⟩ := h
  obtain ⟨_, _, _, _, _, _, _, _⟩ := g
  simp [D8.list, D8.front] at e
  simp [e]

/-- What the sum is taken of, ahead of the datagram. -/
def ahead (src dst : Q4) (n : Nat) : List UInt8 := src.bytes ++ dst.bytes ++ [0, 17, hi n, lo n]
theorem ahead_length (src dst : Q4) (n : Nat) : (ahead src dst n).length = 12 := rfl
theorem ahead_pos (src dst : Q4) (n : Nat) : 17 ≤ s16 (ahead src dst n) := by
  simp [ahead, Q4.bytes, s16]; omega
def fixS (n : Nat) : Nat := if n = 0 then 65535 else n
/-- The sum of a datagram whose sum's bytes are 0. -/
def sumOf (src dst : Q4) (m : List UInt8) : Nat := fixS (ones (ahead src dst m.length ++ m))
theorem sumOf_le (src dst : Q4) (m : List UInt8) : sumOf src dst m ≤ 65535 := by
  have := ones_le (ahead src dst m.length ++ m)
  unfold sumOf fixS
  split <;> omega
theorem sumOf_pos (src dst : Q4) (m : List UInt8) : 1 ≤ sumOf src dst m := by
  unfold sumOf fixS
  split <;> omega
theorem ones_small (src dst : Q4) (m : List UInt8) : ones (ahead src dst m.length ++ m) = 65535 - f16 (s16 (ahead src dst m.length) + s16 m) ∧ 1 ≤ f16 (s16 (ahead src dst m.length) + s16 m) ∧ f16 (s16 (ahead src dst m.length) + s16 m) ≤ 65535 := by
  have hp := ahead_pos src dst m.length
  refine ⟨by unfold ones; rw [s16_even _ _ (by rw [ahead_length])], ?_, f16_le _⟩
  unfold f16
  rw [if_neg (by omega)]
  omega

/-- Two datagrams of one length of which one byte differs have other sums. -/
theorem sum_told (src dst : Q4) (m : List UInt8) (j : Nat) (hj : j < m.length) (x : UInt8) (hx : m[j] ≠ x) : sumOf src dst (m.set j x) ≠ sumOf src dst m := by
  have h1 := ones_small src dst m
  have h2 := ones_small src dst (m.set j x)
  have hl : (m.set j x).length = m.length := by simp
  rw [hl] at h2
  have hs := s16_set m j hj x
  have hp := ahead_pos src dst m.length
  have hne : (m[j]).toNat ≠ x.toNat := fun e => hx (UInt8.toNat_inj.1 e)
  have b1 := (m[j]).toNat_lt
  have b2 := x.toNat_lt
  have hcl := f16_close (s16 (ahead src dst m.length) + s16 m) (s16 (ahead src dst m.length) + s16 (m.set j x)) (by omega) (by omega)
  unfold sumOf
  rw [hl, h1.1, h2.1]
  generalize f16 (s16 (ahead src dst m.length) + s16 m) = A at *
  generalize f16 (s16 (ahead src dst m.length) + s16 (m.set j x)) = B at *
  intro e
  have hAB : A = B := by
    unfold fixS at e
    split at e <;> split at e <;> omega
  have := hcl hAB (by split at hs <;> omega) (by split at hs <;> omega)
  split at hs <;> omega

def D8.all (h : D8) : Nat := num h.n1 h.n0
/-- Why there is no datagram; 0: there is one. -/
def uerr (src dst : Q4) (h : D8) (t : List UInt8) : Int :=
  if h.all < 8 ∨ 8200 < h.all then 15 else if 8 + t.length < h.all then 10 else if h.all < 8 + t.length then 11
  else if num h.s1 h.s0 ≠ 0 ∧ num h.s1 h.s0 ≠ sumOf src dst (h.bare ++ t) then 12 else 0

/-- What is written. -/
def dg (n from_ to_ sum : Nat) : D8 := ⟨hi from_, lo from_, hi to_, lo to_, hi n, lo n, hi sum, lo sum⟩
def dgOk (src dst : Q4) (from_ to_ : Nat) (d : List UInt8) : D8 := dg (8 + d.length) from_ to_ (sumOf src dst ((dg (8 + d.length) from_ to_ 0).list ++ d))
theorem dg_bare (n from_ to_ a b : Nat) : (dg n from_ to_ a).bare = (dg n from_ to_ b).bare := rfl
theorem dg_zero (n from_ to_ : Nat) : (dg n from_ to_ 0).list = (dg n from_ to_ 0).bare := rfl
/-- A datagram's bytes. -/
def bytes (src dst : Q4) (from_ to_ : Nat) (d : List UInt8) : List UInt8 := (dgOk src dst from_ to_ d).list ++ d
theorem bytes_length (src dst : Q4) (from_ to_ : Nat) (d : List UInt8) : (bytes src dst from_ to_ d).length = 8 + d.length := by simp [bytes, D8.list_length]

theorem dgOk_all (src dst : Q4) (from_ to_ : Nat) (d : List UInt8) (h : d.length ≤ 8192) : (dgOk src dst from_ to_ d).all = 8 + d.length := num_hi_lo _ (by omega)
theorem dg_bare0 (n from_ to_ S : Nat) : (dg n from_ to_ S).bare = (dg n from_ to_ 0).list := rfl
theorem dgOk_eq (src dst : Q4) (from_ to_ : Nat) (d : List UInt8) : ∃ S, S ≤ 65535 ∧ S = sumOf src dst ((dg (8 + d.length) from_ to_ 0).list ++ d) ∧ dgOk src dst from_ to_ d = dg (8 + d.length) from_ to_ S := ⟨_, sumOf_le _ _ _, rfl, by unfold dgOk; rfl⟩
theorem dgOk_sum (src dst : Q4) (from_ to_ : Nat) (d : List UInt8) : num (dgOk src dst from_ to_ d).s1 (dgOk src dst from_ to_ d).s0 = sumOf src dst ((dgOk src dst from_ to_ d).bare ++ d) := by
  obtain ⟨S, h1, h2, h3⟩ := dgOk_eq src dst from_ to_ d
  rw [h3, dg_bare0, ← h2]
  exact num_hi_lo S (by omega)
theorem dgOk_from (src dst : Q4) (from_ to_ : Nat) (d : List UInt8) (h : from_ < 65536) : num (dgOk src dst from_ to_ d).f1 (dgOk src dst from_ to_ d).f0 = from_ := num_hi_lo _ h
theorem dgOk_to (src dst : Q4) (from_ to_ : Nat) (d : List UInt8) (h : to_ < 65536) : num (dgOk src dst from_ to_ d).t1 (dgOk src dst from_ to_ d).t0 = to_ := num_hi_lo _ h

/-- What was encoded is decoded. -/
theorem back (src dst : Q4) (from_ to_ : Nat) (d : List UInt8) (h : d.length ≤ 8192) : uerr src dst (dgOk src dst from_ to_ d) d = 0 := by
  have h1 := dgOk_all src dst from_ to_ d h
  have h2 := dgOk_sum src dst from_ to_ d
  unfold uerr
  rw [h1, if_neg (by omega), if_neg (by omega), if_neg (by omega), if_neg (by rw [h2]; simp)]

/-- The end is missing; something is behind. -/
theorem cut (src dst : Q4) (from_ to_ : Nat) (d t : List UInt8) (h : d.length ≤ 8192) (ht : t.length < d.length) : uerr src dst (dgOk src dst from_ to_ d) t = 10 := by
  unfold uerr
  rw [dgOk_all src dst from_ to_ d h, if_neg (by omega), if_pos (by omega)]
theorem more (src dst : Q4) (from_ to_ : Nat) (d t : List UInt8) (h : d.length ≤ 8192) (ht : d.length < t.length) : uerr src dst (dgOk src dst from_ to_ d) t = 11 := by
  unfold uerr
  rw [dgOk_all src dst from_ to_ d h, if_neg (by omega), if_neg (by omega), if_pos (by omega)]
/-- No sum: taken from and to any addresses. -/
theorem none_sum (src dst : Q4) (h : D8) (d : List UInt8) (h1 : h.all = 8 + d.length) (h2 : d.length ≤ 8192) (hs : num h.s1 h.s0 = 0) : uerr src dst h d = 0 := by
  unfold uerr
  rw [h1, if_neg (by omega), if_neg (by omega), if_neg (by omega), if_neg (by simp [hs])]

/-- A datagram of which one byte is another one, but of the length and of a sum that becomes 0, has another sum. -/
theorem told (src dst : Q4) (from_ to_ : Nat) (d : List UInt8) (h : d.length ≤ 8192) (g : D8) (u : List UInt8) (j : Nat) (hj : j < 8 + d.length) (h4 : j ≠ 4) (h5 : j ≠ 5) (x : UInt8)
    (hx : (bytes src dst from_ to_ d)[j]? ≠ some x) (e : g.list ++ u = (bytes src dst from_ to_ d).set j x) (hz : num g.s1 g.s0 ≠ 0) : uerr src dst g u = 12 := by
  have hall := dgOk_all src dst from_ to_ d h
  have hsum := dgOk_sum src dst from_ to_ d
  unfold bytes at hx e
  generalize dgOk src dst from_ to_ d = k at *
  have hlen : u.length = d.length := by
    have := congrArg List.length e
    simp [D8.list_length] at this
    exact this
  have key : g.all = k.all ∧ num g.s1 g.s0 ≠ sumOf src dst (g.bare ++ u) := by
    by_cases hj8 : j < 8
    · rw [List.set_append_left _ _ (by rw [D8.list_length]; exact hj8)] at e
      obtain ⟨e1, e2⟩ := List.append_inj e (by simp [D8.list_length])
      subst e2
      rw [List.getElem?_append_left (by rw [D8.list_length]; exact hj8)] at hx
      obtain ⟨kf1, kf0, kt1, kt0, kn1, kn0, ks1, ks0⟩ := k
      obtain ⟨gf1, gf0, gt1, gt0, gn1, gn0, gs1, gs0⟩ := g
      have hb : ∀ (q : Nat) (hq : q < 6), ([kf1, kf0, kt1, kt0, kn1, kn0, 0, 0] ++ u)[q]? ≠ some x → sumOf src dst (([kf1, kf0, kt1, kt0, kn1, kn0, 0, 0] ++ u).set q x) ≠ sumOf src dst ([kf1, kf0, kt1, kt0, kn1, kn0, 0, 0] ++ u) := fun q hq hne =>
        sum_told src dst _ q (by simp; omega) x (fun e => hne (by rw [List.getElem?_eq_getElem (by simp; omega), e]))
      have : j = 0 ∨ j = 1 ∨ j = 2 ∨ j = 3 ∨ j = 6 ∨ j = 7 := by omega
      rcases this with rfl | rfl | rfl | rfl | rfl | rfl
      all_goals
        simp [D8.list, D8.front] at e1 hx
        obtain ⟨rfl, rfl, rfl, rfl, rfl, rfl, rfl, rfl⟩ := e1
        refine ⟨rfl, ?_⟩
      · have := hb 0 (by omega) (by simpa using hx)
        simp [D8.bare, D8.front] at this hsum ⊢
        rw [hsum]; exact fun e => this e.symm
      · have := hb 1 (by omega) (by simpa using hx)
        simp [D8.bare, D8.front] at this hsum ⊢
        rw [hsum]; exact fun e => this e.symm
      · have := hb 2 (by omega) (by simpa using hx)
        simp [D8.bare, D8.front] at this hsum ⊢
        rw [hsum]; exact fun e => this e.symm
      · have := hb 3 (by omega) (by simpa using hx)
        simp [D8.bare, D8.front] at this hsum ⊢
        rw [hsum]; exact fun e => this e.symm
      · simp only [D8.bare, D8.front] at hsum ⊢
        rw [← hsum]
        intro q
        apply hx
        apply UInt8.toNat_inj.1
        unfold num at q
        omega
      · simp only [D8.bare, D8.front] at hsum ⊢
        rw [← hsum]
        intro q
        apply hx
        apply UInt8.toNat_inj.1
        unfold num at q
        omega
    · rw [List.set_append_right _ _ (by rw [D8.list_length]; omega), D8.list_length] at e
      obtain ⟨e1, e2⟩ := List.append_inj e rfl
      obtain rfl := D8.inj e1
      refine ⟨rfl, ?_⟩
      rw [List.getElem?_append_right (by rw [D8.list_length]; omega), D8.list_length] at hx
      have hjd : j - 8 < d.length := by omega
      have := sum_told src dst (g.bare ++ d) j (by simp [D8.bare_length]; omega) x (fun e => hx (by
        rw [List.getElem_append_right (by rw [D8.bare_length]; omega)] at e
        rw [List.getElem?_eq_getElem hjd]
        simpa [D8.bare_length] using e))
      rw [List.set_append_right _ _ (by rw [D8.bare_length]; omega), D8.bare_length, ← e2] at this
      rw [hsum]
      exact fun e => this e.symm
  unfold uerr
  rw [key.1, hall, if_neg (by omega), if_neg (by omega), if_neg (by omega), if_pos ⟨hz, key.2⟩]
end Go.Proofs.PitotUdp
