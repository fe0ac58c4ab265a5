/- Plain facts on sums of 16 bits over lists of bytes. No conditions. -/
namespace Go.Proofs.PitotMath

/-- The numbers of 16 bits that bytes are, added (a byte 0 behind an odd length). -/
def s16 : List UInt8 → Nat
  | [] => 0
  | [a] => 256 * a.toNat
  | a :: b :: t => 256 * a.toNat + b.toNat + s16 t

/-- What is left when what runs over is taken in again. -/
def f16 (n : Nat) : Nat := if n = 0 then 0 else (n - 1) % 65535 + 1

theorem f16_small (n : Nat) (h : n ≤ 65535) : f16 n = n := by
  unfold f16; split <;> omega

theorem f16_le (n : Nat) : f16 n ≤ 65535 := by
  unfold f16; split <;> omega

theorem f16_step (n : Nat) (h : 65535 < n) : f16 (n / 65536 + n % 65536) = f16 n := by
  unfold f16
  have : n / 65536 + n % 65536 ≠ 0 := by omega
  rw [if_neg this, if_neg (by omega)]
  omega

theorem s16_even (l m : List UInt8) (h : l.length % 2 = 0) : s16 (l ++ m) = s16 l + s16 m := by
  match l, h with
  | [], _ => simp [s16]
  | [a], h => simp at h
  | a :: b :: t, h =>
    have := s16_even t m (by simp at h; omega)
    simp [s16, this]; omega

theorem s16_snoc (l : List UInt8) (c : UInt8) : s16 (l ++ [c]) = s16 l + if l.length % 2 = 0 then 256 * c.toNat else c.toNat := by
  match l with
  | [] => simp [s16]
  | [a] => simp [s16]
  | a :: b :: t =>
    have h1 := s16_snoc t c
    have h2 : (a :: b :: t).length % 2 = t.length % 2 := by simp only [List.length_cons]; omega
    rw [h2]
    show 256 * a.toNat + b.toNat + s16 (t ++ [c]) = 256 * a.toNat + b.toNat + s16 t + _
    omega

theorem s16_zero (l : List UInt8) : s16 (l ++ [0]) = s16 l := by
  rw [s16_snoc]; split <;> simp

theorem s16_le (l : List UInt8) : s16 l ≤ 65280 * l.length := by
  match l with
  | [] => simp [s16]
  | [a] => have := a.toNat_lt; simp [s16]; omega
  | a :: b :: t =>
    have := s16_le t
    have := a.toNat_lt
    have := b.toNat_lt
    simp [s16]; omega

/-- The sum of 16 bits of a text, turned about. -/
def ones (l : List UInt8) : Nat := 65535 - f16 (s16 l)

theorem ones_le (l : List UInt8) : ones l ≤ 65535 := by unfold ones; omega

theorem ones_zero (l : List UInt8) : ones (l ++ [0]) = ones l := by unfold ones; rw [s16_zero]

theorem ones_sealed (l : List UInt8) (h : l.length % 2 = 0) (a b : UInt8) (ha : a.toNat = ones l / 256) (hb : b.toNat = ones l % 256) : ones (l ++ [a, b]) = 0 := by
  have e : s16 (l ++ [a, b]) = s16 l + (65535 - f16 (s16 l)) := by
    rw [s16_even l _ h]; simp [s16, ha, hb]; unfold ones; have := f16_le (s16 l); omega
  unfold ones; rw [e]
  generalize s16 l = n
  unfold f16
  by_cases h0 : n = 0
  · subst h0; simp
  · rw [if_neg h0, if_neg (by omega)]; omega

/-- A number in so many bytes, the highest ones first. -/
def be : Nat → Nat → List UInt8
  | 0, _ => []
  | m + 1, n => be m (n / 256) ++ [UInt8.ofNat (n % 256)]

theorem be_length : ∀ (m n : Nat), (be m n).length = m
  | 0, _ => rfl
  | m + 1, n => by simp [be, be_length m]

theorem be_get? : ∀ (m n i : Nat), i < m → (be m n)[i]? = some (UInt8.ofNat (n / 256 ^ (m - 1 - i) % 256))
  | 0, _, _, h => by omega
  | m + 1, n, i, h => by
    by_cases hi : i < m
    · have e := be_get? m (n / 256) i hi
      rw [be, List.getElem?_append_left (by rw [be_length]; exact hi), e]
      have e2 : m + 1 - 1 - i = (m - 1 - i) + 1 := by omega
      rw [e2, Nat.pow_succ, Nat.mul_comm, ← Nat.div_div_eq_div_mul]
    · obtain rfl : i = m := by omega
      rw [be, List.getElem?_append_right (by rw [be_length]; exact Nat.le_refl _), be_length]
      simp

theorem pow_8 (j : Nat) : 2 ^ (8 * j) = 256 ^ j := by rw [Nat.pow_mul]

/-- The number that bytes are. -/
def num (l : List UInt8) : Nat := l.foldl (fun n c => 256 * n + c.toNat) 0

theorem num_snoc (l : List UInt8) (c : UInt8) : num (l ++ [c]) = 256 * num l + c.toNat := by simp [num]

theorem num_lt (l : List UInt8) : num l < 256 ^ l.length := by
  have h : ∀ (l : List UInt8) (n k : Nat), n < 256 ^ k → l.foldl (fun n c => 256 * n + c.toNat) n < 256 ^ (k + l.length) := by
    intro l
    induction l with
    | nil => intro n k h; simpa using h
    | cons c t ih =>
      intro n k h
      have hc := c.toNat_lt
      have := ih (256 * n + c.toNat) (k + 1) (by rw [Nat.pow_succ]; omega)
      simpa [Nat.add_assoc, Nat.add_comm 1] using this
  have := h l 0 0 (by simp)
  simpa [num] using this

theorem num_be : ∀ (m n : Nat), n < 256 ^ m → num (be m n) = n
  | 0, n, h => by simp at h; subst h; rfl
  | m + 1, n, h => by
    rw [be, num_snoc, num_be m (n / 256) (by rw [Nat.pow_succ] at h; omega)]
    simp; omega

theorem be_num (l : List UInt8) : be l.length (num l) = l := by
  have h : ∀ (n : Nat) (l : List UInt8), l.length = n → be n (num l) = l := by
    intro n
    induction n with
    | zero => intro l h; rw [List.length_eq_zero_iff] at h; subst h; rfl
    | succ n ih =>
      intro l h
      obtain ⟨t, c, rfl⟩ : ∃ t c, l = t ++ [c] := ⟨l.dropLast, l.getLast (by intro e; subst e; simp at h), (List.dropLast_concat_getLast _).symm⟩
      have hc := c.toNat_lt
      have e1 : (256 * num t + c.toNat) / 256 = num t := by omega
      have e2 : (256 * num t + c.toNat) % 256 = c.toNat := by omega
      rw [num_snoc, be, e1, e2, ih t (by simp at h; omega)]
      simp
  exact h _ l rfl

end Go.Proofs.PitotMath
