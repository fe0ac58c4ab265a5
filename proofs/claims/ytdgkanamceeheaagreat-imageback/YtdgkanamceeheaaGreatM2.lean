/- Plain facts on sums of 16 bits over lists of bytes. No conditions. -/
set_option linter.unusedVariables false
namespace Go.Proofs.PitotMath

/-- The numbers of 16 bits that bytes are, added (a byte 0 behind an odd length). -/
def s16 : List UInt8 → Nat
  | [] => 0
  | [a] => 256 * a.toNat
  | a :: b :: t => 256 * a.toNat + b.toNat + s16 t

/-- What is left when what runs over is taken in again. -/
def f16 (n : Nat) : Nat := if n = 0 then 0 else (n - 1) % 65535 + 1

/-- The sum of 16 bits of a text, turned about. -/
def ones (l : List UInt8) : Nat := 65535 - f16 (s16 l)

/-- A number in so many bytes, the highest ones first. -/
def be : Nat → Nat → List UInt8
  | 0, _ => []
  | m + 1, n => be m (n / 256) ++ [UInt8.ofNat (n % 256)]

theorem be_length : ∀ (m n : Nat), (be m n).length = m
  | 0, _ => rfl
  | m + 1, n => by simp [be, be_length m]

theorem be_get? : ∀ (m n i : Nat), i < m → (be m n)[i]? = some (UInt8.ofNat (n / 256 ^ (m - 1 - i) % 256))
  | 0, _, _, h => by omega
  | m + 1, n, i, h => by
    by_cases hi : i < m
    · have e := be_get? m (n / 256) i hi
      rw [be, List.getElem?_append_left (by rw [be_length]; exact hi), e]
      have e2 : m + 1 - 1 - i = (m - 1 - i) + 1 := by omega
      rw [e2, Nat.pow_succ, Nat.mul_comm, ← Nat.div_div_eq_div_mul]
    · obtain rfl : i = m := by omega
      rw [be, List.getElem?_append_right (by rw [be_length]; exact Nat.le_refl _), be_length]
      simp

theorem pow_8 (j : Nat) : 2 ^ (8 * j) = 256 ^ j := by rw [Nat.pow_mul]

/-- The number that bytes are. -/
def num (l : List UInt8) : Nat := l.foldl (fun n c => 256 * n + c.toNat) 0

theorem num_snoc (l : List UInt8) (c : UInt8) : num (l ++ [c]) = 256 * num l + c.toNat := by simp [num]

theorem num_lt (l : List UInt8) : num l < 256 ^ l.length := by
  have h : ∀ (l : List UInt8) (n k : Nat), n < 256 ^ k → l.foldl (fun n c => 256 * n + c.toNat) n < 256 ^ (k + l.length) := by
    intro l
    induction l with
    | nil => intro n k h; simpa using h
    | cons c t ih =>
      intro n k h
      have hc := c.toNat_lt
      have := ih (256 * n + c.toNat) (k + 1) (by rw [Nat.pow_succ]; omega)
      simpa [Nat.add_assoc, Nat.add_comm 1] using this
  have := h l 0 0 (by simp)
  simpa [num] using this

theorem num_be : ∀ (m n : Nat), n < 256 ^ m → num (be m n) = n
  | 0, n, h => by simp at h; subst h; rfl
  | m + 1, n, h => by
    rw [be, num_snoc, num_be m (n / 256) (by rw [Nat.pow_succ] at h; omega)]
    simp; omega

theorem be_num (l : List UInt8) : be l.length (num l) = l := by
  have h : ∀ (n : Nat) (l : List UInt8), l.length = n → be n (num l) = l := by
    intro n
    induction n with
    | zero => intro l h; rw [List.length_eq_zero_iff] at h; subst h; rfl
    | succ n ih =>
      intro l h
      obtain ⟨t, c, rfl⟩ : ∃ t c, l = t ++ [c] := ⟨l.dropLast, l.getLast (by intro e; subst e; simp at h), (List.dropLast_concat_getLast _).symm⟩
      have hc := c.toNat_lt
      have e1 : (256 * num t + c.toNat) / 256 = num t := by omega
      have e2 : (256 * num t + c.toNat) % 256 = c.toNat := by omega
      rw [num_snoc, be, e1, e2, ih t (by simp at h; omega)]
      simp
  exact h _ l rfl

end Go.Proofs.PitotMath
/- Plain facts on the check sum of 32 bits over lists of bytes. No conditions. -/
namespace Go.Proofs.PitotCrc

/-- One step: a bit is moved out; where it was 1 the polynomial is taken in. -/
def st (c : Nat) : Nat := if c % 2 = 1 then (c / 2) ^^^ 3988292384 else c / 2

def sts : Nat → Nat → Nat
  | 0, c => c
  | k + 1, c => st (sts k c)

/-- Eight steps. -/
def mv (c : Nat) : Nat := sts 8 c

/-- A byte taken into a number. -/
def tk (c : Nat) (b : UInt8) : Nat := mv (c ^^^ b.toNat)

/-- Bytes taken into a number. -/
def go (c : Nat) (l : List UInt8) : Nat := l.foldl tk c

/-- The check sum. -/
def sum (l : List UInt8) : Nat := 4294967295 ^^^ go 4294967295 l

/-- Four bytes, the lowest ones first. -/
def le4 (n : Nat) : List UInt8 := [UInt8.ofNat (n % 256), UInt8.ofNat (n / 256 % 256), UInt8.ofNat (n / 65536 % 256), UInt8.ofNat (n / 16777216 % 256)]

def sealed (l : List UInt8) : List UInt8 := l ++ le4 (sum l)

theorem xor_half (a b : Nat) : (a ^^^ b) / 2 = (a / 2) ^^^ (b / 2) := by
  apply Nat.eq_of_testBit_eq
  intro i
  simp [Nat.testBit_div_two]

theorem xor_par (a b : Nat) : (a ^^^ b) % 2 = (a % 2 + b % 2) % 2 := by
  have h : (a ^^^ b) % 2 ^ 1 = (a % 2 ^ 1) ^^^ (b % 2 ^ 1) := Nat.xor_mod_two_pow
  have ha : a % 2 = 0 ∨ a % 2 = 1 := by omega
  have hb : b % 2 = 0 ∨ b % 2 = 1 := by omega
  rw [Nat.pow_one] at h
  rw [h]
  rcases ha with ha | ha <;> rcases hb with hb | hb <;> rw [ha, hb] <;> rfl

theorem st_lt (c : Nat) (h : c < 4294967296) : st c < 4294967296 := by
  unfold st
  split
  · exact Nat.xor_lt_two_pow (n := 32) (by omega) (by decide)
  · omega

theorem st_xor (a b : Nat) : st (a ^^^ b) = st a ^^^ st b := by
  unfold st
  rw [xor_half, xor_par]
  have ha : a % 2 = 0 ∨ a % 2 = 1 := by omega
  have hb : b % 2 = 0 ∨ b % 2 = 1 := by omega
  generalize a / 2 = x
  generalize b / 2 = y
  generalize 3988292384 = p
  rcases ha with ha | ha <;> rcases hb with hb | hb <;> simp only [ha, hb] <;> simp
  · rw [Nat.xor_assoc]
  · rw [Nat.xor_assoc, Nat.xor_assoc, Nat.xor_comm p y]
  · rw [Nat.xor_assoc, ← Nat.xor_assoc p y p, Nat.xor_comm p y, Nat.xor_assoc y p p, Nat.xor_self, Nat.xor_zero]

theorem sts_xor : ∀ (k a b : Nat), sts k (a ^^^ b) = sts k a ^^^ sts k b
  | 0, _, _ => rfl
  | k + 1, a, b => by rw [sts, sts_xor k, st_xor]; rfl

theorem sts_lt : ∀ (k c : Nat), c < 4294967296 → sts k c < 4294967296
  | 0, _, h => h
  | k + 1, c, h => st_lt _ (sts_lt k c h)

theorem mv_xor (a b : Nat) : mv (a ^^^ b) = mv a ^^^ mv b := sts_xor 8 a b
theorem mv_lt (c : Nat) (h : c < 4294967296) : mv c < 4294967296 := sts_lt 8 c h

theorem st_even (x : Nat) : st (2 * x) = x := by
  unfold st; rw [if_neg (by omega)]; omega

theorem mv_256 (h : Nat) : mv (256 * h) = h := by
  have e : 256 * h = 2 * (2 * (2 * (2 * (2 * (2 * (2 * (2 * h))))))) := by omega
  rw [e]
  simp only [mv, sts, st_even]

theorem split_256 (c : Nat) : c = 256 * (c / 256) ^^^ (c % 256) := by
  apply Nat.eq_of_testBit_eq
  intro i
  rw [Nat.testBit_xor, show (256 : Nat) = 2 ^ 8 from rfl, Nat.testBit_two_pow_mul, Nat.testBit_mod_two_pow, Nat.testBit_div_two_pow]
  by_cases h : i < 8
  · simp [h, show ¬ 8 ≤ i by omega]
  · simp [h, show 8 ≤ i by omega]

/-- What the table does: the lowest byte alone is looked up. -/
theorem tk_table (c : Nat) (b : UInt8) : tk c b = mv ((c % 256) ^^^ b.toNat) ^^^ (c / 256) := by
  unfold tk
  have e : c ^^^ b.toNat = 256 * (c / 256) ^^^ ((c % 256) ^^^ b.toNat) := by
    rw [← Nat.xor_assoc, ← split_256]
  rw [e, mv_xor, mv_256, Nat.xor_comm]

theorem tk_lt (c : Nat) (b : UInt8) (h : c < 4294967296) : tk c b < 4294967296 :=
  mv_lt _ (Nat.xor_lt_two_pow (n := 32) h (by have := b.toNat_lt; omega))

theorem go_snoc (c : Nat) (l : List UInt8) (b : UInt8) : go c (l ++ [b]) = tk (go c l) b := by simp [go]
theorem go_append (c : Nat) (l m : List UInt8) : go c (l ++ m) = go (go c l) m := by simp [go]
theorem go_lt (c : Nat) (l : List UInt8) (h : c < 4294967296) : go c l < 4294967296 := by
  induction l generalizing c with
  | nil => exact h
  | cons b t ih => exact ih _ (tk_lt c b h)

theorem sum_lt (l : List UInt8) : sum l < 4294967296 :=
  Nat.xor_lt_two_pow (n := 32) (by decide) (go_lt _ _ (by decide))

theorem le4_length (n : Nat) : (le4 n).length = 4 := rfl

theorem le4_inj (a b : Nat) (ha : a < 4294967296) (hb : b < 4294967296) (h : le4 a = le4 b) : a = b := by
  unfold le4 at h
  simp only [List.cons.injEq, and_true] at h
  obtain ⟨h0, h1, h2, h3⟩ := h
  have g : ∀ x y : Nat, UInt8.ofNat (x % 256) = UInt8.ofNat (y % 256) → x % 256 = y % 256 := by
    intro x y h
    have := congrArg UInt8.toNat h
    simpa using this
  have := g _ _ h0
  have := g _ _ h1
  have := g _ _ h2
  have := g _ _ h3
  omega

theorem xor_eq_zero (a b : Nat) (h : a ^^^ b = 0) : a = b := by
  have h1 : a ^^^ b ^^^ b = b := by rw [h, Nat.zero_xor]
  rwa [Nat.xor_assoc, Nat.xor_self, Nat.xor_zero] at h1

theorem st_zero (c : Nat) (hc : c < 4294967296) (h : st c = 0) : c = 0 := by
  unfold st at h
  split at h
  · have := xor_eq_zero _ _ h; omega
  · omega

theorem sts_zero : ∀ (k c : Nat), c < 4294967296 → sts k c = 0 → c = 0
  | 0, _, _, h => h
  | k + 1, c, hc, h => sts_zero k c hc (st_zero _ (sts_lt k c hc) h)

theorem mv_inj (a b : Nat) (ha : a < 4294967296) (hb : b < 4294967296) (h : mv a = mv b) : a = b := by
  refine xor_eq_zero a b (sts_zero 8 _ (Nat.xor_lt_two_pow (n := 32) ha hb) ?_)
  show mv (a ^^^ b) = 0
  rw [mv_xor, h, Nat.xor_self]

theorem xor_cancel (a b c : Nat) (h : a ^^^ c = b ^^^ c) : a = b := by
  have h1 := congrArg (· ^^^ c) h
  simpa [Nat.xor_assoc] using h1

theorem tk_inj_c (a b : Nat) (x : UInt8) (ha : a < 4294967296) (hb : b < 4294967296) (h : tk a x = tk b x) : a = b := by
  have hx := x.toNat_lt
  exact xor_cancel _ _ _ (mv_inj _ _ (Nat.xor_lt_two_pow (n := 32) ha (by omega)) (Nat.xor_lt_two_pow (n := 32) hb (by omega)) h)

theorem tk_inj_b (c : Nat) (x y : UInt8) (hc : c < 4294967296) (h : tk c x = tk c y) : x = y := by
  have hx := x.toNat_lt
  have hy := y.toNat_lt
  have h1 := mv_inj _ _ (Nat.xor_lt_two_pow (n := 32) hc (by omega)) (Nat.xor_lt_two_pow (n := 32) hc (by omega)) h
  rw [Nat.xor_comm c, Nat.xor_comm c] at h1
  exact UInt8.toNat.inj (xor_cancel _ _ _ h1)

theorem go_inj (l : List UInt8) (a b : Nat) (ha : a < 4294967296) (hb : b < 4294967296) (h : go a l = go b l) : a = b := by
  induction l generalizing a b with
  | nil => exact h
  | cons x t ih => exact tk_inj_c a b x ha hb (ih _ _ (tk_lt a x ha) (tk_lt b x hb) h)

/-- One byte that is another one makes another sum. -/
theorem sum_turn (l m : List UInt8) (x y : UInt8) (h : sum (l ++ x :: m) = sum (l ++ y :: m)) : x = y := by
  unfold sum at h
  rw [Nat.xor_comm, Nat.xor_comm 4294967295] at h
  have h1 := xor_cancel _ _ _ h
  rw [go_append, go_append] at h1
  have hl := go_lt 4294967295 l (by decide)
  exact tk_inj_b _ _ _ hl (go_inj m _ _ (tk_lt _ _ hl) (tk_lt _ _ hl) h1)

theorem sealed_length (l : List UInt8) : (sealed l).length = l.length + 4 := by simp [sealed, le4_length]

/-- A text of four bytes or more is sealed, or not. -/
def opened (l : List UInt8) : Bool := decide (sealed (l.take (l.length - 4)) = l)

theorem opened_iff (l : List UInt8) (_h : 4 ≤ l.length) : opened l = decide (l.drop (l.length - 4) = le4 (sum (l.take (l.length - 4)))) := by
  unfold opened sealed
  rw [Bool.eq_iff_iff]
  simp only [decide_eq_true_eq]
  constructor
  · intro e
    have e2 : l.take (l.length - 4) ++ l.drop (l.length - 4) = l := List.take_append_drop _ _
    have e3 := e.trans e2.symm
    exact (List.append_cancel_left e3).symm
  · intro e
    rw [← e]; exact List.take_append_drop _ _

theorem opened_sealed (l : List UInt8) : opened (sealed l) = true := by
  unfold opened
  rw [sealed_length]
  simp [sealed]

theorem set_split (l : List UInt8) (k : Nat) (h : k < l.length) (v : UInt8) : l.set k v = l.take k ++ v :: l.drop (k + 1) := by
  rw [List.set_eq_take_append_cons_drop, if_pos h]

/-- A sealed text of which one byte is another one is none. -/
theorem opened_turn (l : List UInt8) (k : Nat) (hk : k < (sealed l).length) (v : UInt8) (hv : v ≠ (sealed l)[k]) : opened ((sealed l).set k v) = false := by
  have hlen := sealed_length l
  cases hop : opened ((sealed l).set k v) with
  | false => rfl
  | true =>
    exfalso
    have hs : ((sealed l).set k v).length = l.length + 4 := by simp [hlen]
    have h1 := (opened_iff ((sealed l).set k v) (by omega)).symm.trans hop
    rw [decide_eq_true_eq, hs] at h1
    have e4 : l.length + 4 - 4 = l.length := by omega
    rw [e4] at h1
    by_cases hkl : k < l.length
    · have hd : ((sealed l).set k v).drop l.length = le4 (sum l) := by
        rw [List.drop_set_of_lt hkl]; simp [sealed]
      have ht : ((sealed l).set k v).take l.length = l.set k v := by
        rw [List.take_set]; simp [sealed]
      rw [hd, ht] at h1
      have h2 := le4_inj _ _ (sum_lt _) (sum_lt _) h1
      rw [set_split l k hkl] at h2
      have e : l = l.take k ++ l[k] :: l.drop (k + 1) := by
        rw [← List.drop_eq_getElem_cons hkl, List.take_append_drop]
      have h3 := sum_turn (l.take k) (l.drop (k + 1)) l[k] v (by rw [← e]; exact h2)
      apply hv
      rw [← h3]
      simp [sealed, List.getElem_append_left hkl]
    · have ht : ((sealed l).set k v).take l.length = l := by
        rw [List.take_set_of_le (by omega)]; simp [sealed]
      rw [ht] at h1
      have h2 : (sealed l).set k v = sealed l := by
        have := List.take_append_drop l.length ((sealed l).set k v)
        rw [ht, h1] at this
        exact this.symm
      apply hv
      have h3 := List.getElem_set_self (l := sealed l) (i := k) (a := v) (by simpa using hk)
      rw [← h3]
      simp only [h2]

theorem sum_go (l : List UInt8) : sum l = 4294967295 ^^^ go 4294967295 l := rfl

end Go.Proofs.PitotCrc
