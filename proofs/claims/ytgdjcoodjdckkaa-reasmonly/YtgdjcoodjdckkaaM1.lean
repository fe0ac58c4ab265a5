/- Merged: BiMath, AdMath, IpMath, Ky, BiOnes, BiWr, BiWt, BiWb, Wi, FrMath, Ro, BiRd, BiRef, BiRw, BiRx. -/
import Derived.Test.YtgdjcoodjdckkaaProg
import Derived.Maps.RangeWalk
import Derived.DeepKeys3
import Derived.Test.YtgdjcoodjdckkaaRows
import Derived.WalkKit
import Derived.WalkSpells
import Derived.WalkLawsBesides
import Derived.BigQuiet
import Derived.Laws.BitsAllLaws
import Derived.Laws.BitsLemmas
import Derived.Deep.QuietTactic
import Derived.Lib.Hide
import Derived.BigRegion
import Derived.Handy
import Derived.Below
import Derived.IntWalk
import Derived.Deep.RegionHeld3
set_option linter.unusedVariables false
/- Plain facts on sums of 16 bits over lists of bytes. No conditions. -/
namespace Go.Proofs.PitotMath

/-- The numbers of 16 bits that bytes are, added (a byte 0 behind an odd length). -/
def s16 : List UInt8 → Nat
  | [] => 0
  | [a] => 256 * a.toNat
  | a :: b :: t => 256 * a.toNat + b.toNat + s16 t

/-- What is left when what runs over is taken in again. -/
def f16 (n : Nat) : Nat := if n = 0 then 0 else (n - 1) % 65535 + 1

theorem f16_small (n : Nat) (h : n ≤ 65535) : f16 n = n := by
  unfold f16; split <;> omega

theorem f16_le (n : Nat) : f16 n ≤ 65535 := by
  unfold f16; split <;> omega

theorem f16_step (n : Nat) (h : 65535 < n) : f16 (n / 65536 + n % 65536) = f16 n := by
  unfold f16
  have : n / 65536 + n % 65536 ≠ 0 := by omega
  rw [if_neg this, if_neg (by omega)]
  omega

theorem s16_even (l m : List UInt8) (h : l.length % 2 = 0) : s16 (l ++ m) = s16 l + s16 m := by
  match l, h with
  | [], _ => simp [s16]
  | [a], h => simp at h
  | a :: b :: t, h =>
    have := s16_even t m (by simp at h; omega)
    simp [s16, this]; omega

theorem s16_snoc (l : List UInt8) (c : UInt8) : s16 (l ++ [c]) = s16 l + if l.length % 2 = 0 then 256 * c.toNat else c.toNat := by
  match l with
  | [] => simp [s16]
  | [a] => simp [s16]
  | a :: b :: t =>
    have h1 := s16_snoc t c
    have h2 : (a :: b :: t).length % 2 = t.length % 2 := by simp only [List.length_cons]; omega
    rw [h2]
    show 256 * a.toNat + b.toNat + s16 (t ++ [c]) = 256 * a.toNat + b.toNat + s16 t + _
    omega

theorem s16_zero (l : List UInt8) : s16 (l ++ [0]) = s16 l := by
  rw [s16_snoc]; split <;> simp

theorem s16_le (l : List UInt8) : s16 l ≤ 65280 * l.length := by
  match l with
  | [] => simp [s16]
  | [a] => have := a.toNat_lt; simp [s16]; omega
  | a :: b :: t =>
    have := s16_le t
    have := a.toNat_lt
    have := b.toNat_lt
    simp [s16]; omega

/-- The sum of 16 bits of a text, turned about. -/
def ones (l : List UInt8) : Nat := 65535 - f16 (s16 l)

theorem ones_le (l : List UInt8) : ones l ≤ 65535 := by unfold ones; omega

theorem ones_zero (l : List UInt8) : ones (l ++ [0]) = ones l := by unfold ones; rw [s16_zero]

theorem ones_sealed (l : List UInt8) (h : l.length % 2 = 0) (a b : UInt8) (ha : a.toNat = ones l / 256) (hb : b.toNat = ones l % 256) : ones (l ++ [a, b]) = 0 := by
  have e : s16 (l ++ [a, b]) = s16 l + (65535 - f16 (s16 l)) := by
    rw [s16_even l _ h]; simp [s16, ha, hb]; unfold ones; have := f16_le (s16 l); omega
  unfold ones; rw [e]
  generalize s16 l = n
  unfold f16
  by_cases h0 : n = 0
  · subst h0; simp
  · rw [if_neg h0, if_neg (by omega)]; omega

/-- A number in so many bytes, the highest ones first. -/
def be : Nat → Nat → List UInt8
  | 0, _ => []
  | m + 1, n => be m (n / 256) ++ [UInt8.ofNat (n % 256)]

theorem be_length : ∀ (m n : Nat), (be m n).length = m
  | 0, _ => rfl
  | m + 1, n => by simp [be, be_length m]

theorem be_get? : ∀ (m n i : Nat), i < m → (be m n)[i]? = some (UInt8.ofNat (n / 256 ^ (m - 1 - i) % 256))
  | 0, _, _, h => by omega
  | m + 1, n, i, h => by
    by_cases hi : i < m
    · have e := be_get? m (n / 256) i hi
      rw [be, List.getElem?_append_left (by rw [be_length]; exact hi), e]
      have e2 : m + 1 - 1 - i = (m - 1 - i) + 1 := by omega
      rw [e2, Nat.pow_succ, Nat.mul_comm, ← Nat.div_div_eq_div_mul]
    · obtain rfl : i = m := by omega
      rw [be, List.getElem?_append_right (by rw [be_length]; exact Nat.le_refl _), be_length]
      simp

theorem pow_8 (j : Nat) : 2 ^ (8 * j) = 256 ^ j := by rw [Nat.pow_mul]

/-- The number that bytes are. -/
def num (l : List UInt8) : Nat := l.foldl (fun n c => 256 * n + c.toNat) 0

theorem num_snoc (l : List UInt8) (c : UInt8) : num (l ++ [c]) = 256 * num l + c.toNat := by simp [num]

theorem num_lt (l : List UInt8) : num l < 256 ^ l.length := by
  have h : ∀ (l : List UInt8) (n k : Nat), n < 256 ^ k → l.foldl (fun n c => 256 * n + c.toNat) n < 256 ^ (k + l.length) := by
    intro l
    induction l with
    | nil => intro n k h; simpa using h
    | cons c t ih =>
      intro n k h
      have hc := c.toNat_lt
      have := ih (256 * n + c.toNat) (k + 1) (by rw [Nat.pow_succ]; omega)
      simpa [Nat.add_assoc, Nat.add_comm 1] using this
  have := h l 0 0 (by simp)
  simpa [num] using this

theorem num_be : ∀ (m n : Nat), n < 256 ^ m → num (be m n) = n
  | 0, n, h => by simp at h; subst h; rfl
  | m + 1, n, h => by
    rw [be, num_snoc, num_be m (n / 256) (by rw [Nat.pow_succ] at h; omega)]
    simp; omega

theorem be_num (l : List UInt8) : be l.length (num l) = l := by
  have h : ∀ (n : Nat) (l : List UInt8), l.length = n → be n (num l) = l := by
    intro n
    induction n with
    | zero => intro l h; rw [List.length_eq_zero_iff] at h; subst h; rfl
    | succ n ih =>
      intro l h
      obtain ⟨t, c, rfl⟩ : ∃ t c, l = t ++ [c] := ⟨l.dropLast, l.getLast (by intro e; subst e; simp at h), (List.dropLast_concat_getLast _).symm⟩
      have hc := c.toNat_lt
      have e1 : (256 * num t + c.toNat) / 256 = num t := by omega
      have e2 : (256 * num t + c.toNat) % 256 = c.toNat := by omega
      rw [num_snoc, be, e1, e2, ih t (by simp at h; omega)]
      simp
  exact h _ l rfl

end Go.Proofs.PitotMath
/- Plain: two bytes of a number; what an address is of. -/
namespace Go.Proofs.PitotAddr

def hi (n : Nat) : UInt8 := UInt8.ofNat (n / 256 % 256)
def lo (n : Nat) : UInt8 := UInt8.ofNat (n % 256)
def num (h l : UInt8) : Nat := 256 * h.toNat + l.toNat

theorem num_lt (h l : UInt8) : num h l < 65536 := by have := h.toNat_lt; have := l.toNat_lt; unfold num; omega
theorem hi_nat (n : Nat) : (hi n).toNat = n / 256 % 256 := by simp [hi]
theorem lo_nat (n : Nat) : (lo n).toNat = n % 256 := by simp [lo]
theorem hi_num (h l : UInt8) : hi (num h l) = h := by
  apply UInt8.toNat_inj.1; rw [hi_nat]; have := h.toNat_lt; have := l.toNat_lt; unfold num; omega
theorem lo_num (h l : UInt8) : lo (num h l) = l := by
  apply UInt8.toNat_inj.1; rw [lo_nat]; have := h.toNat_lt; have := l.toNat_lt; unfold num; omega
theorem num_hi_lo (n : Nat) (h : n < 65536) : num (hi n) (lo n) = n := by unfold num; rw [hi_nat, lo_nat]; omega

/-- An address of Ethernet. -/
structure M6 where
  a : UInt8
  b : UInt8
  c : UInt8
  d : UInt8
  e : UInt8
  f : UInt8
deriving DecidableEq, Inhabited

def M6.bytes (m : M6) : List UInt8 := [m.a, m.b, m.c, m.d, m.e, m.f]
theorem M6.bytes_inj {m n : M6} (h : m.bytes = n.bytes) : m = n := by
  cases m; cases n; simpa [M6.bytes] using h

/-- Its number, if it is one of a virtual link; else 0. -/
def M6.isVL (m : M6) : Bool := m.a == 3 && m.b == 0 && m.c == 0 && m.d == 0 && decide (1 ≤ num m.e m.f)
def M6.vl (m : M6) : Nat := if m.isVL then num m.e m.f else 0
/-- .. of an end system. -/
def M6.isEnd (m : M6) (net : Nat) : Bool := m.a == 2 && m.b == 0 && m.c == 0 && decide (num m.d m.e ≤ 4095) && decide (m.f.toNat = 32 * (net + 1))
end Go.Proofs.PitotAddr
/- Plain facts on packets of IP as lists of bytes. No conditions. -/
namespace Go.Proofs.PitotIp
open Go.Proofs.PitotAddr
open Go.Proofs.PitotMath (s16 f16 ones)

/-- An address of IP. -/
structure Q4 where
  a : UInt8
  b : UInt8
  c : UInt8
  d : UInt8
deriving DecidableEq, Inhabited
def Q4.bytes (q : Q4) : List UInt8 := [q.a, q.b, q.c, q.d]

/-- The first twenty bytes, whatever they are. -/
structure H20 where
  k : UInt8
  z : UInt8
  n1 : UInt8
  n0 : UInt8
  i1 : UInt8
  i0 : UInt8
  p1 : UInt8
  p0 : UInt8
  t : UInt8
  r : UInt8
  s1 : UInt8
  s0 : UInt8
  src : Q4
  dst : Q4
def H20.front (h : H20) : List UInt8 := [h.k, h.z, h.n1, h.n0, h.i1, h.i0, h.p1, h.p0, h.t, h.r]
def H20.back (h : H20) : List UInt8 := [h.src.a, h.src.b, h.src.c, h.src.d, h.dst.a, h.dst.b, h.dst.c, h.dst.d]
def H20.list (h : H20) : List UInt8 := h.front ++ [h.s1, h.s0] ++ h.back
/-- .. with the sum's bytes being 0. -/
def H20.bare (h : H20) : List UInt8 := h.front ++ [0, 0] ++ h.back
theorem H20.list_length (h : H20) : h.list.length = 20 := rfl
theorem H20.bare_length (h : H20) : h.bare.length = 20 := rfl
theorem of10 (l : List UInt8) (h : 10 ≤ l.length) : ∃ (x0 x1 x2 x3 x4 x5 x6 x7 x8 x9 : UInt8) (t : List UInt8), l = x0 :: x1 :: x2 :: x3 :: x4 :: x5 :: x6 :: x7 :: x8 :: x9 :: t := by
  match l, h with
  | x0 :: x1 :: x2 :: x3 :: x4 :: x5 :: x6 :: x7 :: x8 :: x9 :: t, _ => exact ⟨x0, x1, x2, x3, x4, x5, x6, x7, x8, x9, t, rfl⟩
theorem H20.of (l : List UInt8) (h : 20 ≤ l.length) : ∃ (x : H20) (t : List UInt8), l = x.list ++ t := by
  obtain ⟨x0, x1, x2, x3, x4, x5, x6, x7, x8, x9, t, rfl⟩ := of10 l (by omega)
  obtain ⟨y0, y1, y2, y3, y4, y5, y6, y7, y8, y9, t, rfl⟩ := of10 t (by simp at h; omega)
  exact ⟨⟨x0, x1, x2, x3, x4, x5, x6, x7, x8, x9, y0, y1, ⟨y2, y3, y4, y5⟩, ⟨y6, y7, y8, y9⟩⟩, t, rfl⟩

/-- The sum that it should have, and the number of bytes in all, the part. -/
def H20.sum (h : H20) : Nat := ones h.bare
def H20.all (h : H20) : Nat := num h.n1 h.n0
def H20.part (h : H20) : Nat := num h.p1 h.p0
/-- It is taken. -/
structure H20.Good (h : H20) : Prop where
  k : h.k = 69
  z : h.z = 0
  all : 20 ≤ h.all
  part : h.part < 16384
  sum : num h.s1 h.s0 = h.sum

/-- What is written. -/
def head (n id part ttl proto sum : Nat) (src dst : Q4) : H20 := ⟨69, 0, hi n, lo n, hi id, lo id, hi part, lo part, lo ttl, lo proto, hi sum, lo sum, src, dst⟩
def headOk (n id part ttl proto : Nat) (src dst : Q4) : H20 := head n id part ttl proto (head n id part ttl proto 0 src dst).sum src dst
/-- A packet's bytes. -/
def bytes (id part ttl proto : Nat) (src dst : Q4) (d : List UInt8) : List UInt8 := (headOk (20 + d.length) id part ttl proto src dst).list ++ d

theorem bytes_length (id part ttl proto : Nat) (src dst : Q4) (d : List UInt8) : (bytes id part ttl proto src dst d).length = 20 + d.length := by
  simp [bytes, H20.list_length]
theorem head_sum (n id part ttl proto a b : Nat) (src dst : Q4) : (head n id part ttl proto a src dst).sum = (head n id part ttl proto b src dst).sum := rfl
theorem head_bare (n id part ttl proto : Nat) (src dst : Q4) : (head n id part ttl proto 0 src dst).list = (head n id part ttl proto 0 src dst).bare := rfl

theorem headOk_good (n id part ttl proto : Nat) (src dst : Q4) (h1 : 20 ≤ n) (h2 : n < 65536) (h3 : part < 16384) : (headOk n id part ttl proto src dst).Good := by
  refine ⟨rfl, rfl, ?_, ?_, ?_⟩
  · show 20 ≤ num (hi n) (lo n); rw [num_hi_lo n h2]; exact h1
  · show num (hi part) (lo part) < 16384; rw [num_hi_lo part (by omega)]; exact h3
  · show num (hi _) (lo _) = _
    have := PitotMath.ones_le (head n id part ttl proto 0 src dst).bare
    rw [num_hi_lo _ (by unfold H20.sum; omega)]
    rfl
theorem headOk_all (n id part ttl proto : Nat) (src dst : Q4) (h : n < 65536) : (headOk n id part ttl proto src dst).all = n := num_hi_lo n h
theorem headOk_part (n id part ttl proto : Nat) (src dst : Q4) (h : part < 65536) : (headOk n id part ttl proto src dst).part = part := num_hi_lo part h
theorem headOk_id (n id part ttl proto : Nat) (src dst : Q4) (h : id < 65536) : num (headOk n id part ttl proto src dst).i1 (headOk n id part ttl proto src dst).i0 = id := num_hi_lo id h

theorem lo_toNat (c : UInt8) : lo c.toNat = c := by apply UInt8.toNat_inj.1; rw [lo_nat]; exact Nat.mod_eq_of_lt c.toNat_lt

/-- What is taken is what is written. -/
theorem good_head (h : H20) (g : h.Good) : h = headOk h.all (num h.i1 h.i0) h.part h.t.toNat h.r.toNat h.src h.dst := by
  have e1 : head h.all (num h.i1 h.i0) h.part h.t.toNat h.r.toNat (num h.s1 h.s0) h.src h.dst = h := by
    obtain ⟨k, z, n1, n0, i1, i0, p1, p0, t, r, s1, s0, src, dst⟩ := h
    have gk := g.k
    have gz := g.z
    simp only at gk gz
    simp [head, H20.all, H20.part, hi_num, lo_num, lo_toNat, gk, gz]
  have e2 : (head h.all (num h.i1 h.i0) h.part h.t.toNat h.r.toNat 0 h.src h.dst).sum = num h.s1 h.s0 := by
    rw [head_sum _ _ _ _ _ _ (num h.s1 h.s0), e1, g.sum]
  rw [headOk, e2, e1]

theorem again (h : H20) (g : h.Good) (t : List UInt8) (hl : h.all ≤ 20 + t.length) :
    bytes (num h.i1 h.i0) h.part h.t.toNat h.r.toNat h.src h.dst (t.take (h.all - 20)) = (h.list ++ t).take h.all := by
  have h1 := g.all
  have e : 20 + (t.take (h.all - 20)).length = h.all := by simp; omega
  have e3 : h.list.take h.all = h.list := List.take_of_length_le (by rw [h.list_length]; exact h1)
  rw [bytes, e, ← good_head h g, List.take_append, h.list_length, e3]

/-- The sum of 16 bits of the first twenty bytes. -/
theorem bare_s16 (h : H20) : s16 h.bare = 256 * h.k.toNat + h.z.toNat + (256 * h.n1.toNat + h.n0.toNat) + (256 * h.i1.toNat + h.i0.toNat) + (256 * h.p1.toNat + h.p0.toNat) + (256 * h.t.toNat + h.r.toNat)
    + (256 * h.src.a.toNat + h.src.b.toNat) + (256 * h.src.c.toNat + h.src.d.toNat) + (256 * h.dst.a.toNat + h.dst.b.toNat) + (256 * h.dst.c.toNat + h.dst.d.toNat) := by
  simp [H20.bare, H20.front, H20.back, s16]; omega

theorem f16_close (m n : Nat) (hm : 0 < m) (hn : 0 < n) (h : f16 m = f16 n) (h1 : m < n + 65535) (h2 : n < m + 65535) : m = n := by
  unfold f16 at h
  rw [if_neg (by omega), if_neg (by omega)] at h
  omega
theorem byte_eq {a b : UInt8} (h : a.toNat = b.toNat) : a = b := UInt8.toNat_inj.1 h

set_option maxHeartbeats 2000000 in
/-- Two heads that are taken and of which all bytes but one are the same are the same: so a byte that is another one is told. -/
theorem told (h g : H20) (hh : h.Good) (hg : g.Good) (j : Nat) (hj : j < 20) (x : UInt8) (e : g.list = h.list.set j x) : g.list = h.list := by
  obtain ⟨hk, hz, _, _, hs⟩ := hh
  obtain ⟨gk, gz, _, _, gs⟩ := hg
  unfold H20.sum ones at hs gs
  have hle := PitotMath.f16_le (s16 h.bare)
  have gle := PitotMath.f16_le (s16 g.bare)
  have hb := bare_s16 h
  have gb := bare_s16 g
  have kk : h.k.toNat = 69 := by rw [hk]; rfl
  have jk : g.k.toNat = 69 := by rw [gk]; rfl
  have hpos : 0 < s16 h.bare := by omega
  have gpos : 0 < s16 g.bare := by omega
  have hcl := f16_close _ _ hpos gpos
  generalize s16 h.bare = S at *
  generalize s16 g.bare = T at *
  have hx := x.toNat_lt
  have key : (num h.s1 h.s0 = num g.s1 g.s0 → f16 S = f16 T) ∧ (S = T → num h.s1 h.s0 = num g.s1 g.s0) := ⟨fun q => by omega, fun q => by subst q; omega⟩
  clear hs gs hle gle
  unfold num at key
  obtain ⟨k1, k2⟩ := key
  obtain ⟨hk0, hz0, hn1, hn0, hi1, hi0, hp1, hp0, ht, hr, hs1, hs0, ⟨ha, hb', hc, hd⟩, ⟨ha2, hb2, hc2, hd2⟩⟩ := h
  obtain ⟨gk0, gz0, gn1, gn0, gi1, gi0, gp1, gp0, gt, gr, gs1, gs0, ⟨ga, gb', gc, gd⟩, ⟨ga2, gb2, gc2, gd2⟩⟩ := g
  simp only at *
  have b1 := hn1.toNat_lt; have b2 := hn0.toNat_lt; have b3 := hi1.toNat_lt; have b4 := hi0.toNat_lt; have b5 := hp1.toNat_lt; have b6 := hp0.toNat_lt; have b7 := ht.toNat_lt; have b8 := hr.toNat_lt
  have b9 := hs1.toNat_lt; have b10 := hs0.toNat_lt
  have d1 := ha.toNat_lt; have d2 := hb'.toNat_lt; have d3 := hc.toNat_lt; have d4 := hd.toNat_lt; have d5 := ha2.toNat_lt; have d6 := hb2.toNat_lt; have d7 := hc2.toNat_lt; have d8 := hd2.toNat_lt
  have : j = 0 ∨ j = 1 ∨ j = 2 ∨ j = 3 ∨ j = 4 ∨ j = 5 ∨ j = 6 ∨ j = 7 ∨ j = 8 ∨ j = 9 ∨ j = 10 ∨ j = 11 ∨ j = 12 ∨ j = 13 ∨ j = 14 ∨ j = 15 ∨ j = 16 ∨ j = 17 ∨ j = 18 ∨ j = 19 := by omega
  rcases this with rfl | rfl | rfl | rfl | rfl | rfl | rfl | rfl | rfl | rfl | rfl | rfl | rfl | rfl | rfl | rfl | rfl | rfl | rfl | rfl
  all_goals
    simp [H20.list, H20.front, H20.back] at e
    obtain ⟨e0, e1, e2, e3, e4, e5, e6, e7, e8, e9, e10, e11, e12, e13, e14, e15, e16, e17, e18, e19⟩ := e
    subst e0 e1 e2 e3 e4 e5 e6 e7 e8 e9 e10 e11 e12 e13 e14 e15 e16 e17 e18 e19
    simp only [H20.list, H20.front, H20.back]
  case inl => rw [gk, hk]
  case inr.inl => rw [gz, hz]
  all_goals
    simp only [List.cons_append, List.nil_append, List.cons.injEq, and_true, true_and]
    refine byte_eq ?_
    first
      | (have q := hcl (k1 rfl) (by omega) (by omega); omega; done)
      | (have q := k2 (by omega); omega; done)
end Go.Proofs.PitotIp
/- A packet's Key as the key of a map: what it is told as, and that no two are told as the same. -/
set_option maxRecDepth 100000
namespace Go.Proofs.Ytgdjcoodjdckkaa
open Go.RowKit Go.Proofs.PitotIp Go.Maps

/-- A Key. -/
structure K where
  a : Q4
  b : Q4
  pr : Int
  id : Int
  hp : (Lit.int .i64 pr).wf = true
  hi : (Lit.int .i64 id).wf = true
deriving DecidableEq
abbrev K.val (k : K) : Value := .agg #[.int .u8 k.a.a.toNat, .int .u8 k.a.b.toNat, .int .u8 k.a.c.toNat, .int .u8 k.a.d.toNat, .int .u8 k.b.a.toNat, .int .u8 k.b.b.toNat, .int .u8 k.b.c.toNat, .int .u8 k.b.d.toNat, .int .i64 k.pr, .int .i64 k.id]
abbrev K.enc (k : K) : List Value := [.int .u8 k.a.a.toNat, .int .u8 k.a.b.toNat, .int .u8 k.a.c.toNat, .int .u8 k.a.d.toNat, .int .u8 k.b.a.toNat, .int .u8 k.b.b.toNat, .int .u8 k.b.c.toNat, .int .u8 k.b.d.toNat, .int .i64 k.pr, .int .i64 k.id]

theorem u8_inj {x y : UInt8} (h : (x.toNat : Int) = y.toNat) : x = y := UInt8.toNat_inj.1 (by omega)
theorem K.val_inj {x y : K} (h : x.val = y.val) : x = y := by
  obtain ⟨⟨a, b, c, d⟩, ⟨e, f, g, h'⟩, p, i, hp, hi⟩ := x
  obtain ⟨⟨a', b', c', d'⟩, ⟨e', f', g', h''⟩, p', i', hp', hi'⟩ := y
  simp only [K.val, Value.agg.injEq, Array.mk.injEq, List.cons.injEq, Value.int.injEq, true_and, and_true] at h
  obtain ⟨h1, h2, h3, h4, h5, h6, h7, h8, h9, h10⟩ := h
  obtain rfl := u8_inj h1; obtain rfl := u8_inj h2; obtain rfl := u8_inj h3; obtain rfl := u8_inj h4
  obtain rfl := u8_inj h5; obtain rfl := u8_inj h6; obtain rfl := u8_inj h7; obtain rfl := u8_inj h8
  subst h9; subst h10
  rfl

theorem wf_byte (a : UInt8) : (Lit.int .u8 (a.toNat : Int)).wf = true := by
  have := a.toNat_lt
  simp [Lit.wf, IntKind.min, IntKind.max, IntKind.signed, IntKind.bits]
  omega
theorem wide52 : (match Try.prog.underlying 52 with | some (.array _ _) | some (.struct _) => true | _ => false) = true := by kernel_rfl
theorem law52 : Keyed Try.prog 52 := Keyed.of_law (deep_law (m := 3) (by omega) (by kernel_rfl) (by kernel_rfl) wide52)

theorem lits5 (D : Nat) (a : UInt8) : Try.prog.keyLits (D + 1) 5 [.int .u8 a.toNat] = some [.int .u8 a.toNat] := by
  unfold Program.keyLits
  rw [Try.underlying5]
  simp only
  rw [if_pos ⟨trivial, wf_byte a⟩]
theorem lits3 (D : Nat) (x : Int) (h : (Lit.int .i64 x).wf = true) : Try.prog.keyLits (D + 1) 3 [.int .i64 x] = some [.int .i64 x] := by
  unfold Program.keyLits
  rw [Try.underlying3]
  simp only
  rw [if_pos ⟨trivial, h⟩]
theorem cells5 : Try.prog.cellsOf 5 = 1 := by kernel_rfl
theorem cells3 : Try.prog.cellsOf 3 = 1 := by kernel_rfl
theorem cells32' : Try.prog.cellsOf 32 = 4 := by kernel_rfl
theorem cells52 : Try.prog.cellsOf 52 = 10 := by kernel_rfl
theorem lits32 (D : Nat) (q : Q4) : Try.prog.keyLits (D + 2) 32 [.int .u8 q.a.toNat, .int .u8 q.b.toNat, .int .u8 q.c.toNat, .int .u8 q.d.toNat] = some [.int .u8 q.a.toNat, .int .u8 q.b.toNat, .int .u8 q.c.toNat, .int .u8 q.d.toNat] := by
  unfold Program.keyLits
  rw [Try.underlying32]
  simp only [cells5, cells32', List.length_cons, List.length_nil, if_true]
  simp only [List.range, List.range.loop, List.mapM_cons, List.mapM_nil, Nat.zero_mul, Nat.one_mul, Nat.reduceMul, List.drop_zero, List.drop_succ_cons, List.take_succ_cons, List.take_zero]
  simp only [lits5]
  simp
theorem key_some (k : K) : ∃ l, keyOf Try.prog 52 k.val = some l := by
  obtain ⟨m0, hm0⟩ : ∃ m0, Try.prog.types.size = m0 + 2 := ⟨Try.prog.types.size - 2, by have : 1 < Try.prog.types.size := of_decide_eq_true (by kernel_rfl); omega⟩
  have hkt : Try.prog.keyType 52 = true := by kernel_rfl
  unfold keyOf
  simp only [Try.underlying52]
  rw [if_pos (by simp [hkt, Value.formed, Try.underlying52, cells52]), hm0]
  unfold Program.keyLits
  simp only [Try.underlying52, Value.cells, cells52]
  rw [if_pos ⟨rfl, by kernel_rfl⟩]
  simp only [List.mapM_cons, List.mapM_nil, cells32', cells3, List.drop_zero, List.drop_succ_cons, List.take_succ_cons, List.take_zero]
  simp only [lits32, lits3 _ _ k.hp, lits3 _ _ k.hi]
  simp
/-- What a Key is told as. -/
noncomputable def kl (k : K) : Lit := (key_some k).choose
theorem key_kl (k : K) : keyOf Try.prog 52 k.val = some (kl k) := (key_some k).choose_spec
theorem kl_inj {x y : K} (h : kl x = kl y) : x = y := K.val_inj (law52.inj (key_kl x) (h ▸ key_kl y))
theorem kl_key (k : K) : WideAt.IsKeyLit (kl k) := law52.key (key_kl k)
end Go.Proofs.Ytgdjcoodjdckkaa
/- Contracts of Ones (the program's and the document's). -/
namespace Go.Proofs.Ytgdjcoodjdckkaa.Bi
open Go.RowKit Go.Proofs.PitotMath

theorem take_snoc (s : ByteArray) (k : Nat) (h : k < s.size) : s.data.toList.take (k + 1) = s.data.toList.take k ++ [s[k]] := by
  rw [List.take_succ_eq_append_getElem (by simpa using h)]; rfl

theorem ret_int {k : IntKind} {a b : Int} (h : a = b) : Ending.returned (.int k a) = .returned (.int k b) := by rw [h]
theorem val_int {k : IntKind} {a b : Int} (h : a = b) : Value.int k a = .int k b := by rw [h]

theorem s16_at (s : ByteArray) (k : Nat) (h : k < s.size) : s16 (s.data.toList.take (k + 1)) = s16 (s.data.toList.take k) + if k % 2 = 0 then 256 * s[k].toNat else s[k].toNat := by
  rw [take_snoc s k h, s16_snoc]
  have : (s.data.toList.take k).length = k := by simp; omega
  rw [this]

theorem s16_bd (s : ByteArray) (k : Nat) : s16 (s.data.toList.take k) ≤ 65280 * s.size := by
  have h := s16_le (s.data.toList.take k)
  have : (s.data.toList.take k).length ≤ s.size := by simp; omega
  exact Nat.le_trans h (Nat.mul_le_mul_left _ this)

theorem ones_even (s : ByteArray) (k : Nat) (hs : s.size ≤ 70000) (h : k < s.size) (he : ((k : Int) % 2 == 0) = true) :
    IntKind.u64.wrap ((s16 (s.data.toList.take k) : Nat) + IntKind.u64.wrap (IntKind.u64.wrap s[k].toNat * 256)) = (s16 (s.data.toList.take (k + 1)) : Nat) := by
  have h1 := s16_at s k h
  have h2 := s16_bd s k
  have h3 := s[k].toNat_lt
  rw [if_pos (by simp at he; omega)] at h1
  rw [h1, IntWalk.u64_in (s[k].toNat : Int) (by omega), IntWalk.u64_in (_ * 256) (by omega), IntWalk.u64_in _ (by omega)]
  omega

theorem ones_odd (s : ByteArray) (k : Nat) (hs : s.size ≤ 70000) (h : k < s.size) (he : ((k : Int) % 2 == 0) = false) :
    IntKind.u64.wrap ((s16 (s.data.toList.take k) : Nat) + IntKind.u64.wrap s[k].toNat) = (s16 (s.data.toList.take (k + 1)) : Nat) := by
  have h1 := s16_at s k h
  have h2 := s16_bd s k
  have h3 := s[k].toNat_lt
  rw [if_neg (by simp at he; omega)] at h1
  rw [h1, IntWalk.u64_in (s[k].toNat : Int) (by omega), IntWalk.u64_in _ (by omega)]
  omega

theorem and_ffff (m : Nat) (h : m ≤ 65280 * 70000) : bits .and .u64 (m : Int) 65535 = ((m % 65536 : Nat) : Int) := by
  rw [show (65535 : Int) = ((65535 : Nat) : Int) from rfl, u64_and_nat m 65535 (by omega) (by omega), show 65535 = 2 ^ 16 - 1 from rfl, Nat.and_two_pow_sub_one_eq_mod]

theorem fold_step (m : Nat) (h : m ≤ 65280 * 70000) : IntKind.u64.wrap ((m : Int) / 65536 + bits .and .u64 (m : Int) 65535) = ((m / 65536 + m % 65536 : Nat) : Int) := by
  rw [and_ffff m h, IntWalk.u64_in _ (by omega)]; omega

theorem not_16 (m : Nat) (h : m ≤ 65535) : wrap64 (bits .xor .u16 IntKind.u16.max (IntKind.u16.wrap m)) = ((65535 - m : Nat) : Int) := by
  rw [IntWalk.u16_in _ (by omega), show IntKind.u16.max = ((65535 : Nat) : Int) from by decide, u16_xor_nat 65535 m (by omega) (by omega)]
  have e : 65535 ^^^ m = 65535 - m := by
    have h1 : (BitVec.allOnes 16 ^^^ BitVec.ofNat 16 m).toNat = (~~~ (BitVec.ofNat 16 m)).toNat := by rw [BitVec.allOnes_xor]
    rw [BitVec.toNat_xor, BitVec.toNat_not, BitVec.toNat_allOnes, BitVec.toNat_ofNat, Nat.mod_eq_of_lt (by omega)] at h1
    exact h1
  rw [e, IntWalk.wrap64_in _ (by omega)]

theorem conv_one (w : World) (b : UInt8) (n : Int) (hn : n = b.toNat) :
    (convert 71 9 (.slice (some ⟨w.heap.size, 0, none⟩) 1 1)).run Try.prog (w.alloc (.cells #[.int .u8 n] 5)) = .ok (.string ⟨#[b]⟩) (w.alloc (.cells #[.int .u8 n] 5)) := by
  subst hn
  exact run_convert_bytes_back (P := Try.prog) (w.alloc (.cells #[.int .u8 b.toNat] 5)) 71 9 5 ⟨w.heap.size, 0, none⟩ 1 [b] Try.underlying71 Try.underlying5 Try.underlying9 (fun j hj => by
    obtain rfl : j = 0 := by simp at hj; omega
    exact World.cell?_alloc_mark w #[.int .u8 b.toNat] 5 (0, 0) 0)

theorem ref_step (s : ByteArray) (k : Nat) (hs : s.size ≤ 70000) (h : k + 1 < s.size) (he : k % 2 = 0) :
    wrap64 (wrap64 ((s16 (s.data.toList.take k) : Nat) + wrap64 (256 * wrap64 (s[k].toNat : Nat))) + wrap64 (s[k + 1].toNat : Nat)) = (s16 (s.data.toList.take (k + 2)) : Nat) := by
  have h1 := s16_at s k (by omega)
  have h1' : s16 (s.data.toList.take (k + 2)) = _ := s16_at s (k + 1) h
  have h2 := s16_bd s k
  have h3 := s[k].toNat_lt
  have h4 := s[k + 1].toNat_lt
  rw [if_pos he] at h1
  rw [if_neg (by omega)] at h1'
  rw [IntWalk.wrap64_in (s[k].toNat : Int) (by omega), IntWalk.wrap64_in (256 * _) (by omega), IntWalk.wrap64_in (s[k + 1].toNat : Int) (by omega), IntWalk.wrap64_in (_ + 256 * _) (by omega), IntWalk.wrap64_in _ (by omega)]
  omega

theorem snoc_zero (s : ByteArray) : (s ++ (⟨#[0]⟩ : ByteArray)).data.toList = s.data.toList ++ [0] := by simp

theorem snoc_size (s : ByteArray) : (s ++ (⟨#[0]⟩ : ByteArray)).size = s.size + 1 := by simp; rfl

end Go.Proofs.Ytgdjcoodjdckkaa.Bi
/- Contracts of the program's Writer: together, has, spread, Text, fail, Bits. -/
namespace Go.Proofs.Ytgdjcoodjdckkaa.Bi
open Go.RowKit Go.Proofs.PitotMath

/-- The sum of widths, one behind the other; none: one of them may not be. -/
def togGo : List Int → Int → Option Int
  | [], s => some s
  | x :: t, s => if x < 1 ∨ 32 - s < x then none else togGo t (s + x)

def okSum (s : Int) : Bool := s == 8 || s == 16 || s == 32

def togRes (l : List Int) : Int × Bool := match togGo l 0 with
  | none => (0, false)
  | some s => (s / 8, okSum s)

/-- A slice of ints: what it reads as; an address is known where it is not empty. -/
def IntsAt (w : World) (A : Option Addr) (xs : List Int) : Prop :=
  xs ≠ [] → ∃ b off, A = some ⟨b, off, none⟩ ∧ b < w.heap.size ∧ ∀ i (h : i < xs.length), w.cell? ⟨b, off + i, none⟩ = some (.int .i64 xs[i])

theorem IntsAt.get {w : World} {A : Option Addr} {xs : List Int} (h : IntsAt w A xs) {k : Nat} (hk : k < xs.length) :
    ∃ b off, A = some ⟨b, off, none⟩ ∧ b < w.heap.size ∧ w.cell? ⟨b, off + k, none⟩ = some (.int .i64 xs[k]) := by
  obtain ⟨b, off, h1, h2, h3⟩ := h (by intro e; subst e; simp at hk)
  exact ⟨b, off, h1, h2, h3 k hk⟩

theorem tog_cons {xs : List Int} {k : Nat} (hk : k < xs.length) (s : Int) : togGo (xs.drop k) s = if xs[k] < 1 ∨ 32 - s < xs[k] then none else togGo (xs.drop (k + 1)) (s + xs[k]) := by
  rw [List.drop_eq_getElem_cons hk]; rfl

theorem togRes_none {xs : List Int} (h : togGo xs 0 = none) : togRes xs = (0, false) := by unfold togRes; rw [h]
theorem togRes_some {xs : List Int} {s : Int} (h : togGo xs 0 = some s) : togRes xs = (s / 8, okSum s) := by unfold togRes; rw [h]

theorem tuple_ib {a b : Int} {c d : Bool} (h1 : a = b) (h2 : c = d) : Ending.returned (.tuple #[.int .i64 a, .bool c]) = .returned (.tuple #[.int .i64 b, .bool d]) := by rw [h1, h2]

def fitsB (n x : Int) : Bool := decide (0 ≤ n ∧ n < 2 ^ x.toNat)

theorem fits_div {n x : Int} (h : 0 ≤ n) : (n / 2 ^ x.toNat == 0) = fitsB n x := by
  unfold fitsB
  have hp : (0 : Int) < 2 ^ x.toNat := Int.pow_pos (by omega)
  rw [Bool.eq_iff_iff]
  simp only [beq_iff_eq, decide_eq_true_eq]
  constructor
  · intro h0
    refine ⟨h, ?_⟩
    have := Int.emod_lt_of_pos n hp
    have := Int.mul_ediv_add_emod n (2 ^ x.toNat)
    rw [h0] at this
    omega
  · intro ⟨_, h1⟩
    exact Int.ediv_eq_zero_of_lt h h1

theorem ret_bool {a b : Bool} (h : a = b) : Ending.returned (.bool a) = .returned (.bool b) := by rw [h]

/-- The cells of a row of bytes of which the first k are written. -/
def pc (l : List UInt8) (k : Nat) : List Value := (l.take k).map (fun c => Value.int .u8 c.toNat) ++ List.replicate (l.length - k) (.int .u8 0)

theorem pc_zero (l : List UInt8) : pc l 0 = List.replicate l.length (.int .u8 0) := by simp [pc]
theorem pc_length (l : List UInt8) (k : Nat) (h : k ≤ l.length) : (pc l k).length = l.length := by simp [pc]; omega
theorem pc_full (l : List UInt8) : pc l l.length = l.map (fun c => Value.int .u8 c.toNat) := by simp [pc]

theorem pc_at (l : List UInt8) (k : Nat) (h : k < l.length) : (pc l k)[k]? = some (.int .u8 0) := by
  unfold pc
  have hm : min k l.length = k := Nat.min_eq_left (Nat.le_of_lt h)
  rw [List.getElem?_append_right (by simp; omega)]
  simp only [List.length_map, List.length_take, hm, Nat.sub_self]
  rw [List.getElem?_replicate, if_pos (by omega)]

theorem pc_step (l : List UInt8) (k : Nat) (h : k < l.length) (v : Value) (hv : v = .int .u8 l[k].toNat) : (pc l k).set k v = pc l (k + 1) := by
  subst hv
  unfold pc
  rw [List.take_succ_eq_append_getElem h, List.map_append]
  obtain ⟨d, hd⟩ : ∃ d, l.length - k = d + 1 := ⟨l.length - k - 1, by omega⟩
  have hd' : l.length - (k + 1) = d := by omega
  rw [hd, hd', List.replicate_succ, List.set_append_right _ _ (by simp; omega)]
  simp [Nat.min_eq_left (Nat.le_of_lt h)]

theorem be_cell (m n k : Nat) (h : k < m) (h' : k < (be m n).length) : Value.int .u8 ((n : Int) / 2 ^ (8 * (m - 1 - k)) % 256) = .int .u8 ((be m n)[k]'h').toNat := by
  have e := be_get? m n k h
  rw [List.getElem?_eq_getElem h'] at e
  injection e with e
  rw [e]
  refine val_int ?_
  have hp : ((2 : Int) ^ (8 * (m - 1 - k))) = ((256 ^ (m - 1 - k) : Nat) : Int) := by rw [← pow_8]; simp
  rw [hp]
  simp

theorem Try.info5 : (Try.prog.info? 5).map (fun i => (i.zero, i.size, i.bytes)) = some (some (.int .u8 0), 1, 1) := by kernel_rfl

theorem make_bytes (l : List UInt8) (w : World) (m : Nat) (hm : m ≤ 1000000) (hl : l.length = m) :
    (Instr.makeSlice 71 (.int .i64 m) (.int .i64 m)).run Try.prog w = .ok (.slice (some ⟨w.heap.size, 0, none⟩) m m) (w.alloc (.cells (pc l 0).toArray 5)) := by
  obtain ⟨i, hi, hz0, hz1, hz2⟩ := info_parts Try.info5
  rw [run_make (P := Try.prog) w 71 5 i _ Try.underlying71 hi hz0 .i64 .i64 m m (by omega) (by omega) (by rw [hz2]; omega) (by omega)]
  have e : madeCells (Value.int .u8 0).cells (Int.toNat (m : Int) * i.size) = (pc l 0).toArray := by
    rw [← Array.toList_inj, hz1]
    show (madeCells #[Value.int .u8 0] _).toList = _
    rw [toList_madeCells_one, pc_zero, hl]
    simp
  rw [e]
  rfl

end Go.Proofs.Ytgdjcoodjdckkaa.Bi
/- The program's Writer in memory; contracts of Text, fail, Bits. -/
namespace Go.Proofs.Ytgdjcoodjdckkaa.Bi
open Go.RowKit Go.Proofs.PitotMath

section
variable {w w' : World} {g : Nat} {t : TypeId} {cs : Array Value}

theorem lies_lt (h : w.heap[g]? = some (.cells cs t)) : g < w.heap.size := by
  rcases Nat.lt_or_ge g w.heap.size with h1 | h1
  · exact h1
  · rw [Array.getElem?_eq_none h1] at h; cases h
theorem lies_cell (h : w.heap[g]? = some (.cells cs t)) (i : Nat) : w.cell? ⟨g, i, none⟩ = cs[i]? := by simp [World.cell?, h]
theorem lies_frozen (h : w.heap[g]? = some (.cells cs t)) (i : Nat) : w.frozen? ⟨g, i, none⟩ = false := by simp [World.frozen?, h]
theorem lies_set (h : w.heap[g]? = some (.cells cs t)) (i : Nat) (u : Value) : (w.setCell ⟨g, i, none⟩ u).heap[g]? = some (.cells (cs.setIfInBounds i u) t) := by
  simp [World.setCell, Array.getElem?_modify, h]
theorem lies_alloc (h : w.heap[g]? = some (.cells cs t)) (o : Obj) : (w.alloc o).heap[g]? = some (.cells cs t) := (Below.heap_alloc w o g (lies_lt h)).trans h
end

theorem new_at {w : World} {o : Obj} {k : Nat} (hk : w.heap.size = k) : (w.alloc o).drew.heap[k]? = some o := by
  subst hk; exact heap_alloc_new w o

/-- What pieces are together, the eldest one first. -/
def flat : List ByteArray → List UInt8
  | [] => []
  | t :: ts => flat ts ++ t.data.toList

theorem grown_set {w : World} (b i : Nat) (u : Value) : w.grownBy (w.setCell ⟨b, i, none⟩ u) (some b) :=
  ⟨rfl, rfl, rfl, by simp [World.setCell], fun k _ hk => Below.heap_setCell w _ u k (by intro e; exact hk (by rw [e]))⟩

theorem grown_trans {a b c : World} {r : Option Nat} (h : a.grownBy b r) (k : b.grownBy c r) : a.grownBy c r :=
  ⟨k.os.trans h.os, k.tape.trans h.tape, k.output.trans h.output, Nat.le_trans h.size k.size, fun i hi hr => (k.block i (Nat.lt_of_lt_of_le hi h.size) hr).trans (h.block i hi hr)⟩

theorem grown_alloc {w : World} {r : Option Nat} (o : Obj) : w.grownBy (w.alloc o) r := World.grownBy_alloc w o r

theorem grown_drew {a w : World} {r : Option Nat} (h : a.grownBy w r) : a.grownBy w.drew r := ⟨h.os, h.tape, h.output, h.size, h.block⟩

theorem flat_bd {ts : List ByteArray} {last : ByteArray} {l : List UInt8} (h : l = flat ts ++ last.data.toList) : last.size ≤ l.length := by
  rw [h, List.length_append]; show last.data.size ≤ _; simp

end Go.Proofs.Ytgdjcoodjdckkaa.Bi
/- Contracts of the program's Writer: Bits, U8, U16, U32. -/
namespace Go.Proofs.Ytgdjcoodjdckkaa.Bi
open Go.RowKit Go.Proofs.PitotMath

/-- Numbers, each so many bits wide, one behind the other; none: one of them does not fit. -/
def packGo : List Int → List Int → Nat → Option Nat
  | [], _, a => some a
  | _ :: _, [], a => some a
  | x :: xs, n :: ns, a => if fitsB n x = true then packGo xs ns (a * 2 ^ x.toNat + n.toNat) else none

/-- The bytes that numbers of these widths are; none: they may not be. -/
def bitsOf (xs ns : List Int) : Option (List UInt8) :=
  if (togRes xs).2 = true ∧ xs.length = ns.length then (packGo xs ns 0).map (be (togRes xs).1.toNat) else none

def bitsStep (st : Option (List UInt8)) (xs ns : List Int) : Option (List UInt8) := st.bind fun l => (bitsOf xs ns).map (l ++ ·)

theorem tog_ok {xs : List Int} (h : (togRes xs).2 = true) : ∃ (tot : Int) (m : Nat), togGo xs 0 = some tot ∧ tot = 8 * m ∧ (m = 1 ∨ m = 2 ∨ m = 4) ∧ togRes xs = ((m : Int), true) := by
  cases ht : togGo xs 0 with
  | none => rw [togRes_none ht] at h; simp at h
  | some tot =>
    rw [togRes_some ht] at h
    have h' : okSum tot = true := h
    simp only [okSum, Bool.or_eq_true, beq_iff_eq] at h'
    rcases h' with (rfl | rfl) | rfl
    · exact ⟨8, 1, rfl, rfl, by simp, by rw [togRes_some ht]; rfl⟩
    · exact ⟨16, 2, rfl, rfl, by simp, by rw [togRes_some ht]; rfl⟩
    · exact ⟨32, 4, rfl, rfl, by simp, by rw [togRes_some ht]; rfl⟩

theorem grown_of_below {w w' : World} {r : Option Nat} (h : Below w.heap.size w w') : w.grownBy w' r := ⟨h.os, h.tape, h.output, h.size, fun k hk _ => h.block k hk⟩

theorem pack_cons {xs ns : List Int} {k : Nat} (h1 : k < xs.length) (h2 : k < ns.length) (a : Nat) :
    packGo (xs.drop k) (ns.drop k) a = if fitsB ns[k] xs[k] = true then packGo (xs.drop (k + 1)) (ns.drop (k + 1)) (a * 2 ^ xs[k].toNat + ns[k].toNat) else none := by
  rw [List.drop_eq_getElem_cons h1, List.drop_eq_getElem_cons h2]; rfl

theorem shl_or (a : Nat) (x v S : Int) (ha : a < 2 ^ S.toNat) (hS : 0 ≤ S) (hx : 1 ≤ x) (hSx : x ≤ 32 - S) (hv : fitsB v x = true) :
    bits .or .u32 (IntKind.u32.wrap ((a : Int) * 2 ^ x.toNat)) (IntKind.u32.wrap v) = ((a * 2 ^ x.toNat + v.toNat : Nat) : Int) ∧ a * 2 ^ x.toNat + v.toNat < 2 ^ (S + x).toNat := by
  unfold fitsB at hv
  have hv' := of_decide_eq_true hv
  obtain ⟨v, rfl⟩ := Int.eq_ofNat_of_zero_le hv'.1
  obtain ⟨x, rfl⟩ := Int.eq_ofNat_of_zero_le (show 0 ≤ x by omega)
  obtain ⟨S, rfl⟩ := Int.eq_ofNat_of_zero_le hS
  have hv2 : v < 2 ^ x := by have := hv'.2; simp at this; exact_mod_cast this
  simp only [Int.toNat_natCast] at ha ⊢
  have hsx : (((S : Int) + (x : Int))).toNat = S + x := by omega
  rw [hsx]
  have h2 : a * 2 ^ x + v < 2 ^ (S + x) := by
    rw [Nat.pow_add]
    have : (a + 1) * 2 ^ x ≤ 2 ^ S * 2 ^ x := Nat.mul_le_mul_right _ ha
    rw [Nat.add_mul] at this
    omega
  have h3 : 2 ^ (S + x) ≤ 2 ^ 32 := Nat.pow_le_pow_right (by omega) (by omega)
  have e1 : ((a : Int) * 2 ^ x) = ((a * 2 ^ x : Nat) : Int) := by simp
  have h4 : a * 2 ^ x < 4294967296 := by omega
  have h5 : v < 4294967296 := by omega
  rw [e1, IntWalk.u32_in _ (by omega), IntWalk.u32_in _ (by omega), u32_or_nat _ _ h4 h5]
  refine ⟨?_, h2⟩
  rw [Nat.mul_comm a, ← Nat.two_pow_add_eq_or_of_lt hv2 a]

theorem togGo_at {xs : List Int} {k : Nat} {S tot : Int} (hk : k < xs.length) (h : togGo (xs.drop k) S = some tot) : 1 ≤ xs[k] ∧ xs[k] ≤ 32 - S ∧ togGo (xs.drop (k + 1)) (S + xs[k]) = some tot := by
  rw [tog_cons hk] at h
  split at h
  · cases h
  · exact ⟨by omega, by omega, h⟩

theorem togGo_end {S tot : Int} (h : togGo [] S = some tot) : S = tot := by simpa [togGo] using h

/-- A number in so many bytes, put behind. -/
def putStep (st : Option (List UInt8)) (m : Nat) (v : Int) : Option (List UInt8) := if fitsB v (8 * m) = true then st.map (· ++ be m v.toNat) else none

theorem ints_one {w : World} (x : Int) (k : Nat) (hk : w.heap[k]? = some (.cells #[.int .i64 x] 3)) : IntsAt w (some ⟨k, 0, none⟩) [x] := by
  intro _
  refine ⟨k, 0, rfl, lies_lt hk, fun i hi => ?_⟩
  obtain rfl : i = 0 := by simp at hi; omega
  exact lies_cell hk 0

theorem tog_one (m : Nat) (hm : m = 1 ∨ m = 2 ∨ m = 4) : togRes [(8 * m : Int)] = ((m : Int), true) := by
  rcases hm with rfl | rfl | rfl <;> rfl

theorem bitsStep_one (st : Option (List UInt8)) (m : Nat) (v : Int) (hm : m = 1 ∨ m = 2 ∨ m = 4) : bitsStep st [(8 * m : Int)] [v] = putStep st m v := by
  unfold bitsStep bitsOf putStep
  rw [tog_one m hm]
  simp only [List.length_cons, List.length_nil, and_self, if_true, packGo]
  cases st with
  | none => simp
  | some l => split <;> simp

end Go.Proofs.Ytgdjcoodjdckkaa.Bi
/- Contracts of within, and of the three lists of widths. -/
namespace Go.Proofs.Ytgdjcoodjdckkaa
open Go.RowKit Go.Proofs.PitotIp
open Go.Proofs.Ytgdjcoodjdckkaa.Bi (IntsAt lies_lt lies_cell lies_frozen lies_alloc)

/-- All numbers are from 0 to the greatest one. -/
def wi (most : Int) (xs : List Int) : Bool := xs.all fun x => decide (0 ≤ x ∧ x ≤ most)

theorem ret_bool {a b : Bool} (h : a = b) : Ending.returned (.bool a) = .returned (.bool b) := by rw [h]

theorem wi_cons {most : Int} {xs : List Int} {k : Nat} (hk : k < xs.length) : wi most (xs.drop k) = (decide (0 ≤ xs[k] ∧ xs[k] ≤ most) && wi most (xs.drop (k + 1))) := by
  rw [List.drop_eq_getElem_cons hk]; rfl

/-- A list of numbers that was made. -/
theorem ints_lie {w : World} {xs : List Int} {k : Nat} (hk : w.heap[k]? = some (.cells (xs.map fun x => Value.int .i64 x).toArray 3)) : IntsAt w (some ⟨k, 0, none⟩) xs := by
  intro _
  refine ⟨k, 0, rfl, lies_lt hk, fun i hi => ?_⟩
  rw [lies_cell hk]
  simp [hi]

/-- A packet, as it is handed on; in memory; as the document has it; a head. -/
abbrev pk (id : Int) (m : Bool) (off ttl pr : Int) (a b : Q4) (s : ByteArray) : Value :=
  .agg #[.int .i64 id, .bool m, .int .i64 off, .int .i64 ttl, .int .i64 pr, .int .u8 a.a.toNat, .int .u8 a.b.toNat, .int .u8 a.c.toNat, .int .u8 a.d.toNat, .int .u8 b.a.toNat, .int .u8 b.b.toNat, .int .u8 b.c.toNat, .int .u8 b.d.toNat, .string s]
abbrev pkC (id : Int) (m : Bool) (off ttl pr : Int) (a b : Q4) (s : ByteArray) : Obj :=
  .cells #[.int .i64 id, .bool m, .int .i64 off, .int .i64 ttl, .int .i64 pr, .int .u8 a.a.toNat, .int .u8 a.b.toNat, .int .u8 a.c.toNat, .int .u8 a.d.toNat, .int .u8 b.a.toNat, .int .u8 b.b.toNat, .int .u8 b.c.toNat, .int .u8 b.d.toNat, .string s] 34
abbrev rp (id : Int) (m : Bool) (off ttl pr : Int) (a b s : ByteArray) : Value :=
  .agg #[.int .i64 id, .bool m, .int .i64 off, .int .i64 ttl, .int .i64 pr, .string a, .string b, .string s]
abbrev rpC (id : Int) (m : Bool) (off ttl pr : Int) (a b s : ByteArray) : Obj :=
  .cells #[.int .i64 id, .bool m, .int .i64 off, .int .i64 ttl, .int .i64 pr, .string a, .string b, .string s] 41
abbrev hd (k sv f g all sum : Int) : Value := .agg #[.int .i64 k, .int .i64 sv, .int .i64 f, .int .i64 g, .int .i64 all, .int .i64 sum]
theorem cells25 : Try.prog.cellsOf 34 = 14 := by kernel_rfl
theorem cells32 : Try.prog.cellsOf 41 = 8 := by kernel_rfl
end Go.Proofs.Ytgdjcoodjdckkaa
/- Plain facts on bytes cut into parts. No conditions. -/
namespace Go.Proofs.PitotFrag

/-- How many parts are cut off till no more than lim bytes are left. -/
def cnt (long lim room : Nat) : Nat := (long - lim + room - 1) / room
theorem cnt_lt {long lim room : Nat} (hr : 0 < room) (k : Nat) : k < cnt long lim room ↔ lim + k * room < long := by
  unfold cnt
  rw [Nat.lt_iff_add_one_le, Nat.le_div_iff_mul_le hr, Nat.add_mul]
  generalize k * room = m
  omega
theorem cnt_zero {long lim room : Nat} (hr : 0 < room) (h : long ≤ lim) : cnt long lim room = 0 := by
  have := cnt_lt (long := long) (lim := lim) hr 0
  simp at this
  omega
theorem cnt_end {long lim room : Nat} (hr : 0 < room) : long ≤ lim + cnt long lim room * room := by
  refine Nat.not_lt.1 fun q => ?_
  exact Nat.lt_irrefl _ ((cnt_lt (long := long) (lim := lim) hr (cnt long lim room)).2 q)
theorem cnt_step {long lim room : Nat} (hr : 0 < room) (h : lim < long) : cnt long lim room = cnt (long - room) lim room + 1 := by
  refine Nat.le_antisymm ?_ ?_
  · refine Nat.not_lt.1 fun q => ?_
    have h1 := (cnt_lt (long := long) (lim := lim) hr (cnt (long - room) lim room + 1)).1 q
    have h2 := cnt_end (long := long - room) (lim := lim) hr
    rw [Nat.add_mul] at h1
    omega
  · rcases Nat.eq_zero_or_pos (cnt (long - room) lim room) with e | e
    · rw [e]
      have := (cnt_lt (long := long) (lim := lim) hr 0).2 (by omega)
      omega
    · obtain ⟨m, hm⟩ : ∃ m, cnt (long - room) lim room = m + 1 := ⟨cnt (long - room) lim room - 1, by omega⟩
      rw [hm]
      have h1 := (cnt_lt (long := long - room) (lim := lim) hr m).1 (by omega)
      have := (cnt_lt (long := long) (lim := lim) hr (m + 1)).2 (by rw [Nat.add_mul]; omega)
      omega

section
variable {α : Type}
/-- A part that is cut off, and what is left. -/
def piece (d : List α) (room k : Nat) : List α := (d.drop (k * room)).take room
def parts (d : List α) (lim room : Nat) : List (List α) := (List.range (cnt d.length lim room)).map (piece d room) ++ [d.drop (cnt d.length lim room * room)]
theorem parts_length (d : List α) (lim room : Nat) : (parts d lim room).length = cnt d.length lim room + 1 := by simp [parts]
theorem piece_length (d : List α) {lim room k : Nat} (hr : 0 < room) (hl : room ≤ lim) (hk : k < cnt d.length lim room) : (piece d room k).length = room := by
  have := (cnt_lt hr k).1 hk
  simp [piece]
  omega
theorem last_le (d : List α) {lim room : Nat} (hr : 0 < room) : (d.drop (cnt d.length lim room * room)).length ≤ lim := by
  have := cnt_end (long := d.length) (lim := lim) hr
  simp
  omega
/-- The last two would not go into one. -/
theorem last_two (d : List α) {lim room n : Nat} (hr : 0 < room) (hn : cnt d.length lim room = n + 1) : lim < room + (d.drop ((n + 1) * room)).length := by
  have := (cnt_lt (long := d.length) (lim := lim) hr n).1 (by omega)
  simp [Nat.add_mul]
  omega
theorem take_step (d : List α) (room k : Nat) : d.take (k * room) ++ piece d room k = d.take ((k + 1) * room) := by
  rw [piece, Nat.add_mul, Nat.one_mul, List.take_add]
theorem pieces_flat (d : List α) (room : Nat) : ∀ k, ((List.range k).map (piece d room)).flatten = d.take (k * room)
  | 0 => by simp
  | k + 1 => by rw [List.range_succ, List.map_append, List.flatten_append, pieces_flat d room k]; simp [take_step]
/-- Joined they are what was cut. -/
theorem parts_flat (d : List α) (lim room : Nat) : (parts d lim room).flatten = d := by
  rw [parts, List.flatten_append, pieces_flat]
  simp
end

/-- Room's number. -/
def room (smax : Nat) : Nat := (smax - 39) / 8 * 8
theorem room_bounds {smax : Nat} (h : 64 ≤ smax) : 24 ≤ room smax ∧ room smax % 8 = 0 ∧ room smax ≤ smax - 39 ∧ smax - 39 < room smax + 8 := by unfold room; omega
theorem off_eight {smax : Nat} (k : Nat) : 8 * (k * room smax / 8) = k * room smax := by
  unfold room
  rw [← Nat.mul_assoc]
  omega
end Go.Proofs.PitotFrag
/- Contracts of Room and Count, the program's and the document's. -/
namespace Go.Proofs.Ytgdjcoodjdckkaa
open Go.RowKit Go.Proofs.PitotFrag

theorem ret_int {a b : Int} (h : a = b) : Ending.returned (.int .i64 a) = .returned (.int .i64 b) := by rw [h]
theorem ret_two {a b : Int} {v : Value} (h : a = b) : Ending.returned (.tuple #[.int .i64 a, v]) = .returned (.tuple #[.int .i64 b, v]) := by rw [h]

set_option maxHeartbeats 400000 in
theorem lastRoom_any (m : Nat) (hm : m ≤ 1479) (w : World) :
    Calls Try.prog 40 #[.int .i64 (m + 39)] w fun e w' => e = .returned (.int .i64 m) ∧ w = w' := by
  go_enter Try.func40, Try.ntmps40
  go_wp2
  go_returns
  exact ⟨ret_int (by omega), rfl⟩

set_option maxHeartbeats 400000 in
theorem room_arg (x : Int) (hx : x < 64 ∨ 1518 < x) (w : World) :
    Calls Try.prog 31 #[.int .i64 x] w fun e w' => e = .returned (.tuple #[.int .i64 0, .int .i64 1]) ∧ w = w' := by
  by_cases h1 : x < 64
  · clear hx
    go_enter Try.func31, Try.ntmps31
    go_wp2
    go_returns
    exact ⟨rfl, rfl⟩
  · have h2 : 1518 < x := by omega
    clear hx
    go_enter Try.func31, Try.ntmps31
    go_wp2
    go_returns
    exact ⟨rfl, rfl⟩

set_option maxHeartbeats 400000 in
theorem room_ok (m : Nat) (h1 : 25 ≤ m) (hm : m ≤ 1479) (w : World) :
    Calls Try.prog 31 #[.int .i64 (m + 39)] w fun e w' => e = .returned (.tuple #[.int .i64 (m / 8 * 8 : Nat), .int .i64 0]) ∧ w = w' := by
  have H := Lib.hid (lastRoom_any m hm)
  go_enter Try.func31, Try.ntmps31
  go_wp2_with (go_at_call 40; (with_reducible refine (H.out _).mono ?_); rintro r w1 ⟨rfl, rfl⟩)
  go_returns
  exact ⟨ret_two (by omega), rfl⟩

/-- How many parts so many bytes become, of which each takes up to m. -/
def cn (l m : Nat) : Nat := cnt l m (m / 8 * 8) + 1

set_option maxHeartbeats 400000 in
theorem count_arg (x y : Int) (hx : x < 64 ∨ 1518 < x) (w : World) :
    Calls Try.prog 32 #[.int .i64 y, .int .i64 x] w fun e w' => e = .returned (.tuple #[.int .i64 0, .int .i64 1]) ∧ w = w' := by
  have H := Lib.hid (room_arg x hx)
  clear hx
  go_enter Try.func32, Try.ntmps32
  go_wp2_with (go_at_call 31; (with_reducible refine (H.out _).mono ?_); rintro r w1 ⟨rfl, rfl⟩)
  go_returns
  exact ⟨rfl, rfl⟩

set_option maxHeartbeats 400000 in
theorem count_neg (m : Nat) (y : Int) (h1 : 25 ≤ m) (hm : m ≤ 1479) (hy : y < 0) (w : World) :
    Calls Try.prog 32 #[.int .i64 y, .int .i64 (m + 39)] w fun e w' => e = .returned (.tuple #[.int .i64 0, .int .i64 1]) ∧ w = w' := by
  have H := Lib.hid (room_ok m h1 hm)
  go_enter Try.func32, Try.ntmps32
  go_wp2_with (go_at_call 31; (with_reducible refine (H.out _).mono ?_); rintro r w1 ⟨rfl, rfl⟩)
  go_returns
  exact ⟨rfl, rfl⟩

set_option maxHeartbeats 400000 in
theorem count_long (m : Nat) (y : Int) (h1 : 25 ≤ m) (hm : m ≤ 1479) (hy : 65515 < y) (w : World) :
    Calls Try.prog 32 #[.int .i64 y, .int .i64 (m + 39)] w fun e w' => e = .returned (.tuple #[.int .i64 0, .int .i64 11]) ∧ w = w' := by
  have H := Lib.hid (room_ok m h1 hm)
  go_enter Try.func32, Try.ntmps32
  go_wp2_with (go_at_call 31; (with_reducible refine (H.out _).mono ?_); rintro r w1 ⟨rfl, rfl⟩)
  go_returns
  exact ⟨rfl, rfl⟩

set_option maxHeartbeats 400000 in
theorem count_ok (m l : Nat) (h1 : 25 ≤ m) (hm : m ≤ 1479) (hl : l ≤ 65515) (w : World) :
    Calls Try.prog 32 #[.int .i64 l, .int .i64 (m + 39)] w fun e w' => e = .returned (.tuple #[.int .i64 (cn l m), .int .i64 0]) ∧ w = w' := by
  have H := room_ok m h1 hm
  have H2 := Lib.hid (lastRoom_any m hm)
  obtain ⟨R, hR⟩ : ∃ R, R = m / 8 * 8 := ⟨_, rfl⟩
  have r1 : 24 ≤ R := by omega
  have r2 : R ≤ 1479 := by omega
  obtain ⟨C, hC⟩ : ∃ C, Hid (C = cn l m) := ⟨_, rfl⟩
  rw [← hC.out]
  rw [← hR] at H
  have H := Lib.hid H
  have HC : Hid (C = (l - m + R - 1) / R + 1) := by show _ = _; rw [hC.out, cn, cnt, ← hR]
  have HD : Hid (∀ X : Int, X = ((l - m + R - 1 : Nat) : Int) → wrap64 (X / R + 1) = C) := by
    show ∀ X : Int, _
    rintro X rfl
    have h := Nat.div_le_self (l - m + R - 1) R
    rw [show ((l - m + R - 1 : Nat) : Int) / (R : Int) + 1 = (C : Int) by rw [HC.out]; simp]
    have : C ≤ 70000 := by rw [HC.out]; omega
    unfold wrap64; omega
  clear hR hC HC
  by_cases hlm : m < l
  · go_enter Try.func32, Try.ntmps32
    go_wp2_with (first
      | (go_at_call 31; (with_reducible refine (H.out _).mono ?_); rintro r w1 ⟨rfl, rfl⟩)
      | (go_at_call 40; (with_reducible refine (H2.out _).mono ?_); rintro r w1 ⟨rfl, rfl⟩))
    go_returns
    exact ⟨ret_two (HD.out _ (by omega)), rfl⟩
  · go_enter Try.func32, Try.ntmps32
    go_wp2_with (first
      | (go_at_call 31; (with_reducible refine (H.out _).mono ?_); rintro r w1 ⟨rfl, rfl⟩)
      | (go_at_call 40; (with_reducible refine (H2.out _).mono ?_); rintro r w1 ⟨rfl, rfl⟩))
    go_returns
    exact ⟨ret_two (HD.out _ (by omega)), rfl⟩

end Go.Proofs.Ytgdjcoodjdckkaa
/- Contracts of the program's Reader: Read, Err, Left, Text, Rest, gather, U8, U16, U32. -/
namespace Go.Proofs.Ytgdjcoodjdckkaa.Bi
open Go.RowKit Go.Proofs.PitotMath

theorem size_list (l : List UInt8) : (⟨l.toArray⟩ : ByteArray).size = l.length := by show l.toArray.size = _; simp

theorem num_take (s : ByteArray) (k : Nat) (h : k < s.size) : num (s.data.toList.take (k + 1)) = 256 * num (s.data.toList.take k) + s[k].toNat := by
  rw [take_snoc s k h, num_snoc]

theorem num_bd (s : ByteArray) (k : Nat) : num (s.data.toList.take k) < 256 ^ k := by
  have h := num_lt (s.data.toList.take k)
  have h2 : 256 ^ (s.data.toList.take k).length ≤ 256 ^ k := Nat.pow_le_pow_right (by omega) (by simp; omega)
  omega

theorem gather_step (s : ByteArray) (k : Nat) (h : k < s.size) (hs : s.size ≤ 4) :
    bits .or .u32 (IntKind.u32.wrap ((num (s.data.toList.take k) : Nat) * 256)) (IntKind.u32.wrap s[k].toNat) = (num (s.data.toList.take (k + 1)) : Nat) := by
  have h1 := num_take s k h
  have h2 := num_bd s k
  have h3 := s[k].toNat_lt
  have h4 : 256 ^ k ≤ 256 ^ 3 := Nat.pow_le_pow_right (by omega) (by omega)
  generalize num (s.data.toList.take k) = x at h1 h2 ⊢
  rw [h1]
  have e : ((x : Int) * 256) = ((x * 256 : Nat) : Int) := by simp
  rw [e, IntWalk.u32_in _ (by omega), IntWalk.u32_in _ (by omega), u32_or_nat _ _ (by omega) (by omega)]
  have := Nat.two_pow_add_eq_or_of_lt (i := 8) (b := s[k].toNat) (by omega) x
  rw [show x * 256 = 2 ^ 8 * x by omega, ← this]

theorem num_4 (l : List UInt8) (h : l.length ≤ 4) : num l < 4294967296 := by
  have h1 := num_lt l
  have h2 : 256 ^ l.length ≤ 256 ^ 4 := Nat.pow_le_pow_right (by omega) h
  omega

/-- What U8, U16, U32 answer, by how many bytes they read. -/
def uFn (m : Nat) : Nat := match m with | 1 => 18 | 2 => 19 | _ => 20

end Go.Proofs.Ytgdjcoodjdckkaa.Bi
/- Contracts of the document's Writer (the reference): fits, Num, bytes, Put, Text, Bits, Bytes. -/
namespace Go.Proofs.Ytgdjcoodjdckkaa.Bi
open Go.RowKit Go.Proofs.PitotMath

theorem be_cons : ∀ (k n : Nat), be (k + 1) n = UInt8.ofNat (n / 256 ^ k % 256) :: be k n
  | 0, n => by simp [be]
  | k + 1, n => by
    have h := be_cons k (n / 256)
    rw [be, h, be]
    have e : n / 256 / 256 ^ k = n / 256 ^ (k + 1) := by rw [Nat.pow_succ, Nat.mul_comm, Nat.div_div_eq_div_mul]
    rw [e]
    rfl

theorem cat_one (c : UInt8) (l : List UInt8) : (⟨#[c]⟩ : ByteArray) ++ (⟨l.toArray⟩ : ByteArray) = ⟨(c :: l).toArray⟩ := by
  apply ByteArray.ext; simp

/-- The sum of widths as the document's answer reckons it. -/
def rsum : List Int → Int → Option Int
  | [], s => some s
  | x :: t, s => if x < 1 ∨ 32 < x ∨ 32 < s then none else rsum t (s + x)

def refBytes (xs : List Int) : Int := match rsum xs 0 with
  | none => 0
  | some s => if okSum s = true then s / 8 else 0

theorem rsum_over {xs : List Int} {s : Int} (h : 32 < s) : rsum xs s = none ∨ rsum xs s = some s := by
  cases xs with
  | nil => exact .inr rfl
  | cons x t => left; simp only [rsum]; rw [if_pos (by omega)]

theorem rsum_tog : ∀ (xs : List Int) (s : Int), 0 ≤ s → s ≤ 32 → (∃ t, togGo xs s = some t ∧ rsum xs s = some t) ∨ (togGo xs s = none ∧ (rsum xs s = none ∨ ∃ t, 32 < t ∧ rsum xs s = some t))
  | [], s, _, _ => .inl ⟨s, rfl, rfl⟩
  | x :: t, s, h0, h1 => by
    simp only [togGo, rsum]
    by_cases h : x < 1 ∨ 32 - s < x
    · rw [if_pos h]
      right
      refine ⟨rfl, ?_⟩
      by_cases h' : x < 1 ∨ 32 < x ∨ 32 < s
      · rw [if_pos h']; exact .inl rfl
      · rw [if_neg h']
        rcases rsum_over (xs := t) (s := s + x) (by omega) with e | e
        · exact .inl e
        · exact .inr ⟨s + x, by omega, e⟩
    · rw [if_neg h, if_neg (by omega)]
      exact rsum_tog t (s + x) (by omega) (by omega)

theorem refBytes_eq (xs : List Int) : refBytes xs = if (togRes xs).2 = true then (togRes xs).1 else 0 := by
  unfold refBytes
  rcases rsum_tog xs 0 (by omega) (by omega) with ⟨t, h1, h2⟩ | ⟨h1, h2 | ⟨t, h3, h2⟩⟩
  · rw [togRes_some h1, h2]
  · rw [togRes_none h1, h2]; rfl
  · rw [togRes_none h1, h2]
    have : okSum t = false := by simp [okSum]; omega
    simp [this]

theorem rsum_cons {xs : List Int} {k : Nat} (hk : k < xs.length) (s : Int) : rsum (xs.drop k) s = if xs[k] < 1 ∨ 32 < xs[k] ∨ 32 < s then none else rsum (xs.drop (k + 1)) (s + xs[k]) := by
  rw [List.drop_eq_getElem_cons hk]; rfl

theorem refBytes_none {xs : List Int} (h : rsum xs 0 = none) : refBytes xs = 0 := by unfold refBytes; rw [h]
theorem refBytes_some {xs : List Int} {s : Int} (h : rsum xs 0 = some s) : refBytes xs = if okSum s = true then s / 8 else 0 := by unfold refBytes; rw [h]

end Go.Proofs.Ytgdjcoodjdckkaa.Bi
/- Contracts of the document's Writer: Put, Text, Bits, Bytes. -/
namespace Go.Proofs.Ytgdjcoodjdckkaa.Bi
open Go.RowKit Go.Proofs.PitotMath

theorem cat_lists (a b : List UInt8) : (⟨a.toArray⟩ : ByteArray) ++ (⟨b.toArray⟩ : ByteArray) = ⟨(a ++ b).toArray⟩ := by
  apply ByteArray.ext; simp

end Go.Proofs.Ytgdjcoodjdckkaa.Bi
/- Contract of the document's Writer: Bits. -/
namespace Go.Proofs.Ytgdjcoodjdckkaa.Bi
open Go.RowKit Go.Proofs.PitotMath

theorem fits_nat {v x : Int} (h : fitsB v x = true) : ∃ u : Nat, v = u ∧ u < 2 ^ x.toNat := by
  have hv := of_decide_eq_true h
  obtain ⟨u, rfl⟩ := Int.eq_ofNat_of_zero_le hv.1
  exact ⟨u, rfl, by exact_mod_cast hv.2⟩

end Go.Proofs.Ytgdjcoodjdckkaa.Bi
