/- Plain facts on packets of IP as lists of bytes. No conditions. -/
import Derived.Test.YtgdjcoodjdckkaaBiMath
import Derived.Test.YtgdjcoodjdckkaaAdMath
namespace Go.Proofs.PitotIp
open Go.Proofs.PitotAddr
open Go.Proofs.PitotMath (s16 f16 ones)

/-- An address of IP. -/
structure Q4 where
  a : UInt8
  b : UInt8
  c : UInt8
  d : UInt8
deriving DecidableEq, Inhabited
def Q4.bytes (q : Q4) : List UInt8 := [q.a, q.b, q.c, q.d]

/-- The first twenty bytes, whatever they are. -/
structure H20 where
  k : UInt8
  z : UInt8
  n1 : UInt8
  n0 : UInt8
  i1 : UInt8
  i0 : UInt8
  p1 : UInt8
  p0 : UInt8
  t : UInt8
  r : UInt8
  s1 : UInt8
  s0 : UInt8
  src : Q4
  dst : Q4
def H20.front (h : H20) : List UInt8 := [h.k, h.z, h.n1, h.n0, h.i1, h.i0, h.p1, h.p0, h.t, h.r]
def H20.back (h : H20) : List UInt8 := [h.src.a, h.src.b, h.src.c, h.src.d, h.dst.a, h.dst.b, h.dst.c, h.dst.d]
def H20.list (h : H20) : List UInt8 := h.front ++ [h.s1, h.s0] ++ h.back
/-- .. with the sum's bytes being 0. -/
def H20.bare (h : H20) : List UInt8 := h.front ++ [0, 0] ++ h.back
theorem H20.list_length (h : H20) : h.list.length = 20 := rfl
theorem H20.bare_length (h : H20) : h.bare.length = 20 := rfl
theorem of10 (l : List UInt8) (h : 10 ≤ l.length) : ∃ (x0 x1 x2 x3 x4 x5 x6 x7 x8 x9 : UInt8) (t : List UInt8), l = x0 :: x1 :: x2 :: x3 :: x4 :: x5 :: x6 :: x7 :: x8 :: x9 :: t := by
  match l, h with
  | x0 :: x1 :: x2 :: x3 :: x4 :: x5 :: x6 :: x7 :: x8 :: x9 :: t, _ => exact ⟨x0, x1, x2, x3, x4, x5, x6, x7, x8, x9, t, rfl⟩
theorem H20.of (l : List UInt8) (h : 20 ≤ l.length) : ∃ (x : H20) (t : List UInt8), l = x.list ++ t := by
  obtain ⟨x0, x1, x2, x3, x4, x5, x6, x7, x8, x9, t, rfl⟩ := of10 l (by omega)
  obtain ⟨y0, y1, y2, y3, y4, y5, y6, y7, y8, y9, t, rfl⟩ := of10 t (by simp at h; omega)
  exact ⟨⟨x0, x1, x2, x3, x4, x5, x6, x7, x8, x9, y0, y1, ⟨y2, y3, y4, y5⟩, ⟨y6, y7, y8, y9⟩⟩, t, rfl⟩

/-- The sum that it should have, and the number of bytes in all, the part. -/
def H20.sum (h : H20) : Nat := ones h.bare
def H20.all (h : H20) : Nat := num h.n1 h.n0
def H20.part (h : H20) : Nat := num h.p1 h.p0
/-- It is taken. -/
structure H20.Good (h : H20) : Prop where
  k : h.k = 69
  z : h.z = 0
  all : 20 ≤ h.all
  part : h.part < 16384
  sum : num h.s1 h.s0 = h.sum

/-- What is written. -/
def head (n id part ttl proto sum : Nat) (src dst : Q4) : H20 := ⟨69, 0, hi n, lo n, hi id, lo id, hi part, lo part, lo ttl, lo proto, hi sum, lo sum, src, dst⟩
def headOk (n id part ttl proto : Nat) (src dst : Q4) : H20 := head n id part ttl proto (head n id part ttl proto 0 src dst).sum src dst
/-- A packet's bytes. -/
def bytes (id part ttl proto : Nat) (src dst : Q4) (d : List UInt8) : List UInt8 := (headOk (20 + d.length) id part ttl proto src dst).list ++ d

theorem bytes_length (id part ttl proto : Nat) (src dst : Q4) (d : List UInt8) : (bytes id part ttl proto src dst d).length = 20 + d.length := by
  simp [bytes, H20.list_length]
theorem head_sum (n id part ttl proto a b : Nat) (src dst : Q4) : (head n id part ttl proto a src dst).sum = (head n id part ttl proto b src dst).sum := rfl
theorem head_bare (n id part ttl proto : Nat) (src dst : Q4) : (head n id part ttl proto 0 src dst).list = (head n id part ttl proto 0 src dst).bare := rfl

theorem headOk_good (n id part ttl proto : Nat) (src dst : Q4) (h1 : 20 ≤ n) (h2 : n < 65536) (h3 : part < 16384) : (headOk n id part ttl proto src dst).Good := by
  refine ⟨rfl, rfl, ?_, ?_, ?_⟩
  · show 20 ≤ num (hi n) (lo n); rw [num_hi_lo n h2]; exact h1
  · show num (hi part) (lo part) < 16384; rw [num_hi_lo part (by omega)]; exact h3
  · show num (hi _) (lo _) = _
    have := PitotMath.ones_le (head n id part ttl proto 0 src dst).bare
    rw [num_hi_lo _ (by unfold H20.sum; omega)]
    rfl
theorem headOk_all (n id part ttl proto : Nat) (src dst : Q4) (h : n < 65536) : (headOk n id part ttl proto src dst).all = n := num_hi_lo n h
theorem headOk_part (n id part ttl proto : Nat) (src dst : Q4) (h : part < 65536) : (headOk n id part ttl proto src dst).part = part := num_hi_lo part h
theorem headOk_id (n id part ttl proto : Nat) (src dst : Q4) (h : id < 65536) : num (headOk n id part ttl proto src dst).i1 (headOk n id part ttl proto src dst).i0 = id := num_hi_lo id h

theorem lo_toNat (c : UInt8) : lo c.toNat = c := by apply UInt8.toNat_inj.1; rw [lo_nat]; exact Nat.mod_eq_of_lt c.toNat_lt

/-- What is taken is what is written. -/
theorem good_head (h : H20) (g : h.Good) : h = headOk h.all (num h.i1 h.i0) h.part h.t.toNat h.r.toNat h.src h.dst := by
  have e1 : head h.all (num h.i1 h.i0) h.part h.t.toNat h.r.toNat (num h.s1 h.s0) h.src h.dst = h := by
    obtain ⟨k, z, n1, n0, i1, i0, p1, p0, t, r, s1, s0, src, dst⟩ := h
    have gk := g.k
    have gz := g.z
    simp only at gk gz
    simp [head, H20.all, H20.part, hi_num, lo_num, lo_toNat, gk, gz]
  have e2 : (head h.all (num h.i1 h.i0) h.part h.t.toNat h.r.toNat 0 h.src h.dst).sum = num h.s1 h.s0 := by
    rw [head_sum _ _ _ _ _ _ (num h.s1 h.s0), e1, g.sum]
  rw [headOk, e2, e1]

theorem again (h : H20) (g : h.Good) (t : List UInt8) (hl : h.all ≤ 20 + t.length) :
    bytes (num h.i1 h.i0) h.part h.t.toNat h.r.toNat h.src h.dst (t.take (h.all - 20)) = (h.list ++ t).take h.all := by
  have h1 := g.all
  have e : 20 + (t.take (h.all - 20)).length = h.all := by simp; omega
  have e3 : h.list.take h.all = h.list := List.take_of_length_le (by rw [h.list_length]; exact h1)
  rw [bytes, e, ← good_head h g, List.take_append, h.list_length, e3]

/-- The sum of 16 bits of the first twenty bytes. -/
theorem bare_s16 (h : H20) : s16 h.bare = 256 * h.k.toNat + h.z.toNat + (256 * h.n1.toNat + h.n0.toNat) + (256 * h.i1.toNat + h.i0.toNat) + (256 * h.p1.toNat + h.p0.toNat) + (256 * h.t.toNat + h.r.toNat)
    + (256 * h.src.a.toNat + h.src.b.toNat) + (256 * h.src.c.toNat + h.src.d.toNat) + (256 * h.dst.a.toNat + h.dst.b.toNat) + (256 * h.dst.c.toNat + h.dst.d.toNat) := by
  simp [H20.bare, H20.front, H20.back, s16]; omega

theorem f16_close (m n : Nat) (hm : 0 < m) (hn : 0 < n) (h : f16 m = f16 n) (h1 : m < n + 65535) (h2 : n < m + 65535) : m = n := by
  unfold f16 at h
  rw [if_neg (by omega), if_neg (by omega)] at h
  omega
theorem byte_eq {a b : UInt8} (h : a.toNat = b.toNat) : a = b := UInt8.toNat_inj.1 h

set_option maxHeartbeats 2000000 in
/-- Two heads that are taken and of which all bytes but one are the same are the same: so a byte that is another one is told. -/
theorem told (h g : H20) (hh : h.Good) (hg : g.Good) (j : Nat) (hj : j < 20) (x : UInt8) (e : g.list = h.list.set j x) : g.list = h.list := by
  obtain ⟨hk, hz, _, _, hs⟩ := hh
  obtain ⟨gk, gz, _, _, gs⟩ := hg
  unfold H20.sum ones at hs gs
  have hle := PitotMath.f16_le (s16 h.bare)
  have gle := PitotMath.f16_le (s16 g.bare)
  have hb := bare_s16 h
  have gb := bare_s16 g
  have kk : h.k.toNat = 69 := by rw [hk]; rfl
  have jk : g.k.toNat = 69 := by rw [gk]; rfl
  have hpos : 0 < s16 h.bare := by omega
  have gpos : 0 < s16 g.bare := by omega
  have hcl := f16_close _ _ hpos gpos
  generalize s16 h.bare = S at *
  generalize s16 g.bare = T at *
  have hx := x.toNat_lt
  have key : (num h.s1 h.s0 = num g.s1 g.s0 → f16 S = f16 T) ∧ (S = T → num h.s1 h.s0 = num g.s1 g.s0) := ⟨fun q => by omega, fun q => by subst q; omega⟩
  clear hs gs hle gle
  unfold num at key
  obtain ⟨k1, k2⟩ := key
  obtain ⟨hk0, hz0, hn1, hn0, hi1, hi0, hp1, hp0, ht, hr, hs1, hs0, ⟨ha, hb', hc, hd⟩, ⟨ha2, hb2, hc2, hd2⟩⟩ := h
  obtain ⟨gk0, gz0, gn1, gn0, gi1, gi0, gp1, gp0, gt, gr, gs1, gs0, ⟨ga, gb', gc, gd⟩, ⟨ga2, gb2, gc2, gd2⟩⟩ := g
  simp only at *
  have b1 := hn1.toNat_lt; have b2 := hn0.toNat_lt; have b3 := hi1.toNat_lt; have b4 := hi0.toNat_lt; have b5 := hp1.toNat_lt; have b6 := hp0.toNat_lt; have b7 := ht.toNat_lt; have b8 := hr.toNat_lt
  have b9 := hs1.toNat_lt; have b10 := hs0.toNat_lt
  have d1 := ha.toNat_lt; have d2 := hb'.toNat_lt; have d3 := hc.toNat_lt; have d4 := hd.toNat_lt; have d5 := ha2.toNat_lt; have d6 := hb2.toNat_lt; have d7 := hc2.toNat_lt; have d8 := hd2.toNat_lt
  have : j = 0 ∨ j = 1 ∨ j = 2 ∨ j = 3 ∨ j = 4 ∨ j = 5 ∨ j = 6 ∨ j = 7 ∨ j = 8 ∨ j = 9 ∨ j = 10 ∨ j = 11 ∨ j = 12 ∨ j = 13 ∨ j = 14 ∨ j = 15 ∨ j = 16 ∨ j = 17 ∨ j = 18 ∨ j = 19 := by omega
  rcases this with rfl | rfl | rfl | rfl | rfl | rfl | rfl | rfl | rfl | rfl | rfl | rfl | rfl | rfl | rfl | rfl | rfl | rfl | rfl | rfl
  all_goals
    simp [H20.list, H20.front, H20.back] at e
    obtain ⟨e0, e1, e2, e3, e4, e5, e6, e7, e8, e9, e10, e11, e12, e13, e14, e15, e16, e17, e18, e19⟩ := e
    subst e0 e1 e2 e3 e4 e5 e6 e7 e8 e9 e10 e11 e12 e13 e14 e15 e16 e17 e18 e19
    simp only [H20.list, H20.front, H20.back]
  case inl => rw [gk, hk]
  case inr.inl => rw [gz, hz]
  all_goals
    simp only [List.cons_append, List.nil_append, List.cons.injEq, and_true, true_and]
    refine byte_eq ?_
    first
      | (have q := hcl (k1 rfl) (by omega) (by omega); omega; done)
      | (have q := k2 (by omega); omega; done)
end Go.Proofs.PitotIp
