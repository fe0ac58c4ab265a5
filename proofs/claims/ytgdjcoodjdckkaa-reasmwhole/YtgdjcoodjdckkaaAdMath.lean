/- Plain: two bytes of a number; what an address is of. -/
namespace Go.Proofs.PitotAddr

def hi (n : Nat) : UInt8 := UInt8.ofNat (n / 256 % 256)
def lo (n : Nat) : UInt8 := UInt8.ofNat (n % 256)
def num (h l : UInt8) : Nat := 256 * h.toNat + l.toNat

theorem num_lt (h l : UInt8) : num h l < 65536 := by have := h.toNat_lt; have := l.toNat_lt; unfold num; omega
theorem hi_nat (n : Nat) : (hi n).toNat = n / 256 % 256 := by simp [hi]
theorem lo_nat (n : Nat) : (lo n).toNat = n % 256 := by simp [lo]
theorem hi_num (h l : UInt8) : hi (num h l) = h := by
  apply UInt8.toNat_inj.1; rw [hi_nat]; have := h.toNat_lt; have := l.toNat_lt; unfold num; omega
theorem lo_num (h l : UInt8) : lo (num h l) = l := by
  apply UInt8.toNat_inj.1; rw [lo_nat]; have := h.toNat_lt; have := l.toNat_lt; unfold num; omega
theorem num_hi_lo (n : Nat) (h : n < 65536) : num (hi n) (lo n) = n := by unfold num; rw [hi_nat, lo_nat]; omega

/-- An address of Ethernet. -/
structure M6 where
  a : UInt8
  b : UInt8
  c : UInt8
  d : UInt8
  e : UInt8
  f : UInt8
deriving DecidableEq, Inhabited

def M6.bytes (m : M6) : List UInt8 := [m.a, m.b, m.c, m.d, m.e, m.f]
theorem M6.bytes_inj {m n : M6} (h : m.bytes = n.bytes) : m = n := by
  cases m; cases n; simpa [M6.bytes] using h

/-- Its number, if it is one of a virtual link; else 0. -/
def M6.isVL (m : M6) : Bool := m.a == 3 && m.b == 0 && m.c == 0 && m.d == 0 && decide (1 ≤ num m.e m.f)
def M6.vl (m : M6) : Nat := if m.isVL then num m.e m.f else 0
/-- .. of an end system. -/
def M6.isEnd (m : M6) (net : Nat) : Bool := m.a == 2 && m.b == 0 && m.c == 0 && decide (num m.d m.e ≤ 4095) && decide (m.f.toNat = 32 * (net + 1))
end Go.Proofs.PitotAddr
