/- The words of a head as numbers of bits: written, and read. Plain facts. -/
import Derived.Test.YtgdjcoodjdckkaaBiRb
import Derived.Test.YtgdjcoodjdckkaaBiRef
import Derived.Test.YtgdjcoodjdckkaaWi
namespace Go.Proofs.Ytgdjcoodjdckkaa
open Go.RowKit Go.Proofs.PitotIp
open Go.Proofs.PitotAddr (hi lo hi_nat lo_nat)
open Go.Proofs.PitotMath (be)
open Go.Proofs.Ytgdjcoodjdckkaa.Bi (bitsStep bitsOf packGo togRes fitsB unpack)

theorem be4 (n : Nat) : be 4 n = [UInt8.ofNat (n / 16777216 % 256), UInt8.ofNat (n / 65536 % 256), UInt8.ofNat (n / 256 % 256), UInt8.ofNat (n % 256)] := by
  rw [Bi.be_cons 3 n, Bi.be_cons 2 n, Bi.be_cons 1 n, Bi.be_cons 0 n]
  simp [be]

theorem fits (n x : Nat) (h : n < 2 ^ x) : fitsB (n : Int) (x : Int) = true := by
  unfold fitsB
  refine decide_eq_true ⟨by omega, ?_⟩
  rw [Int.toNat_natCast]
  exact_mod_cast h

theorem of4 {a b c d a' b' c' d' : Nat} (h0 : a = a') (h1 : b = b') (h2 : c = c') (h3 : d = d') : [UInt8.ofNat a, UInt8.ofNat b, UInt8.ofNat c, UInt8.ofNat d] = [UInt8.ofNat a', UInt8.ofNat b', UInt8.ofNat c', UInt8.ofNat d'] := by
  rw [h0, h1, h2, h3]

/-- Two bytes and a number of two. -/
theorem word_a (K : List UInt8) (a b n : Nat) (ha : a < 256) (hb : b < 256) (hn : n < 65536) : bitsStep (some K) [8, 8, 16] [(a : Int), (b : Int), (n : Int)] = some (K ++ [lo a, lo b, hi n, lo n]) := by
  have t : togRes [8, 8, 16] = (4, true) := by decide
  have f1 : fitsB (a : Int) 8 = true := fits a 8 ha
  have f2 : fitsB (b : Int) 8 = true := fits b 8 hb
  have f3 : fitsB (n : Int) 16 = true := fits n 16 hn
  simp only [bitsStep, bitsOf, t, packGo, f1, f2, f3, if_true, List.length_cons, List.length_nil, and_self, Option.bind_some, Option.map_some, Int.toNat_natCast]
  show some (K ++ be 4 (((0 * 2 ^ 8 + a) * 2 ^ 8 + b) * 2 ^ 16 + n)) = _
  rw [be4]
  show some (K ++ _) = some (K ++ [UInt8.ofNat (a % 256), UInt8.ofNat (b % 256), UInt8.ofNat (n / 256 % 256), UInt8.ofNat (n % 256)])
  rw [of4 (a' := a % 256) (b' := b % 256) (c' := n / 256 % 256) (d' := n % 256) (by omega) (by omega) (by omega) (by omega)]

/-- The place: the bits 0, 0, More, and Off. -/
def pt (m : Bool) (off : Nat) : Nat := (if m = true then 8192 else 0) + off
theorem pt_lt (m : Bool) (off : Nat) (h : off < 8192) : pt m off < 16384 := by unfold pt; split <;> omega
def mi (m : Bool) : Nat := if m = true then 1 else 0
theorem mi_pt (m : Bool) (off : Nat) : pt m off = mi m * 8192 + off := by cases m <;> simp [pt, mi]

theorem word_b (K : List UInt8) (id off : Nat) (m : Bool) (hi' : id < 65536) (ho : off < 8192) : bitsStep (some K) [16, 1, 1, 1, 13] [(id : Int), 0, 0, (mi m : Int), (off : Int)] = some (K ++ [hi id, lo id, hi (pt m off), lo (pt m off)]) := by
  have t : togRes [16, 1, 1, 1, 13] = (4, true) := by decide
  have f1 : fitsB (id : Int) 16 = true := fits id 16 hi'
  have f2 : fitsB 0 1 = true := by decide
  have f3 : fitsB (mi m : Int) 1 = true := fits (mi m) 1 (by cases m <;> simp [mi])
  have f4 : fitsB (off : Int) 13 = true := fits off 13 ho
  simp only [bitsStep, bitsOf, t, packGo, f1, f2, f3, f4, if_true, List.length_cons, List.length_nil, and_self, Option.bind_some, Option.map_some, Int.toNat_natCast]
  show some (K ++ be 4 (((((0 * 2 ^ 16 + id) * 2 ^ 1 + 0) * 2 ^ 1 + 0) * 2 ^ 1 + mi m) * 2 ^ 13 + off)) = _
  rw [be4]
  show some (K ++ _) = some (K ++ [UInt8.ofNat (id / 256 % 256), UInt8.ofNat (id % 256), UInt8.ofNat (pt m off / 256 % 256), UInt8.ofNat (pt m off % 256)])
  have hm : mi m ≤ 1 := by cases m <;> simp [mi]
  have hp := mi_pt m off
  generalize pt m off = q at *
  generalize mi m = k at *
  rw [of4 (a' := id / 256 % 256) (b' := id % 256) (c' := q / 256 % 256) (d' := q % 256) (by omega) (by omega) (by omega) (by omega)]

theorem num4 (a b c d : UInt8) : PitotMath.num [a, b, c, d] = 16777216 * a.toNat + 65536 * b.toNat + 256 * c.toNat + d.toNat := by
  simp [PitotMath.num]; omega

/-- Two bytes and a number of two, read. -/
theorem read_a (a b c d : UInt8) : unpack [8, 8, 16] 32 (PitotMath.num [a, b, c, d]) = [(a.toNat : Int), (b.toNat : Int), (PitotAddr.num c d : Int)] := by
  have ha := a.toNat_lt; have hb := b.toNat_lt; have hc := c.toNat_lt; have hd := d.toNat_lt
  rw [num4]
  unfold PitotAddr.num
  show [(((16777216 * a.toNat + 65536 * b.toNat + 256 * c.toNat + d.toNat) / 2 ^ 24 % 2 ^ 8 : Nat) : Int), (((16777216 * a.toNat + 65536 * b.toNat + 256 * c.toNat + d.toNat) / 2 ^ 16 % 2 ^ 8 : Nat) : Int), (((16777216 * a.toNat + 65536 * b.toNat + 256 * c.toNat + d.toNat) / 2 ^ 0 % 2 ^ 16 : Nat) : Int)] = _
  generalize a.toNat = A at *
  generalize b.toNat = B at *
  generalize c.toNat = C at *
  generalize d.toNat = D at *
  simp only [List.cons.injEq, and_true]
  refine ⟨?_, ?_, ?_⟩ <;> omega

theorem read_b (a b c d : UInt8) : unpack [16, 1, 1, 1, 13] 32 (PitotMath.num [a, b, c, d]) = [(PitotAddr.num a b : Int), ((PitotAddr.num c d / 32768 : Nat) : Int), ((PitotAddr.num c d / 16384 % 2 : Nat) : Int), ((PitotAddr.num c d / 8192 % 2 : Nat) : Int), ((PitotAddr.num c d % 8192 : Nat) : Int)] := by
  have ha := a.toNat_lt; have hb := b.toNat_lt; have hc := c.toNat_lt; have hd := d.toNat_lt
  rw [num4]
  unfold PitotAddr.num
  show [(((16777216 * a.toNat + 65536 * b.toNat + 256 * c.toNat + d.toNat) / 2 ^ 16 % 2 ^ 16 : Nat) : Int), (((16777216 * a.toNat + 65536 * b.toNat + 256 * c.toNat + d.toNat) / 2 ^ 15 % 2 ^ 1 : Nat) : Int), (((16777216 * a.toNat + 65536 * b.toNat + 256 * c.toNat + d.toNat) / 2 ^ 14 % 2 ^ 1 : Nat) : Int), (((16777216 * a.toNat + 65536 * b.toNat + 256 * c.toNat + d.toNat) / 2 ^ 13 % 2 ^ 1 : Nat) : Int), (((16777216 * a.toNat + 65536 * b.toNat + 256 * c.toNat + d.toNat) / 2 ^ 0 % 2 ^ 13 : Nat) : Int)] = _
  generalize a.toNat = A at *
  generalize b.toNat = B at *
  generalize c.toNat = C at *
  generalize d.toNat = D at *
  simp only [List.cons.injEq, and_true]
  refine ⟨?_, ?_, ?_, ?_, ?_⟩ <;> omega
end Go.Proofs.Ytgdjcoodjdckkaa
