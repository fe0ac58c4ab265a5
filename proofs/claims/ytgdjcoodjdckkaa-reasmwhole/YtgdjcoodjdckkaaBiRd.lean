/- Contracts of the program's Reader: Read, Err, Left, Text, Rest, gather, U8, U16, U32. -/
import Derived.Test.YtgdjcoodjdckkaaBiWt
namespace Go.Proofs.Ytgdjcoodjdckkaa.Bi
open Go.RowKit Go.Proofs.PitotMath

theorem size_list (l : List UInt8) : (⟨l.toArray⟩ : ByteArray).size = l.length := by show l.toArray.size = _; simp

theorem num_take (s : ByteArray) (k : Nat) (h : k < s.size) : num (s.data.toList.take (k + 1)) = 256 * num (s.data.toList.take k) + s[k].toNat := by
  rw [take_snoc s k h, num_snoc]

theorem num_bd (s : ByteArray) (k : Nat) : num (s.data.toList.take k) < 256 ^ k := by
  have h := num_lt (s.data.toList.take k)
  have h2 : 256 ^ (s.data.toList.take k).length ≤ 256 ^ k := Nat.pow_le_pow_right (by omega) (by simp; omega)
  omega

theorem gather_step (s : ByteArray) (k : Nat) (h : k < s.size) (hs : s.size ≤ 4) :
    bits .or .u32 (IntKind.u32.wrap ((num (s.data.toList.take k) : Nat) * 256)) (IntKind.u32.wrap s[k].toNat) = (num (s.data.toList.take (k + 1)) : Nat) := by
  have h1 := num_take s k h
  have h2 := num_bd s k
  have h3 := s[k].toNat_lt
  have h4 : 256 ^ k ≤ 256 ^ 3 := Nat.pow_le_pow_right (by omega) (by omega)
  generalize num (s.data.toList.take k) = x at h1 h2 ⊢
  rw [h1]
  have e : ((x : Int) * 256) = ((x * 256 : Nat) : Int) := by simp
  rw [e, IntWalk.u32_in _ (by omega), IntWalk.u32_in _ (by omega), u32_or_nat _ _ (by omega) (by omega)]
  have := Nat.two_pow_add_eq_or_of_lt (i := 8) (b := s[k].toNat) (by omega) x
  rw [show x * 256 = 2 ^ 8 * x by omega, ← this]

theorem num_4 (l : List UInt8) (h : l.length ≤ 4) : num l < 4294967296 := by
  have h1 := num_lt l
  have h2 : 256 ^ l.length ≤ 256 ^ 4 := Nat.pow_le_pow_right (by omega) h
  omega

/-- What U8, U16, U32 answer, by how many bytes they read. -/
def uFn (m : Nat) : Nat := match m with | 1 => 18 | 2 => 19 | _ => 20

end Go.Proofs.Ytgdjcoodjdckkaa.Bi
