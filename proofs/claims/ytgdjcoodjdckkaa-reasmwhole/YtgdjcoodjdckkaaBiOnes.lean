/- Contracts of Ones (the program's and the document's). -/
import Derived.Test.YtgdjcoodjdckkaaRows
import Derived.WalkKit
import Derived.WalkSpells
import Derived.WalkLawsBesides
import Derived.BigQuiet
import Derived.Laws.BitsAllLaws
import Derived.Laws.BitsLemmas
import Derived.Deep.QuietTactic
import Derived.Test.YtgdjcoodjdckkaaBiMath
namespace Go.Proofs.Ytgdjcoodjdckkaa.Bi
open Go.RowKit Go.Proofs.PitotMath

theorem take_snoc (s : ByteArray) (k : Nat) (h : k < s.size) : s.data.toList.take (k + 1) = s.data.toList.take k ++ [s[k]] := by
  rw [List.take_succ_eq_append_getElem (by simpa using h)]; rfl

theorem ret_int {k : IntKind} {a b : Int} (h : a = b) : Ending.returned (.int k a) = .returned (.int k b) := by rw [h]
theorem val_int {k : IntKind} {a b : Int} (h : a = b) : Value.int k a = .int k b := by rw [h]

theorem s16_at (s : ByteArray) (k : Nat) (h : k < s.size) : s16 (s.data.toList.take (k + 1)) = s16 (s.data.toList.take k) + if k % 2 = 0 then 256 * s[k].toNat else s[k].toNat := by
  rw [take_snoc s k h, s16_snoc]
  have : (s.data.toList.take k).length = k := by simp; omega
  rw [this]

theorem s16_bd (s : ByteArray) (k : Nat) : s16 (s.data.toList.take k) ≤ 65280 * s.size := by
  have h := s16_le (s.data.toList.take k)
  have : (s.data.toList.take k).length ≤ s.size := by simp; omega
  exact Nat.le_trans h (Nat.mul_le_mul_left _ this)

theorem ones_even (s : ByteArray) (k : Nat) (hs : s.size ≤ 70000) (h : k < s.size) (he : ((k : Int) % 2 == 0) = true) :
    IntKind.u64.wrap ((s16 (s.data.toList.take k) : Nat) + IntKind.u64.wrap (IntKind.u64.wrap s[k].toNat * 256)) = (s16 (s.data.toList.take (k + 1)) : Nat) := by
  have h1 := s16_at s k h
  have h2 := s16_bd s k
  have h3 := s[k].toNat_lt
  rw [if_pos (by simp at he; omega)] at h1
  rw [h1, IntWalk.u64_in (s[k].toNat : Int) (by omega), IntWalk.u64_in (_ * 256) (by omega), IntWalk.u64_in _ (by omega)]
  omega

theorem ones_odd (s : ByteArray) (k : Nat) (hs : s.size ≤ 70000) (h : k < s.size) (he : ((k : Int) % 2 == 0) = false) :
    IntKind.u64.wrap ((s16 (s.data.toList.take k) : Nat) + IntKind.u64.wrap s[k].toNat) = (s16 (s.data.toList.take (k + 1)) : Nat) := by
  have h1 := s16_at s k h
  have h2 := s16_bd s k
  have h3 := s[k].toNat_lt
  rw [if_neg (by simp at he; omega)] at h1
  rw [h1, IntWalk.u64_in (s[k].toNat : Int) (by omega), IntWalk.u64_in _ (by omega)]
  omega

theorem and_ffff (m : Nat) (h : m ≤ 65280 * 70000) : bits .and .u64 (m : Int) 65535 = ((m % 65536 : Nat) : Int) := by
  rw [show (65535 : Int) = ((65535 : Nat) : Int) from rfl, u64_and_nat m 65535 (by omega) (by omega), show 65535 = 2 ^ 16 - 1 from rfl, Nat.and_two_pow_sub_one_eq_mod]

theorem fold_step (m : Nat) (h : m ≤ 65280 * 70000) : IntKind.u64.wrap ((m : Int) / 65536 + bits .and .u64 (m : Int) 65535) = ((m / 65536 + m % 65536 : Nat) : Int) := by
  rw [and_ffff m h, IntWalk.u64_in _ (by omega)]; omega

theorem not_16 (m : Nat) (h : m ≤ 65535) : wrap64 (bits .xor .u16 IntKind.u16.max (IntKind.u16.wrap m)) = ((65535 - m : Nat) : Int) := by
  rw [IntWalk.u16_in _ (by omega), show IntKind.u16.max = ((65535 : Nat) : Int) from by decide, u16_xor_nat 65535 m (by omega) (by omega)]
  have e : 65535 ^^^ m = 65535 - m := by
    have h1 : (BitVec.allOnes 16 ^^^ BitVec.ofNat 16 m).toNat = (~~~ (BitVec.ofNat 16 m)).toNat := by rw [BitVec.allOnes_xor]
    rw [BitVec.toNat_xor, BitVec.toNat_not, BitVec.toNat_allOnes, BitVec.toNat_ofNat, Nat.mod_eq_of_lt (by omega)] at h1
    exact h1
  rw [e, IntWalk.wrap64_in _ (by omega)]

theorem conv_one (w : World) (b : UInt8) (n : Int) (hn : n = b.toNat) :
    (convert 71 9 (.slice (some ⟨w.heap.size, 0, none⟩) 1 1)).run Try.prog (w.alloc (.cells #[.int .u8 n] 5)) = .ok (.string ⟨#[b]⟩) (w.alloc (.cells #[.int .u8 n] 5)) := by
  subst hn
  exact run_convert_bytes_back (P := Try.prog) (w.alloc (.cells #[.int .u8 b.toNat] 5)) 71 9 5 ⟨w.heap.size, 0, none⟩ 1 [b] Try.underlying71 Try.underlying5 Try.underlying9 (fun j hj => by
    obtain rfl : j = 0 := by simp at hj; omega
    exact World.cell?_alloc_mark w #[.int .u8 b.toNat] 5 (0, 0) 0)

theorem ref_step (s : ByteArray) (k : Nat) (hs : s.size ≤ 70000) (h : k + 1 < s.size) (he : k % 2 = 0) :
    wrap64 (wrap64 ((s16 (s.data.toList.take k) : Nat) + wrap64 (256 * wrap64 (s[k].toNat : Nat))) + wrap64 (s[k + 1].toNat : Nat)) = (s16 (s.data.toList.take (k + 2)) : Nat) := by
  have h1 := s16_at s k (by omega)
  have h1' : s16 (s.data.toList.take (k + 2)) = _ := s16_at s (k + 1) h
  have h2 := s16_bd s k
  have h3 := s[k].toNat_lt
  have h4 := s[k + 1].toNat_lt
  rw [if_pos he] at h1
  rw [if_neg (by omega)] at h1'
  rw [IntWalk.wrap64_in (s[k].toNat : Int) (by omega), IntWalk.wrap64_in (256 * _) (by omega), IntWalk.wrap64_in (s[k + 1].toNat : Int) (by omega), IntWalk.wrap64_in (_ + 256 * _) (by omega), IntWalk.wrap64_in _ (by omega)]
  omega

theorem snoc_zero (s : ByteArray) : (s ++ (⟨#[0]⟩ : ByteArray)).data.toList = s.data.toList ++ [0] := by simp

theorem snoc_size (s : ByteArray) : (s ++ (⟨#[0]⟩ : ByteArray)).size = s.size + 1 := by simp; rfl

end Go.Proofs.Ytgdjcoodjdckkaa.Bi
