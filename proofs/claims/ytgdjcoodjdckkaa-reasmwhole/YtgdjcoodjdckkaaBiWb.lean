/- Contracts of the program's Writer: Bits, U8, U16, U32. -/
import Derived.Test.YtgdjcoodjdckkaaBiWt
namespace Go.Proofs.Ytgdjcoodjdckkaa.Bi
open Go.RowKit Go.Proofs.PitotMath

/-- Numbers, each so many bits wide, one behind the other; none: one of them does not fit. -/
def packGo : List Int → List Int → Nat → Option Nat
  | [], _, a => some a
  | _ :: _, [], a => some a
  | x :: xs, n :: ns, a => if fitsB n x = true then packGo xs ns (a * 2 ^ x.toNat + n.toNat) else none

/-- The bytes that numbers of these widths are; none: they may not be. -/
def bitsOf (xs ns : List Int) : Option (List UInt8) :=
  if (togRes xs).2 = true ∧ xs.length = ns.length then (packGo xs ns 0).map (be (togRes xs).1.toNat) else none

def bitsStep (st : Option (List UInt8)) (xs ns : List Int) : Option (List UInt8) := st.bind fun l => (bitsOf xs ns).map (l ++ ·)

theorem tog_ok {xs : List Int} (h : (togRes xs).2 = true) : ∃ (tot : Int) (m : Nat), togGo xs 0 = some tot ∧ tot = 8 * m ∧ (m = 1 ∨ m = 2 ∨ m = 4) ∧ togRes xs = ((m : Int), true) := by
  cases ht : togGo xs 0 with
  | none => rw [togRes_none ht] at h; simp at h
  | some tot =>
    rw [togRes_some ht] at h
    have h' : okSum tot = true := h
    simp only [okSum, Bool.or_eq_true, beq_iff_eq] at h'
    rcases h' with (rfl | rfl) | rfl
    · exact ⟨8, 1, rfl, rfl, by simp, by rw [togRes_some ht]; rfl⟩
    · exact ⟨16, 2, rfl, rfl, by simp, by rw [togRes_some ht]; rfl⟩
    · exact ⟨32, 4, rfl, rfl, by simp, by rw [togRes_some ht]; rfl⟩

theorem grown_of_below {w w' : World} {r : Option Nat} (h : Below w.heap.size w w') : w.grownBy w' r := ⟨h.os, h.tape, h.output, h.size, fun k hk _ => h.block k hk⟩

theorem pack_cons {xs ns : List Int} {k : Nat} (h1 : k < xs.length) (h2 : k < ns.length) (a : Nat) :
    packGo (xs.drop k) (ns.drop k) a = if fitsB ns[k] xs[k] = true then packGo (xs.drop (k + 1)) (ns.drop (k + 1)) (a * 2 ^ xs[k].toNat + ns[k].toNat) else none := by
  rw [List.drop_eq_getElem_cons h1, List.drop_eq_getElem_cons h2]; rfl

theorem shl_or (a : Nat) (x v S : Int) (ha : a < 2 ^ S.toNat) (hS : 0 ≤ S) (hx : 1 ≤ x) (hSx : x ≤ 32 - S) (hv : fitsB v x = true) :
    bits .or .u32 (IntKind.u32.wrap ((a : Int) * 2 ^ x.toNat)) (IntKind.u32.wrap v) = ((a * 2 ^ x.toNat + v.toNat : Nat) : Int) ∧ a * 2 ^ x.toNat + v.toNat < 2 ^ (S + x).toNat := by
  unfold fitsB at hv
  have hv' := of_decide_eq_true hv
  obtain ⟨v, rfl⟩ := Int.eq_ofNat_of_zero_le hv'.1
  obtain ⟨x, rfl⟩ := Int.eq_ofNat_of_zero_le (show 0 ≤ x by omega)
  obtain ⟨S, rfl⟩ := Int.eq_ofNat_of_zero_le hS
  have hv2 : v < 2 ^ x := by have := hv'.2; simp at this; exact_mod_cast this
  simp only [Int.toNat_natCast] at ha ⊢
  have hsx : (((S : Int) + (x : Int))).toNat = S + x := by omega
  rw [hsx]
  have h2 : a * 2 ^ x + v < 2 ^ (S + x) := by
    rw [Nat.pow_add]
    have : (a + 1) * 2 ^ x ≤ 2 ^ S * 2 ^ x := Nat.mul_le_mul_right _ ha
    rw [Nat.add_mul] at this
    omega
  have h3 : 2 ^ (S + x) ≤ 2 ^ 32 := Nat.pow_le_pow_right (by omega) (by omega)
  have e1 : ((a : Int) * 2 ^ x) = ((a * 2 ^ x : Nat) : Int) := by simp
  have h4 : a * 2 ^ x < 4294967296 := by omega
  have h5 : v < 4294967296 := by omega
  rw [e1, IntWalk.u32_in _ (by omega), IntWalk.u32_in _ (by omega), u32_or_nat _ _ h4 h5]
  refine ⟨?_, h2⟩
  rw [Nat.mul_comm a, ← Nat.two_pow_add_eq_or_of_lt hv2 a]

theorem togGo_at {xs : List Int} {k : Nat} {S tot : Int} (hk : k < xs.length) (h : togGo (xs.drop k) S = some tot) : 1 ≤ xs[k] ∧ xs[k] ≤ 32 - S ∧ togGo (xs.drop (k + 1)) (S + xs[k]) = some tot := by
  rw [tog_cons hk] at h
  split at h
  · cases h
  · exact ⟨by omega, by omega, h⟩

theorem togGo_end {S tot : Int} (h : togGo [] S = some tot) : S = tot := by simpa [togGo] using h

/-- A number in so many bytes, put behind. -/
def putStep (st : Option (List UInt8)) (m : Nat) (v : Int) : Option (List UInt8) := if fitsB v (8 * m) = true then st.map (· ++ be m v.toNat) else none

theorem ints_one {w : World} (x : Int) (k : Nat) (hk : w.heap[k]? = some (.cells #[.int .i64 x] 3)) : IntsAt w (some ⟨k, 0, none⟩) [x] := by
  intro _
  refine ⟨k, 0, rfl, lies_lt hk, fun i hi => ?_⟩
  obtain rfl : i = 0 := by simp at hi; omega
  exact lies_cell hk 0

theorem tog_one (m : Nat) (hm : m = 1 ∨ m = 2 ∨ m = 4) : togRes [(8 * m : Int)] = ((m : Int), true) := by
  rcases hm with rfl | rfl | rfl <;> rfl

theorem bitsStep_one (st : Option (List UInt8)) (m : Nat) (v : Int) (hm : m = 1 ∨ m = 2 ∨ m = 4) : bitsStep st [(8 * m : Int)] [v] = putStep st m v := by
  unfold bitsStep bitsOf putStep
  rw [tog_one m hm]
  simp only [List.length_cons, List.length_nil, and_self, if_true, packGo]
  cases st with
  | none => simp
  | some l => split <;> simp

end Go.Proofs.Ytgdjcoodjdckkaa.Bi
