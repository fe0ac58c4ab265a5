/- Contracts of the document's Writer (the reference): fits, Num, bytes, Put, Text, Bits, Bytes. -/
import Derived.Test.YtgdjcoodjdckkaaBiWb
namespace Go.Proofs.Ytgdjcoodjdckkaa.Bi
open Go.RowKit Go.Proofs.PitotMath

theorem be_cons : ∀ (k n : Nat), be (k + 1) n = UInt8.ofNat (n / 256 ^ k % 256) :: be k n
  | 0, n => by simp [be]
  | k + 1, n => by
    have h := be_cons k (n / 256)
    rw [be, h, be]
    have e : n / 256 / 256 ^ k = n / 256 ^ (k + 1) := by rw [Nat.pow_succ, Nat.mul_comm, Nat.div_div_eq_div_mul]
    rw [e]
    rfl

theorem cat_one (c : UInt8) (l : List UInt8) : (⟨#[c]⟩ : ByteArray) ++ (⟨l.toArray⟩ : ByteArray) = ⟨(c :: l).toArray⟩ := by
  apply ByteArray.ext; simp

/-- The sum of widths as the document's answer reckons it. -/
def rsum : List Int → Int → Option Int
  | [], s => some s
  | x :: t, s => if x < 1 ∨ 32 < x ∨ 32 < s then none else rsum t (s + x)

def refBytes (xs : List Int) : Int := match rsum xs 0 with
  | none => 0
  | some s => if okSum s = true then s / 8 else 0

theorem rsum_over {xs : List Int} {s : Int} (h : 32 < s) : rsum xs s = none ∨ rsum xs s = some s := by
  cases xs with
  | nil => exact .inr rfl
  | cons x t => left; simp only [rsum]; rw [if_pos (by omega)]

theorem rsum_tog : ∀ (xs : List Int) (s : Int), 0 ≤ s → s ≤ 32 → (∃ t, togGo xs s = some t ∧ rsum xs s = some t) ∨ (togGo xs s = none ∧ (rsum xs s = none ∨ ∃ t, 32 < t ∧ rsum xs s = some t))
  | [], s, _, _ => .inl ⟨s, rfl, rfl⟩
  | x :: t, s, h0, h1 => by
    simp only [togGo, rsum]
    by_cases h : x < 1 ∨ 32 - s < x
    · rw [if_pos h]
      right
      refine ⟨rfl, ?_⟩
      by_cases h' : x < 1 ∨ 32 < x ∨ 32 < s
      · rw [if_pos h']; exact .inl rfl
      · rw [if_neg h']
        rcases rsum_over (xs := t) (s := s + x) (by omega) with e | e
        · exact .inl e
        · exact .inr ⟨s + x, by omega, e⟩
    · rw [if_neg h, if_neg (by omega)]
      exact rsum_tog t (s + x) (by omega) (by omega)

theorem refBytes_eq (xs : List Int) : refBytes xs = if (togRes xs).2 = true then (togRes xs).1 else 0 := by
  unfold refBytes
  rcases rsum_tog xs 0 (by omega) (by omega) with ⟨t, h1, h2⟩ | ⟨h1, h2 | ⟨t, h3, h2⟩⟩
  · rw [togRes_some h1, h2]
  · rw [togRes_none h1, h2]; rfl
  · rw [togRes_none h1, h2]
    have : okSum t = false := by simp [okSum]; omega
    simp [this]

theorem rsum_cons {xs : List Int} {k : Nat} (hk : k < xs.length) (s : Int) : rsum (xs.drop k) s = if xs[k] < 1 ∨ 32 < xs[k] ∨ 32 < s then none else rsum (xs.drop (k + 1)) (s + xs[k]) := by
  rw [List.drop_eq_getElem_cons hk]; rfl

theorem refBytes_none {xs : List Int} (h : rsum xs 0 = none) : refBytes xs = 0 := by unfold refBytes; rw [h]
theorem refBytes_some {xs : List Int} {s : Int} (h : rsum xs 0 = some s) : refBytes xs = if okSum s = true then s / 8 else 0 := by unfold refBytes; rw [h]

end Go.Proofs.Ytgdjcoodjdckkaa.Bi
