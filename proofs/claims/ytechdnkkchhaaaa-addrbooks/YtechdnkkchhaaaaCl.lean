/- How addresses are compared: bytes.Compare, and the function that All hands to slices.SortFunc. -/
import Derived.Test.YtechdnkkchhaaaaMk
import Derived.Test.YtechdnkkchhaaaaSl
import Derived.Laws.Externs
set_option maxRecDepth 100000
namespace Go.Proofs.Ytechdnkkchhaaaa
open Go.RowKit Go.Proofs.PitotAddr Go.Shelf Go.Lib Go.Sort

/-- The order of bytes. -/
def cmpM (x y : M6) : Int := if x.bytes < y.bytes then -1 else if y.bytes < x.bytes then 1 else 0

theorem cmp6 (a b c d e f a' b' c' d' e' f' : UInt8) :
    Extern.BytealgCompare.cmp ⟨#[a, b, c, d, e, f]⟩ ⟨#[a', b', c', d', e', f']⟩ =
      if a ≠ a' then (if a < a' then -1 else 1) else if b ≠ b' then (if b < b' then -1 else 1) else if c ≠ c' then (if c < c' then -1 else 1) else if d ≠ d' then (if d < d' then -1 else 1) else if e ≠ e' then (if e < e' then -1 else 1) else if f ≠ f' then (if f < f' then -1 else 1) else 0 := by
  unfold Extern.BytealgCompare.cmp
  show (match [0, 1, 2, 3, 4, 5].find? fun i => (⟨#[a, b, c, d, e, f]⟩ : ByteArray)[i]! != (⟨#[a', b', c', d', e', f']⟩ : ByteArray)[i]! with
    | some i => if (⟨#[a, b, c, d, e, f]⟩ : ByteArray)[i]! < (⟨#[a', b', c', d', e', f']⟩ : ByteArray)[i]! then -1 else 1
    | none => if 6 < 6 then -1 else if 6 > 6 then 1 else 0) = _
  have g0 : ∀ x0 x1 x2 x3 x4 x5 : UInt8, (⟨#[x0, x1, x2, x3, x4, x5]⟩ : ByteArray)[0]! = x0 := fun _ _ _ _ _ _ => rfl
  have g1 : ∀ x0 x1 x2 x3 x4 x5 : UInt8, (⟨#[x0, x1, x2, x3, x4, x5]⟩ : ByteArray)[1]! = x1 := fun _ _ _ _ _ _ => rfl
  have g2 : ∀ x0 x1 x2 x3 x4 x5 : UInt8, (⟨#[x0, x1, x2, x3, x4, x5]⟩ : ByteArray)[2]! = x2 := fun _ _ _ _ _ _ => rfl
  have g3 : ∀ x0 x1 x2 x3 x4 x5 : UInt8, (⟨#[x0, x1, x2, x3, x4, x5]⟩ : ByteArray)[3]! = x3 := fun _ _ _ _ _ _ => rfl
  have g4 : ∀ x0 x1 x2 x3 x4 x5 : UInt8, (⟨#[x0, x1, x2, x3, x4, x5]⟩ : ByteArray)[4]! = x4 := fun _ _ _ _ _ _ => rfl
  have g5 : ∀ x0 x1 x2 x3 x4 x5 : UInt8, (⟨#[x0, x1, x2, x3, x4, x5]⟩ : ByteArray)[5]! = x5 := fun _ _ _ _ _ _ => rfl
  simp only [List.find?_cons, List.find?_nil, g0, g1, g2, g3, g4, g5]
  by_cases h0 : a = a'
  · subst h0
    by_cases h1 : b = b'
    · subst h1
      by_cases h2 : c = c'
      · subst h2
        by_cases h3 : d = d'
        · subst h3
          by_cases h4 : e = e'
          · subst h4
            by_cases h5 : f = f'
            · subst h5; simp
            · have k : (f != f') = true := by simp [h5]
              simp [h5, k, g5]
          · have k : (e != e') = true := by simp [h4]
            simp [h4, k, g4]
        · have k : (d != d') = true := by simp [h3]
          simp [h3, k, g3]
      · have k : (c != c') = true := by simp [h2]
        simp [h2, k, g2]
    · have k : (b != b') = true := by simp [h1]
      simp [h1, k, g1]
  · have k : (a != a') = true := by simp [h0]
    simp [h0, k, g0]

theorem cmp_bytes (x y : M6) : Extern.BytealgCompare.cmp ⟨x.bytes.toArray⟩ ⟨y.bytes.toArray⟩ = cmpM x y := by
  obtain ⟨a, b, c, d, e, f⟩ := x
  obtain ⟨a', b', c', d', e', f'⟩ := y
  show Extern.BytealgCompare.cmp ⟨#[a, b, c, d, e, f]⟩ ⟨#[a', b', c', d', e', f']⟩ = _
  rw [cmp6]
  unfold cmpM M6.bytes
  simp only [List.cons_lt_cons_iff]
  have tri : ∀ u v : UInt8, u ≠ v → (u < v ∧ ¬ v < u) ∨ (v < u ∧ ¬ u < v) := fun u v h => by
    have h' : u.toNat ≠ v.toNat := fun e => h (UInt8.toNat_inj.1 e)
    simp only [UInt8.lt_iff_toNat_lt]
    omega
  have irr : ∀ u : UInt8, ¬ u < u := fun u => by simp [UInt8.lt_iff_toNat_lt]
  by_cases h0 : a = a'
  · subst h0
    by_cases h1 : b = b'
    · subst h1
      by_cases h2 : c = c'
      · subst h2
        by_cases h3 : d = d'
        · subst h3
          by_cases h4 : e = e'
          · subst h4
            by_cases h5 : f = f'
            · subst h5; simp [irr]
            · rcases tri f f' h5 with ⟨p, q⟩ | ⟨p, q⟩ <;> simp [irr, h5, p, q]
          · rcases tri e e' h4 with ⟨p, q⟩ | ⟨p, q⟩ <;> simp [irr, h4, p, q, Ne.symm h4]
        · rcases tri d d' h3 with ⟨p, q⟩ | ⟨p, q⟩ <;> simp [irr, h3, p, q, Ne.symm h3]
      · rcases tri c c' h2 with ⟨p, q⟩ | ⟨p, q⟩ <;> simp [irr, h2, p, q, Ne.symm h2]
    · rcases tri b b' h1 with ⟨p, q⟩ | ⟨p, q⟩ <;> simp [irr, h1, p, q, Ne.symm h1]
  · rcases tri a a' h0 with ⟨p, q⟩ | ⟨p, q⟩ <;> simp [irr, h0, p, q, Ne.symm h0]

theorem ltM (x y : M6) : ltOf cmpM x y = decide (x.bytes < y.bytes) := by
  unfold ltOf cmpM
  by_cases h : x.bytes < y.bytes
  · simp [h]
  · by_cases h' : y.bytes < x.bytes <;> simp [h, h']

theorem swoM : SWO (ltOf cmpM) where
  irrefl x := by rw [ltM]; simp [List.lt_irrefl]
  trans x y z h1 h2 := by rw [ltM] at *; simp at *; exact List.lt_trans h1 h2
  ntrans x y z h1 h2 := by
    rw [ltM] at *
    simp only [decide_eq_false_iff_not] at *
    exact List.not_lt.2 (List.le_trans (List.not_lt.1 h2) (List.not_lt.1 h1))
theorem totM (x y : M6) (h1 : ltOf cmpM x y = false) (h2 : ltOf cmpM y x = false) : x = y := by
  rw [ltM] at h1 h2
  simp only [decide_eq_false_iff_not] at h1 h2
  exact M6.bytes_inj (List.le_antisymm (List.not_lt.1 h2) (List.not_lt.1 h1))
end Go.Proofs.Ytechdnkkchhaaaa
