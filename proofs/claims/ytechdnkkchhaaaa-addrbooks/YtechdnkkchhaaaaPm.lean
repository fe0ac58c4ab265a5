/- Plain: which texts are addresses. -/
import Derived.Test.YtechdnkkchhaaaaPr
set_option maxRecDepth 100000
namespace Go.Proofs.Ytechdnkkchhaaaa
open Go.Proofs.PitotAddr

/-- What a digit is worth; 255: it is none. -/
def dv (c : UInt8) : Nat := if 48 ≤ c.toNat ∧ c.toNat ≤ 57 then c.toNat - 48 else if 97 ≤ c.toNat ∧ c.toNat ≤ 102 then c.toNat - 87 else 255
def isH (c : UInt8) : Bool := decide (dv c < 16)
theorem dv_lt (c : UInt8) : dv c < 256 := by have := c.toNat_lt; unfold dv; split <;> (try split) <;> omega
theorem dv_cases (c : UInt8) : dv c < 16 ∨ dv c = 255 := by unfold dv; split <;> (try split) <;> omega
theorem hx_dv (c : UInt8) (h : dv c < 16) : hx (dv c) = c := by
  have H : ∀ i : Fin 256, dv (UInt8.ofNat i.val) < 16 → hx (dv (UInt8.ofNat i.val)) = UInt8.ofNat i.val := by decide
  have e : UInt8.ofNat c.toNat = c := by simp
  have := H ⟨c.toNat, c.toNat_lt⟩
  simp only [e] at this
  exact this h
theorem dv_hx : ∀ n : Nat, n < 16 → dv (hx n) = n := by decide

/-- The byte of two signs. -/
def pbyte (x y : UInt8) : UInt8 := UInt8.ofNat ((dv x * 16 % 256) ||| dv y)
theorem pbyte_nat (x y : UInt8) (hx' : dv x < 16) (hy : dv y < 16) : (pbyte x y).toNat = 16 * dv x + dv y := by
  unfold pbyte
  have e : dv x * 16 % 256 = 2 ^ 4 * dv x := by omega
  rw [e, ← Nat.two_pow_add_eq_or_of_lt (by omega) (dv x)]
  simp; omega
theorem pair_iff (x y : UInt8) : pair (pbyte x y) = [x, y] ↔ (isH x = true ∧ isH y = true) := by
  unfold pair isH
  simp only [List.cons.injEq, and_true, decide_eq_true_eq]
  constructor
  · rintro ⟨h1, h2⟩
    have hb := (pbyte x y).toNat_lt
    refine ⟨?_, ?_⟩
    · rw [← h1, dv_hx _ (by omega)]; omega
    · rw [← h2, dv_hx _ (by omega)]; omega
  · rintro ⟨h1, h2⟩
    rw [pbyte_nat x y h1 h2, show (16 * dv x + dv y) / 16 = dv x by omega, show (16 * dv x + dv y) % 16 = dv y by omega]
    exact ⟨hx_dv x h1, hx_dv y h2⟩

def at' (s : List UInt8) (i : Nat) : UInt8 := s.getD i 0
def pl (s : List UInt8) : List UInt8 := [pbyte (at' s 0) (at' s 1), pbyte (at' s 3) (at' s 4), pbyte (at' s 6) (at' s 7), pbyte (at' s 9) (at' s 10), pbyte (at' s 12) (at' s 13), pbyte (at' s 15) (at' s 16)]
theorem pl_get (s : List UInt8) (k : Nat) (hk : k < 6) : (pl s).getD k 0 = pbyte (at' s (3 * k)) (at' s (3 * k + 1)) := by
  have : k = 0 ∨ k = 1 ∨ k = 2 ∨ k = 3 ∨ k = 4 ∨ k = 5 := by omega
  rcases this with rfl | rfl | rfl | rfl | rfl | rfl <;> rfl
/-- The k-th pair of signs, and the sign behind it, are right. -/
def okg (s : List UInt8) (k : Nat) : Bool := isH (at' s (3 * k)) && isH (at' s (3 * k + 1)) && (decide (k = 5) || at' s (3 * k + 2) == 58)

theorem pk6 (a b c d e f : UInt8) : pk [a, b, c, d, e, f] 6 = pair a ++ [58] ++ pair b ++ [58] ++ pair c ++ [58] ++ pair d ++ [58] ++ pair e ++ [58] ++ pair f := by
  simp [pk, sep, pair]

theorem seven {p0 p1 p2 p3 p4 p5 q0 q1 q2 q3 q4 : List UInt8} {x0 x1 x2 x3 x4 : UInt8} (h0 : p0.length = 2) (h1 : p1.length = 2) (h2 : p2.length = 2) (h3 : p3.length = 2) (h4 : p4.length = 2)
    (g0 : q0.length = 2) (g1 : q1.length = 2) (g2 : q2.length = 2) (g3 : q3.length = 2) (g4 : q4.length = 2) {q5 : List UInt8} {y0 y1 y2 y3 y4 : UInt8} :
    p0 ++ [x0] ++ p1 ++ [x1] ++ p2 ++ [x2] ++ p3 ++ [x3] ++ p4 ++ [x4] ++ p5 = q0 ++ [y0] ++ q1 ++ [y1] ++ q2 ++ [y2] ++ q3 ++ [y3] ++ q4 ++ [y4] ++ q5 ↔
      (p0 = q0 ∧ x0 = y0) ∧ (p1 = q1 ∧ x1 = y1) ∧ (p2 = q2 ∧ x2 = y2) ∧ (p3 = q3 ∧ x3 = y3) ∧ (p4 = q4 ∧ x4 = y4) ∧ p5 = q5 := by
  constructor
  · intro h
    simp only [List.append_assoc] at h
    obtain ⟨a0, k0⟩ := List.append_inj h (by omega)
    obtain ⟨e0, k0'⟩ := List.append_inj k0 rfl
    obtain ⟨a1, k1⟩ := List.append_inj k0' (by omega)
    obtain ⟨e1, k1'⟩ := List.append_inj k1 rfl
    obtain ⟨a2, k2⟩ := List.append_inj k1' (by omega)
    obtain ⟨e2, k2'⟩ := List.append_inj k2 rfl
    obtain ⟨a3, k3⟩ := List.append_inj k2' (by omega)
    obtain ⟨e3, k3'⟩ := List.append_inj k3 rfl
    obtain ⟨a4, k4⟩ := List.append_inj k3' (by omega)
    obtain ⟨e4, k4'⟩ := List.append_inj k4 rfl
    simp only [List.cons.injEq, and_true] at e0 e1 e2 e3 e4
    exact ⟨⟨a0, e0⟩, ⟨a1, e1⟩, ⟨a2, e2⟩, ⟨a3, e3⟩, ⟨a4, e4⟩, k4'⟩
  · rintro ⟨⟨rfl, rfl⟩, ⟨rfl, rfl⟩, ⟨rfl, rfl⟩, ⟨rfl, rfl⟩, ⟨rfl, rfl⟩, rfl⟩
    rfl

/-- A text is the Print of the bytes that its signs stand for, just if all its signs are right. -/
theorem print_iff (s : List UInt8) (h : s.length = 17) : pk (pl s) 6 = s ↔ ∀ k, k < 6 → okg s k = true := by
  match s, h with
  | [s0, s1, s2, s3, s4, s5, s6, s7, s8, s9, s10, s11, s12, s13, s14, s15, s16], _ =>
    have e : [s0, s1, s2, s3, s4, s5, s6, s7, s8, s9, s10, s11, s12, s13, s14, s15, s16] = [s0, s1] ++ [s2] ++ [s3, s4] ++ [s5] ++ [s6, s7] ++ [s8] ++ [s9, s10] ++ [s11] ++ [s12, s13] ++ [s14] ++ [s15, s16] := rfl
    have hp : pl [s0, s1, s2, s3, s4, s5, s6, s7, s8, s9, s10, s11, s12, s13, s14, s15, s16] = [pbyte s0 s1, pbyte s3 s4, pbyte s6 s7, pbyte s9 s10, pbyte s12 s13, pbyte s15 s16] := rfl
    have hall : (∀ k, k < 6 → okg [s0, s1, s2, s3, s4, s5, s6, s7, s8, s9, s10, s11, s12, s13, s14, s15, s16] k = true) ↔
        ((isH s0 = true ∧ isH s1 = true) ∧ 58 = s2) ∧ ((isH s3 = true ∧ isH s4 = true) ∧ 58 = s5) ∧ ((isH s6 = true ∧ isH s7 = true) ∧ 58 = s8) ∧ ((isH s9 = true ∧ isH s10 = true) ∧ 58 = s11) ∧ ((isH s12 = true ∧ isH s13 = true) ∧ 58 = s14) ∧ (isH s15 = true ∧ isH s16 = true) := by
      constructor
      · intro H
        have H0 : (isH s0 && isH s1 && (false || s2 == 58)) = true := H 0 (by omega)
        have H1 : (isH s3 && isH s4 && (false || s5 == 58)) = true := H 1 (by omega)
        have H2 : (isH s6 && isH s7 && (false || s8 == 58)) = true := H 2 (by omega)
        have H3 : (isH s9 && isH s10 && (false || s11 == 58)) = true := H 3 (by omega)
        have H4 : (isH s12 && isH s13 && (false || s14 == 58)) = true := H 4 (by omega)
        have H5 : (isH s15 && isH s16 && (true || at' [s0, s1, s2, s3, s4, s5, s6, s7, s8, s9, s10, s11, s12, s13, s14, s15, s16] 17 == 58)) = true := H 5 (by omega)
        simp only [Bool.false_or, Bool.true_or, Bool.and_true, Bool.and_eq_true, beq_iff_eq] at H0 H1 H2 H3 H4 H5
        exact ⟨⟨H0.1, H0.2.symm⟩, ⟨H1.1, H1.2.symm⟩, ⟨H2.1, H2.2.symm⟩, ⟨H3.1, H3.2.symm⟩, ⟨H4.1, H4.2.symm⟩, H5⟩
      · rintro ⟨⟨⟨a0, a1⟩, e2⟩, ⟨⟨a3, a4⟩, e5⟩, ⟨⟨a6, a7⟩, e8⟩, ⟨⟨a9, a10⟩, e11⟩, ⟨⟨a12, a13⟩, e14⟩, a15, a16⟩ k hk
        have : k = 0 ∨ k = 1 ∨ k = 2 ∨ k = 3 ∨ k = 4 ∨ k = 5 := by omega
        rcases this with rfl | rfl | rfl | rfl | rfl | rfl
        · show (isH s0 && isH s1 && (false || s2 == 58)) = true
          rw [a0, a1, ← e2]; rfl
        · show (isH s3 && isH s4 && (false || s5 == 58)) = true
          rw [a3, a4, ← e5]; rfl
        · show (isH s6 && isH s7 && (false || s8 == 58)) = true
          rw [a6, a7, ← e8]; rfl
        · show (isH s9 && isH s10 && (false || s11 == 58)) = true
          rw [a9, a10, ← e11]; rfl
        · show (isH s12 && isH s13 && (false || s14 == 58)) = true
          rw [a12, a13, ← e14]; rfl
        · show (isH s15 && isH s16 && (true || _)) = true
          rw [a15, a16]; rfl
    rw [hall, hp, pk6, e, seven rfl rfl rfl rfl rfl rfl rfl rfl rfl rfl]
    simp only [pair_iff]
end Go.Proofs.Ytechdnkkchhaaaa
