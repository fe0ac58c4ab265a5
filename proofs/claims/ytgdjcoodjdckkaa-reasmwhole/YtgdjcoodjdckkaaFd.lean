/- Packets that are put in, one behind the other: what stays. -/
import Derived.Test.YtgdjcoodjdckkaaNl
import Derived.Test.YtgdjcoodjdckkaaPq
set_option maxRecDepth 100000
namespace Go.Proofs.Ytgdjcoodjdckkaa
open Go.RowKit Go.Proofs.PitotIp Go.Maps
open Go.Proofs.PitotReasm (Bg Tb Fine bad first next passed passE put keep)
open Go.Proofs.Ytgdjcoodjdckkaa.Bi (lies_lt lies_cell lies_frozen lies_alloc lies_set)

theorem put_now {most : Nat} {wait : Int} {t : Tb K UInt8} {n : Int} (hp : passE t n = 0) (k : K) (m : Bool) (o : Int) (d : List UInt8) : (put most wait t n k m o d).1.now = n := by
  unfold put
  rw [if_neg (by omega)]
  by_cases h2 : m = false ∧ o = 0
  · rw [if_pos h2]; rfl
  · rw [if_neg h2]
    by_cases h3 : o = 0
    · rw [if_pos h3]
      show (first most (passed t wait n) k m d).1.now = n
      unfold first
      split
      · rfl
      · split
        · rfl
        · simp only; split <;> rfl
    · rw [if_neg h3]
      show (next (passed t wait n) k m o d).1.now = n
      unfold next
      cases PitotReasm.find (passed t wait n).l k with
      | none => rfl
      | some b =>
        simp only
        generalize (if b.d.length % 8 ≠ 0 ∨ o ≠ ((b.d.length / 8 : Nat) : Int) then (25 : Int) else if bad m d = true then 15 else if 8200 < b.d.length + d.length then 11 else 0) = e
        split
        · rfl
        · split <;> rfl
theorem pass_zero {t : Tb K UInt8} {n : Int} (h1 : t.now ≤ n) (h2 : n ≤ 1125899906842624) : passE t n = 0 := by
  unfold passE
  rw [if_neg (by omega), if_neg (by omega)]
/-- What is so of a table into which packets were put at the ticks 0, 1, .. -/
structure Run (most i : Nat) (T : Tb K UInt8) : Prop where
  good : Good most T
  now : T.now ≤ i
  dr : T.dr ≤ i * 128
theorem run_zero (most : Nat) : Run most 0 t0 := ⟨good_new most, by simp [t0], by simp [t0]⟩
theorem run_next {most i : Nat} {T : Tb K UInt8} (h : Run most i T) (hm : most ≤ 64) (hi : i ≤ 1000000) (wait : Int) (k : K) (m : Bool) (o : Int) (d : List UInt8) : Run most (i + 1) (put most wait T i k m o d).1 := by
  have hp := pass_zero h.now (show (i : Int) ≤ 1125899906842624 by omega)
  refine ⟨put_good h.good _ _ _ _ _, ?_, ?_⟩
  · rw [put_now hp]; omega
  · have := put_dr h.good (i : Int) k m o d (wait := wait)
    have := h.dr
    omega
/-- A Put in such a run. -/
theorem run_put {base most : Nat} {wait : Int} {T : Tb K UInt8} {i : Nat} (h : Run most i T) (hm : most ≤ 64) (hi : i ≤ 1000000) (hw0 : 0 ≤ wait) (hw1 : wait ≤ 1125899906842624) {p : Pk} (hw : p.Wf) (hs : p.s.size ≤ 1000000000) {tp : Nat} {V : World} (hT : TabAt base V tp most wait T) :
    Calls Try.prog 14 #[.pointer (some ⟨tp, 0, none⟩), .int .i64 i, p.val] V fun r V' => r = .returned (.tuple #[(ansP p (put most wait T i (p.key hw) p.m p.off p.d).2.1).val, .bool (put most wait T i (p.key hw) p.m p.off p.d).2.1.isSome, .int .i64 (put most wait T i (p.key hw) p.m p.off p.d).2.2]) ∧
      TabAt base V' tp most wait (put most wait T i (p.key hw) p.m p.off p.d).1 ∧ Fr base V V' := by
  have := h.dr
  have := put_any hT h.good hm (by omega) hw0 hw1 (i : Int) p hw hs
  exact this
end Go.Proofs.Ytgdjcoodjdckkaa
