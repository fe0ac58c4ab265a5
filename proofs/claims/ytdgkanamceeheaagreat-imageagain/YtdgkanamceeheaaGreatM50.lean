/- What is loaded of few bytes. -/
import Derived.Test.YtdgkanamceeheaaGreatM48
import Derived.Test.YtdgkanamceeheaaGreatM49
set_option linter.unusedVariables false
set_option maxRecDepth 100000
set_option linter.unusedVariables false
namespace Go.Proofs.YtdgkanamceeheaaGreat.Im
open Go.RowKit
open PitotImg (St rd)
theorem cf_err {t : List UInt8} {k : Int} (h : PitotImg.cfR t = .error k) : k = 1 ∨ k = 10 := by
  rw [← PitotImg.sread_eq] at h
  unfold PitotImg.sread at h
  split at h
  · injection h with h; exact .inl h.symm
  · split at h
    · injection h with h; exact .inr h.symm
    · cases h
theorem load_err {s : List UInt8} {k : Int} (h : PitotImg.load s = .error k) : k ≠ 0 := by
  unfold PitotImg.load at h
  by_cases h1 : s.length < 4
  · rw [if_pos h1] at h; injection h with h; rw [← h]; decide
  rw [if_neg h1] at h
  by_cases h3 : PitotCrc.opened s = false
  · rw [if_pos h3] at h; injection h with h; rw [← h]; decide
  rw [if_neg h3] at h
  simp only at h
  by_cases h4 : (s.take (s.length - 4)).length < 6
  · rw [if_pos h4] at h; injection h with h; rw [← h]; decide
  rw [if_neg h4] at h
  by_cases h5 : (s.take (s.length - 4)).take 6 ≠ PitotImg.magic
  · rw [if_pos h5] at h; injection h with h; rw [← h]; decide
  rw [if_neg h5] at h
  cases hc : PitotImg.cfR ((s.take (s.length - 4)).drop 6) with
  | error e =>
    rw [hc] at h
    injection h with h
    rcases cf_err hc with he | he <;> rw [← h, he] <;> decide
  | ok x =>
    rw [hc] at h
    simp only at h
    by_cases h6 : x.2 ≠ []
    · rw [if_pos h6] at h; injection h with h; rw [← h]; decide
    rw [if_neg h6] at h
    by_cases h7 : (PitotConf.check x.1).2.2 ≠ 0
    · rw [if_pos h7] at h; injection h with h; rw [← h]; exact h7
    rw [if_neg h7] at h; cases h
theorem load_ok {s : List UInt8} {c : PitotConf.Cf} (h : PitotImg.load s = .ok c) : PitotImg.cfR ((s.take (s.length - 4)).drop 6) = .ok (c, []) := by
  unfold PitotImg.load at h
  by_cases h1 : s.length < 4
  · rw [if_pos h1] at h; cases h
  rw [if_neg h1] at h
  by_cases h3 : PitotCrc.opened s = false
  · rw [if_pos h3] at h; cases h
  rw [if_neg h3] at h
  simp only at h
  by_cases h4 : (s.take (s.length - 4)).length < 6
  · rw [if_pos h4] at h; cases h
  rw [if_neg h4] at h
  by_cases h5 : (s.take (s.length - 4)).take 6 ≠ PitotImg.magic
  · rw [if_pos h5] at h; cases h
  rw [if_neg h5] at h
  cases hc : PitotImg.cfR ((s.take (s.length - 4)).drop 6) with
  | error e => rw [hc] at h; cases h
  | ok x =>
    rw [hc] at h
    simp only at h
    by_cases h6 : x.2 ≠ []
    · rw [if_pos h6] at h; cases h
    rw [if_neg h6] at h
    by_cases h7 : (PitotConf.check x.1).2.2 ≠ 0
    · rw [if_pos h7] at h; cases h
    rw [if_neg h7] at h
    injection h with h
    obtain ⟨a, b⟩ := x
    have hb : b = [] := by simpa using h6
    have ha : a = c := h
    rw [ha, hb]
/-- A network that was loaded of few bytes. -/
theorem loaded {s : List UInt8} (hs : s.length ≤ 5000) {c : Cx} (h : PitotImg.load s = .ok c.pl) : Sm c ∧ Im c ∧ (PitotConf.check c.pl).2.2 = 0 ∧ encRes c = .tuple #[.string ⟨s.toArray⟩, .int .i64 0] := by
  have hcf := load_ok h
  obtain ⟨b0, b1, b2, b3, b4, b5⟩ := PitotImg.cf_read hcf (by rw [List.length_drop, List.length_take]; omega)
  have hsm : Sm c := sm_of2 c b0 ⟨by omega, by omega, by omega, by omega, fun v hv => by have := b5 v hv; omega⟩
  obtain ⟨h1, h2, _⟩ := PitotImg.again h
  obtain ⟨_, h3⟩ := enc_ok h2
  refine ⟨hsm, ⟨hsm, fun _ => ?_⟩, h1, ?_⟩
  · have e := congrArg List.length h3
    rw [PitotCrc.sealed_length] at e
    omega
  · unfold encRes
    rw [h2]
end Go.Proofs.YtdgkanamceeheaaGreat.Im
