/- Contract of Put. -/
import Derived.Test.YtgdjcoodjdckkaaGb
import Derived.Test.YtgdjcoodjdckkaaGn
import Derived.Test.YtgdjcoodjdckkaaGe
set_option maxRecDepth 100000
namespace Go.Proofs.Ytgdjcoodjdckkaa
open Go.RowKit Go.Proofs.PitotIp Go.Maps
open Go.Proofs.PitotReasm (Bg Tb Fine bad first next passed passE put keep)
open Go.Proofs.Ytgdjcoodjdckkaa.Bi (lies_lt lies_cell lies_frozen lies_alloc lies_set)

/-- goOn, whatever comes. -/
theorem goOn_any {base : Nat} {w : World} {tp : Nat} {most : Nat} {wait : Int} {t : Tb K UInt8} (h : TabAt base w tp most wait t) (hG : Good most t) (hmost : most ≤ 64) (hdr : t.dr ≤ 100000000000) (p : Pk) (hw : p.Wf) (hs : p.s.size ≤ 1000000000) :
    Calls Try.prog 24 #[.pointer (some ⟨tp, 0, none⟩), p.val] w fun e w' => e = .returned (ans p (next t (p.key hw) p.m p.off p.d).2.1 (next t (p.key hw) p.m p.off p.d).2.2) ∧ TabAt base w' tp most wait (next t (p.key hw) p.m p.off p.d).1 ∧ Fr base w w' := by
  cases hf : find t.l (p.key hw) with
  | none => exact goOn_none h hG hmost hdr p hw hs hf
  | some b =>
    by_cases hj : jr p b.d.length = 0
    · cases hm : p.m
      · have := goOn_end h hG hmost hdr p hw hs b hf hj hm
        rw [hm] at this; exact this
      · have := goOn_on h hG hmost hdr p hw hs b hf hj hm
        rw [hm] at this; exact this
    · exact goOn_bad h hG hmost hdr p hw hs b hf hj

/-- The packet that is answered. -/
def ansP (p : Pk) (o : Option (List UInt8)) : Pk := match o with | none => pkN | some x => whole p x
theorem ans_eq (p : Pk) (o : Option (List UInt8)) (e : Int) : ans p o e = .tuple #[(ansP p o).val, .bool o.isSome, .int .i64 e] := rfl
theorem whole_self (p : Pk) (h : p.off = 0) : whole p p.d = p := by
  obtain ⟨id, m, off, ttl, pr, a, b, s⟩ := p
  simp only at h
  subst h
  rfl

theorem passed_good {most : Nat} {t : Tb K UInt8} (h : Good most t) {wait n : Int} (hp : passE t n = 0) : Good most (passed t wait n) := by
  have hs : (keep t.l wait n).Sublist t.l := List.filter_sublist
  have h1 : ¬ 1125899906842624 < n := by intro e; simp [passE, e] at hp
  have h2 : ¬ n < t.now := by intro e; simp [passE, h1, e] at hp
  have h3 := h.now0
  refine ⟨h.fine.keep wait n, h.sorted.sublist hs, fun b hb => ?_, ?_, ?_, fun b hb => h.lens b (hs.subset hb), Nat.le_trans hs.length_le h.room⟩
  · have := h.times b (hs.subset hb)
    exact ⟨this.1, by show b.t0 ≤ n; omega⟩
  · show 0 ≤ n; omega
  · show n ≤ _; omega
theorem good_drop {most : Nat} {t : Tb K UInt8} (h : Good most t) (k : K) (dr : Nat) : Good most ⟨drop t.l k, t.now, dr⟩ := by
  have hs : (drop t.l k).Sublist t.l := List.filter_sublist
  exact ⟨h.fine.drop k, h.sorted.sublist hs, fun b hb => h.times b (hs.subset hb), h.now0, h.nowM, fun b hb => h.lens b (hs.subset hb), Nat.le_trans hs.length_le h.room⟩
theorem first_good {most : Nat} {t : Tb K UInt8} (h : Good most t) (k : K) (d : List UInt8) : Good most (first most t k true d).1 := by
  have hd := good_drop h k
  unfold first
  by_cases h1 : bad true d = true
  · rw [if_pos h1]; exact hd _
  · rw [if_neg h1]
    by_cases h2 : 8200 < d.length
    · rw [if_pos h2]; exact hd _
    · rw [if_neg h2]
      simp only
      by_cases h3 : most ≤ (PitotReasm.drop t.l k).length
      · rw [if_pos h3]; exact hd _
      · rw [if_neg h3]
        have hd0 := hd 0
        have h8 := PitotReasm.bad_eight (by simpa using h1)
        refine ⟨⟨?_, fun b hb => ?_⟩, ?_, fun b hb => ?_, h.now0, h.nowM, fun b hb => ?_, ?_⟩
        · simp only [List.map_append, List.map_cons, List.map_nil]
          rw [List.nodup_append]
          refine ⟨hd0.fine.once, by simp, fun a ha b hb => ?_⟩
          simp only [List.mem_singleton] at hb
          subst hb
          simp only [List.mem_map] at ha
          obtain ⟨c, hc, rfl⟩ := ha
          exact PitotReasm.find_none (PitotReasm.find_drop_self t.l b) c hc
        · rcases List.mem_append.1 hb with hb | hb
          · exact hd0.fine.eight b hb
          · simp only [List.mem_singleton] at hb; subst hb; exact h8.1
        · rw [List.pairwise_append]
          refine ⟨hd0.sorted, by simp, fun a ha b hb => ?_⟩
          simp only [List.mem_singleton] at hb
          subst hb
          exact (hd0.times a ha).2
        · rcases List.mem_append.1 hb with hb | hb
          · exact hd0.times b hb
          · simp only [List.mem_singleton] at hb; subst hb; exact ⟨h.now0, Int.le_refl _⟩
        · rcases List.mem_append.1 hb with hb | hb
          · exact hd0.lens b hb
          · simp only [List.mem_singleton] at hb; subst hb; show d.length ≤ _; omega
        · simp only [List.length_append, List.length_cons, List.length_nil]; omega
theorem next_good {most : Nat} {t : Tb K UInt8} (h : Good most t) (k : K) (m : Bool) (o : Int) (d : List UInt8) : Good most (next t k m o d).1 := by
  unfold next
  cases hf : PitotReasm.find t.l k with
  | none => exact h
  | some b =>
    simp only
    by_cases h1 : b.d.length % 8 ≠ 0 ∨ o ≠ ((b.d.length / 8 : Nat) : Int)
    · rw [if_pos h1, if_pos (by omega)]; exact good_drop h k _
    · rw [if_neg h1]
      by_cases h2 : bad m d = true
      · rw [if_pos h2, if_pos (by omega)]; exact good_drop h k _
      · rw [if_neg h2]
        by_cases h3 : 8200 < b.d.length + d.length
        · rw [if_pos h3, if_pos (by omega)]; exact good_drop h k _
        · rw [if_neg h3, if_neg (by omega)]
          by_cases h4 : m = true
          · rw [if_pos h4]
            subst h4
            have h8 := PitotReasm.bad_eight (by simpa using h2)
            have hm : ∀ b' ∈ PitotReasm.more t.l k d, ∃ c ∈ t.l, b'.t0 = c.t0 ∧ (b' = c ∨ (c.k = k ∧ b'.d = c.d ++ d)) := fun b' hb' => by
              unfold PitotReasm.more at hb'
              obtain ⟨c, hc, rfl⟩ := List.mem_map.1 hb'
              by_cases e : c.k = k
              · rw [if_pos e]; exact ⟨c, hc, rfl, .inr ⟨e, rfl⟩⟩
              · rw [if_neg e]; exact ⟨c, hc, rfl, .inl rfl⟩
            refine ⟨h.fine.more k d h8.1, ?_, fun b' hb' => ?_, h.now0, h.nowM, fun b' hb' => ?_, ?_⟩
            · show (PitotReasm.more t.l k d).Pairwise _
              unfold PitotReasm.more
              rw [List.pairwise_map]
              refine h.sorted.imp fun {a c} hac => ?_
              split <;> split <;> exact hac
            · obtain ⟨c, hc, e, _⟩ := hm b' hb'
              rw [e]; exact h.times c hc
            · obtain ⟨c, hc, _, rfl | ⟨e, e2⟩⟩ := hm b' hb'
              · exact h.lens _ hc
              · have hc2 := find_self h.fine.once hc
                rw [e, show find t.l k = some b from hf] at hc2
                injection hc2 with hc2
                subst hc2
                rw [e2, List.length_append]; omega
            · show (PitotReasm.more t.l k d).length ≤ most
              unfold PitotReasm.more
              rw [List.length_map]; exact h.room
          · rw [if_neg h4]; exact good_drop h k _
theorem put_good {most : Nat} {wait : Int} {t : Tb K UInt8} (h : Good most t) (n : Int) (k : K) (m : Bool) (o : Int) (d : List UInt8) : Good most (put most wait t n k m o d).1 := by
  unfold put
  by_cases h1 : passE t n ≠ 0
  · rw [if_pos h1]; exact h
  · rw [if_neg h1]
    have hp := passed_good h (wait := wait) (show passE t n = 0 by omega)
    by_cases h2 : m = false ∧ o = 0
    · rw [if_pos h2]; exact hp
    · rw [if_neg h2]
      by_cases h3 : o = 0
      · rw [if_pos h3]
        have hm : m = true := by cases m; exact absurd ⟨rfl, h3⟩ h2; rfl
        subst hm
        exact first_good hp k d
      · rw [if_neg h3]; exact next_good hp k m o d
theorem passed_dr {most : Nat} {t : Tb K UInt8} (h : Good most t) (wait n : Int) : (passed t wait n).dr ≤ t.dr + most := by
  have := h.room
  show t.dr + (t.l.length - (keep t.l wait n).length) ≤ _
  omega
theorem put_dr {most : Nat} {wait : Int} {t : Tb K UInt8} (h : Good most t) (n : Int) (k : K) (m : Bool) (o : Int) (d : List UInt8) : (put most wait t n k m o d).1.dr ≤ t.dr + (most + 64) := by
  have hk : (keep t.l wait n).length ≤ t.l.length := List.length_filter_le _ _
  have hp := passed_dr h wait n
  have hr := h.room
  unfold put
  by_cases h1 : passE t n ≠ 0
  · rw [if_pos h1]; show t.dr ≤ _; omega
  · rw [if_neg h1]
    by_cases h2 : m = false ∧ o = 0
    · rw [if_pos h2]; show (passed t wait n).dr ≤ _; omega
    · rw [if_neg h2]
      by_cases h3 : o = 0
      · rw [if_pos h3]
        have e1 := passed_good h (wait := wait) (show passE t n = 0 by omega)
        by_cases hf : ∃ b, find (passed t wait n).l k = some b
        · obtain ⟨b, hb⟩ := hf
          have h4 : (drop (passed t wait n).l k).length + 1 = (passed t wait n).l.length := PitotReasm.drop_one e1.fine.once hb
          have h5 : (first most (passed t wait n) k m d).1.dr = (passed t wait n).dr + ((passed t wait n).l.length - (drop (passed t wait n).l k).length) := by
            unfold first
            split
            · rfl
            · split
              · rfl
              · simp only; split <;> rfl
          show (first most (passed t wait n) k m d).1.dr ≤ _
          omega
        · have hf2 : find (passed t wait n).l k = none := by
            cases hh : find (passed t wait n).l k with
            | none => rfl
            | some b => exact absurd ⟨b, hh⟩ hf
          have h4 : drop (passed t wait n).l k = (passed t wait n).l := PitotReasm.drop_none hf2
          have h5 : (first most (passed t wait n) k m d).1.dr = (passed t wait n).dr + ((passed t wait n).l.length - (drop (passed t wait n).l k).length) := by
            unfold first
            split
            · rfl
            · split
              · rfl
              · simp only; split <;> rfl
          rw [h4] at h5
          show (first most (passed t wait n) k m d).1.dr ≤ _
          omega
      · rw [if_neg h3]
        show (next (passed t wait n) k m o d).1.dr ≤ _
        unfold next
        cases PitotReasm.find (passed t wait n).l k with
        | none => show (passed t wait n).dr ≤ _; omega
        | some b =>
          simp only
          generalize (if b.d.length % 8 ≠ 0 ∨ o ≠ ((b.d.length / 8 : Nat) : Int) then (25 : Int) else if bad m d = true then 15 else if 8200 < b.d.length + d.length then 11 else 0) = e
          split
          · show (passed t wait n).dr + 1 ≤ _; omega
          · split <;> (show (passed t wait n).dr ≤ _; omega)
end Go.Proofs.Ytgdjcoodjdckkaa
