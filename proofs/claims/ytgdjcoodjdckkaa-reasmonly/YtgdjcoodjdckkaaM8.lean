/- Merged: Pv, Pv1, Pv2, Pv3, Pv4, Pu, Nw, Ak, Eq. -/
import Derived.Test.YtgdjcoodjdckkaaM6
import Derived.Test.YtgdjcoodjdckkaaM7
import Derived.WalkSpells
import Derived.Deep.Upon
import Derived.Test.YtgdjcoodjdckkaaM1
set_option linter.unusedVariables false
/- Contract of Put. -/
set_option maxRecDepth 100000
namespace Go.Proofs.Ytgdjcoodjdckkaa
open Go.RowKit Go.Proofs.PitotIp Go.Maps
open Go.Proofs.PitotReasm (Bg Tb Fine bad first next passed passE put keep)
open Go.Proofs.Ytgdjcoodjdckkaa.Bi (lies_lt lies_cell lies_frozen lies_alloc lies_set)

/-- goOn, whatever comes. -/
theorem goOn_any {base : Nat} {w : World} {tp : Nat} {most : Nat} {wait : Int} {t : Tb K UInt8} (h : TabAt base w tp most wait t) (hG : Good most t) (hmost : most ≤ 64) (hdr : t.dr ≤ 100000000000) (p : Pk) (hw : p.Wf) (hs : p.s.size ≤ 1000000000) :
    Calls Try.prog 24 #[.pointer (some ⟨tp, 0, none⟩), p.val] w fun e w' => e = .returned (ans p (next t (p.key hw) p.m p.off p.d).2.1 (next t (p.key hw) p.m p.off p.d).2.2) ∧ TabAt base w' tp most wait (next t (p.key hw) p.m p.off p.d).1 ∧ Fr base w w' := by
  cases hf : find t.l (p.key hw) with
  | none => exact goOn_none h hG hmost hdr p hw hs hf
  | some b =>
    by_cases hj : jr p b.d.length = 0
    · cases hm : p.m
      · have := goOn_end h hG hmost hdr p hw hs b hf hj hm
        rw [hm] at this; exact this
      · have := goOn_on h hG hmost hdr p hw hs b hf hj hm
        rw [hm] at this; exact this
    · exact goOn_bad h hG hmost hdr p hw hs b hf hj

/-- The packet that is answered. -/
def ansP (p : Pk) (o : Option (List UInt8)) : Pk := match o with | none => pkN | some x => whole p x
theorem ans_eq (p : Pk) (o : Option (List UInt8)) (e : Int) : ans p o e = .tuple #[(ansP p o).val, .bool o.isSome, .int .i64 e] := rfl
theorem whole_self (p : Pk) (h : p.off = 0) : whole p p.d = p := by
  obtain ⟨id, m, off, ttl, pr, a, b, s⟩ := p
  simp only at h
  subst h
  rfl

theorem passed_good {most : Nat} {t : Tb K UInt8} (h : Good most t) {wait n : Int} (hp : passE t n = 0) : Good most (passed t wait n) := by
  have hs : (keep t.l wait n).Sublist t.l := List.filter_sublist
  have h1 : ¬ 1125899906842624 < n := by intro e; simp [passE, e] at hp
  have h2 : ¬ n < t.now := by intro e; simp [passE, h1, e] at hp
  have h3 := h.now0
  refine ⟨h.fine.keep wait n, h.sorted.sublist hs, fun b hb => ?_, ?_, ?_, fun b hb => h.lens b (hs.subset hb), Nat.le_trans hs.length_le h.room⟩
  · have := h.times b (hs.subset hb)
    exact ⟨this.1, by show b.t0 ≤ n; omega⟩
  · show 0 ≤ n; omega
  · show n ≤ _; omega
theorem good_drop {most : Nat} {t : Tb K UInt8} (h : Good most t) (k : K) (dr : Nat) : Good most ⟨drop t.l k, t.now, dr⟩ := by
  have hs : (drop t.l k).Sublist t.l := List.filter_sublist
  exact ⟨h.fine.drop k, h.sorted.sublist hs, fun b hb => h.times b (hs.subset hb), h.now0, h.nowM, fun b hb => h.lens b (hs.subset hb), Nat.le_trans hs.length_le h.room⟩
theorem first_good {most : Nat} {t : Tb K UInt8} (h : Good most t) (k : K) (d : List UInt8) : Good most (first most t k true d).1 := by
  have hd := good_drop h k
  unfold first
  by_cases h1 : bad true d = true
  · rw [if_pos h1]; exact hd _
  · rw [if_neg h1]
    by_cases h2 : 8200 < d.length
    · rw [if_pos h2]; exact hd _
    · rw [if_neg h2]
      simp only
      by_cases h3 : most ≤ (PitotReasm.drop t.l k).length
      · rw [if_pos h3]; exact hd _
      · rw [if_neg h3]
        have hd0 := hd 0
        have h8 := PitotReasm.bad_eight (by simpa using h1)
        refine ⟨⟨?_, fun b hb => ?_⟩, ?_, fun b hb => ?_, h.now0, h.nowM, fun b hb => ?_, ?_⟩
        · simp only [List.map_append, List.map_cons, List.map_nil]
          rw [List.nodup_append]
          refine ⟨hd0.fine.once, by simp, fun a ha b hb => ?_⟩
          simp only [List.mem_singleton] at hb
          subst hb
          simp only [List.mem_map] at ha
          obtain ⟨c, hc, rfl⟩ := ha
          exact PitotReasm.find_none (PitotReasm.find_drop_self t.l b) c hc
        · rcases List.mem_append.1 hb with hb | hb
          · exact hd0.fine.eight b hb
          · simp only [List.mem_singleton] at hb; subst hb; exact h8.1
        · rw [List.pairwise_append]
          refine ⟨hd0.sorted, by simp, fun a ha b hb => ?_⟩
          simp only [List.mem_singleton] at hb
          subst hb
          exact (hd0.times a ha).2
        · rcases List.mem_append.1 hb with hb | hb
          · exact hd0.times b hb
          · simp only [List.mem_singleton] at hb; subst hb; exact ⟨h.now0, Int.le_refl _⟩
        · rcases List.mem_append.1 hb with hb | hb
          · exact hd0.lens b hb
          · simp only [List.mem_singleton] at hb; subst hb; show d.length ≤ _; omega
        · simp only [List.length_append, List.length_cons, List.length_nil]; omega
theorem next_good {most : Nat} {t : Tb K UInt8} (h : Good most t) (k : K) (m : Bool) (o : Int) (d : List UInt8) : Good most (next t k m o d).1 := by
  unfold next
  cases hf : PitotReasm.find t.l k with
  | none => exact h
  | some b =>
    simp only
    by_cases h1 : b.d.length % 8 ≠ 0 ∨ o ≠ ((b.d.length / 8 : Nat) : Int)
    · rw [if_pos h1, if_pos (by omega)]; exact good_drop h k _
    · rw [if_neg h1]
      by_cases h2 : bad m d = true
      · rw [if_pos h2, if_pos (by omega)]; exact good_drop h k _
      · rw [if_neg h2]
        by_cases h3 : 8200 < b.d.length + d.length
        · rw [if_pos h3, if_pos (by omega)]; exact good_drop h k _
        · rw [if_neg h3, if_neg (by omega)]
          by_cases h4 : m = true
          · rw [if_pos h4]
            subst h4
            have h8 := PitotReasm.bad_eight (by simpa using h2)
            have hm : ∀ b' ∈ PitotReasm.more t.l k d, ∃ c ∈ t.l, b'.t0 = c.t0 ∧ (b' = c ∨ (c.k = k ∧ b'.d = c.d ++ d)) := fun b' hb' => by
              unfold PitotReasm.more at hb'
              obtain ⟨c, hc, rfl⟩ := List.mem_map.1 hb'
              by_cases e : c.k = k
              · rw [if_pos e]; exact ⟨c, hc, rfl, .inr ⟨e, rfl⟩⟩
              · rw [if_neg e]; exact ⟨c, hc, rfl, .inl rfl⟩
            refine ⟨h.fine.more k d h8.1, ?_, fun b' hb' => ?_, h.now0, h.nowM, fun b' hb' => ?_, ?_⟩
            · show (PitotReasm.more t.l k d).Pairwise _
              unfold PitotReasm.more
              rw [List.pairwise_map]
              refine h.sorted.imp fun {a c} hac => ?_
              split <;> split <;> exact hac
            · obtain ⟨c, hc, e, _⟩ := hm b' hb'
              rw [e]; exact h.times c hc
            · obtain ⟨c, hc, _, rfl | ⟨e, e2⟩⟩ := hm b' hb'
              · exact h.lens _ hc
              · have hc2 := find_self h.fine.once hc
                rw [e, show find t.l k = some b from hf] at hc2
                injection hc2 with hc2
                subst hc2
                rw [e2, List.length_append]; omega
            · show (PitotReasm.more t.l k d).length ≤ most
              unfold PitotReasm.more
              rw [List.length_map]; exact h.room
          · rw [if_neg h4]; exact good_drop h k _
theorem put_good {most : Nat} {wait : Int} {t : Tb K UInt8} (h : Good most t) (n : Int) (k : K) (m : Bool) (o : Int) (d : List UInt8) : Good most (put most wait t n k m o d).1 := by
  unfold put
  by_cases h1 : passE t n ≠ 0
  · rw [if_pos h1]; exact h
  · rw [if_neg h1]
    have hp := passed_good h (wait := wait) (show passE t n = 0 by omega)
    by_cases h2 : m = false ∧ o = 0
    · rw [if_pos h2]; exact hp
    · rw [if_neg h2]
      by_cases h3 : o = 0
      · rw [if_pos h3]
        have hm : m = true := by cases m; exact absurd ⟨rfl, h3⟩ h2; rfl
        subst hm
        exact first_good hp k d
      · rw [if_neg h3]; exact next_good hp k m o d
theorem passed_dr {most : Nat} {t : Tb K UInt8} (h : Good most t) (wait n : Int) : (passed t wait n).dr ≤ t.dr + most := by
  have := h.room
  show t.dr + (t.l.length - (keep t.l wait n).length) ≤ _
  omega
theorem put_dr {most : Nat} {wait : Int} {t : Tb K UInt8} (h : Good most t) (n : Int) (k : K) (m : Bool) (o : Int) (d : List UInt8) : (put most wait t n k m o d).1.dr ≤ t.dr + (most + 64) := by
  have hk : (keep t.l wait n).length ≤ t.l.length := List.length_filter_le _ _
  have hp := passed_dr h wait n
  have hr := h.room
  unfold put
  by_cases h1 : passE t n ≠ 0
  · rw [if_pos h1]; show t.dr ≤ _; omega
  · rw [if_neg h1]
    by_cases h2 : m = false ∧ o = 0
    · rw [if_pos h2]; show (passed t wait n).dr ≤ _; omega
    · rw [if_neg h2]
      by_cases h3 : o = 0
      · rw [if_pos h3]
        have e1 := passed_good h (wait := wait) (show passE t n = 0 by omega)
        by_cases hf : ∃ b, find (passed t wait n).l k = some b
        · obtain ⟨b, hb⟩ := hf
          have h4 : (drop (passed t wait n).l k).length + 1 = (passed t wait n).l.length := PitotReasm.drop_one e1.fine.once hb
          have h5 : (first most (passed t wait n) k m d).1.dr = (passed t wait n).dr + ((passed t wait n).l.length - (drop (passed t wait n).l k).length) := by
            unfold first
            split
            · rfl
            · split
              · rfl
              · simp only; split <;> rfl
          show (first most (passed t wait n) k m d).1.dr ≤ _
          omega
        · have hf2 : find (passed t wait n).l k = none := by
            cases hh : find (passed t wait n).l k with
            | none => rfl
            | some b => exact absurd ⟨b, hh⟩ hf
          have h4 : drop (passed t wait n).l k = (passed t wait n).l := PitotReasm.drop_none hf2
          have h5 : (first most (passed t wait n) k m d).1.dr = (passed t wait n).dr + ((passed t wait n).l.length - (drop (passed t wait n).l k).length) := by
            unfold first
            split
            · rfl
            · split
              · rfl
              · simp only; split <;> rfl
          rw [h4] at h5
          show (first most (passed t wait n) k m d).1.dr ≤ _
          omega
      · rw [if_neg h3]
        show (next (passed t wait n) k m o d).1.dr ≤ _
        unfold next
        cases PitotReasm.find (passed t wait n).l k with
        | none => show (passed t wait n).dr ≤ _; omega
        | some b =>
          simp only
          generalize (if b.d.length % 8 ≠ 0 ∨ o ≠ ((b.d.length / 8 : Nat) : Int) then (25 : Int) else if bad m d = true then 15 else if 8200 < b.d.length + d.length then 11 else 0) = e
          split
          · show (passed t wait n).dr + 1 ≤ _; omega
          · split <;> (show (passed t wait n).dr ≤ _; omega)
end Go.Proofs.Ytgdjcoodjdckkaa
/- Contract of Put, a part. -/
set_option maxRecDepth 100000
namespace Go.Proofs.Ytgdjcoodjdckkaa
open Go.RowKit Go.Proofs.PitotIp Go.Maps
open Go.Proofs.PitotReasm (Bg Tb Fine bad first next passed passE put keep)
open Go.Proofs.Ytgdjcoodjdckkaa.Bi (lies_lt lies_cell lies_frozen lies_alloc lies_set)

set_option maxHeartbeats 4000000 in
theorem put_bad {base : Nat} {w : World} {tp : Nat} {most : Nat} {wait : Int} {t : Tb K UInt8} (h : TabAt base w tp most wait t) (hG : Good most t) (hmost : most ≤ 64) (hdr : t.dr ≤ 10000000000) (hw0 : 0 ≤ wait) (hw1 : wait ≤ 1125899906842624) (n : Int) (p : Pk) (hw : p.Wf) (hs : p.s.size ≤ 1000000000) (hp : passE t n ≠ 0) :
    Calls Try.prog 14 #[.pointer (some ⟨tp, 0, none⟩), .int .i64 n, p.val] w fun e w' => e = .returned (ans p (put most wait t n (p.key hw) p.m p.off p.d).2.1 (put most wait t n (p.key hw) p.m p.off p.d).2.2) ∧ TabAt base w' tp most wait (put most wait t n (p.key hw) p.m p.off p.d).1 ∧ Fr base w w' := by
  have e0 : put most wait t n (p.key hw) p.m p.off p.d = (t, none, passE t n) := by unfold put; rw [if_pos hp]
  rw [e0]; clear e0
  have hb0 := h.base
  have k1 := ((Below.refl w.heap.size w).alloc (Nat.le_refl _) p.obj)
  have k2 := k1.alloc k1.size pkz
  have H1 : Hid (TabAt base ((w.alloc p.obj).alloc pkz) tp most wait t) := h.below k2
  have P1 : Hid (((w.alloc p.obj).alloc pkz).heap[w.heap.size]? = some p.obj) := lies_alloc (heap_alloc_new w _) _
  have R1 : Hid (((w.alloc p.obj).alloc pkz).heap[w.heap.size + 1]? = some pkz) := by
    have e := heap_alloc_new (w.alloc p.obj) pkz
    rw [World.size_alloc] at e
    exact e
  have F1 : Hid (Fr base w ((w.alloc p.obj).alloc pkz)) := Fr.of k2 hb0
  have Hb : Hid (base ≤ w.heap.size) := hb0
  clear h k1 k2 hb0
  have HP := Lib.hid (pass_bad H1.out n hp)
  obtain ⟨E, HE⟩ : ∃ E, Hid (E = passE t n) := ⟨_, rfl⟩
  rw [← HE.out] at HP hp ⊢
  have hE0 : (E != 0) = true := by simpa using hp
  have Hp := Lib.hid hp; clear hp
  go_enter Try.func14, Try.ntmps14
  go_upto_region 3 with (first
    | (go_at_call 12; (with_reducible refine (HP.out).mono ?_); rintro e V2 ⟨rfl, hV⟩
       (have HV := Lib.hid hV; clear hV)))
  have H2 : Hid (TabAt base V2 tp most wait t) := by show TabAt _ _ _ _ _ _; rw [HV.out]; exact H1.out
  have F2 : Hid (Fr base w V2) := by show Fr _ _ _; rw [HV.out]; exact F1.out
  have LX : Hid (V2.heap[w.heap.size + 1]? = some pkz) := by show _ = _; rw [HV.out]; exact R1.out
  clear HP
  obtain ⟨r0, r1, r2, r3, r4, r5, r6, r7, r8, r9, r10, r11, r12, r13⟩ := cells14 LX.out
  have f0 := lies_frozen LX.out 0
  have f1 := lies_frozen LX.out 1
  have f2 := lies_frozen LX.out 2
  have f3 := lies_frozen LX.out 3
  have f4 := lies_frozen LX.out 4
  have f5 := lies_frozen LX.out 5
  have f6 := lies_frozen LX.out 6
  have f7 := lies_frozen LX.out 7
  have f8 := lies_frozen LX.out 8
  have f9 := lies_frozen LX.out 9
  have f10 := lies_frozen LX.out 10
  have f11 := lies_frozen LX.out 11
  have f12 := lies_frozen LX.out 12
  have f13 := lies_frozen LX.out 13
  go_wp2
  (try simp only [Exit.inBlock, Exit.then])
  obtain ⟨k0, k1, k2, k3, k4, k5, k6, k7, k8, k9, k10, k11, k12, k13, _⟩ := read_14 (y0 := .int .i64 0) (y1 := .bool false) (y2 := .int .i64 0) (y3 := .int .i64 0) (y4 := .int .i64 0) (y5 := .int .u8 0) (y6 := .int .u8 0) (y7 := .int .u8 0) (y8 := .int .u8 0) (y9 := .int .u8 0) (y10 := .int .u8 0) (y11 := .int .u8 0) (y12 := .int .u8 0) (y13 := .string ⟨#[]⟩) LX.out
  refine bodyPost_ret (by simp [results, Try.results14, go_sem, k0, k1, k2, k3, k4, k5, k6, k7, k8, k9, k10, k11, k12, k13]; try rfl) rfl ?_
  exact ⟨rfl, stored_14 H2.out F2.out Hb.out (by omega) LX.out _ _ _ _ _ _ _ _ _ _ _ _ _ _⟩
end Go.Proofs.Ytgdjcoodjdckkaa
/- Contract of Put, a part. -/
set_option maxRecDepth 100000
namespace Go.Proofs.Ytgdjcoodjdckkaa
open Go.RowKit Go.Proofs.PitotIp Go.Maps
open Go.Proofs.PitotReasm (Bg Tb Fine bad first next passed passE put keep)
open Go.Proofs.Ytgdjcoodjdckkaa.Bi (lies_lt lies_cell lies_frozen lies_alloc lies_set)

set_option maxHeartbeats 4000000 in
theorem put_on {base : Nat} {w : World} {tp : Nat} {most : Nat} {wait : Int} {t : Tb K UInt8} (h : TabAt base w tp most wait t) (hG : Good most t) (hmost : most ≤ 64) (hdr : t.dr ≤ 10000000000) (hw0 : 0 ≤ wait) (hw1 : wait ≤ 1125899906842624) (n : Int) (p : Pk) (hw : p.Wf) (hs : p.s.size ≤ 1000000000) (hp : passE t n = 0) (ho : p.off ≠ 0) :
    Calls Try.prog 14 #[.pointer (some ⟨tp, 0, none⟩), .int .i64 n, p.val] w fun e w' => e = .returned (ans p (put most wait t n (p.key hw) p.m p.off p.d).2.1 (put most wait t n (p.key hw) p.m p.off p.d).2.2) ∧ TabAt base w' tp most wait (put most wait t n (p.key hw) p.m p.off p.d).1 ∧ Fr base w w' := by
  have e0 : put most wait t n (p.key hw) p.m p.off p.d = next (passed t wait n) (p.key hw) p.m p.off p.d := by unfold put; rw [if_neg (by omega), if_neg (by omega), if_neg ho]
  rw [e0]; clear e0
  have hb0 := h.base
  have k1 := ((Below.refl w.heap.size w).alloc (Nat.le_refl _) p.obj)
  have k2 := k1.alloc k1.size pkz
  have H1 : Hid (TabAt base ((w.alloc p.obj).alloc pkz) tp most wait t) := h.below k2
  have P1 : Hid (((w.alloc p.obj).alloc pkz).heap[w.heap.size]? = some p.obj) := lies_alloc (heap_alloc_new w _) _
  have R1 : Hid (((w.alloc p.obj).alloc pkz).heap[w.heap.size + 1]? = some pkz) := by
    have e := heap_alloc_new (w.alloc p.obj) pkz
    rw [World.size_alloc] at e
    exact e
  have F1 : Hid (Fr base w ((w.alloc p.obj).alloc pkz)) := Fr.of k2 hb0
  have Hb : Hid (base ≤ w.heap.size) := hb0
  clear h k1 k2 hb0
  have HP := Lib.hid (pass_ok H1.out hG hmost (by omega) hw0 hw1 n hp)
  have hgd := passed_good hG (wait := wait) hp
  have hdp := passed_dr hG wait n
  generalize passed t wait n = t2 at HP hgd hdp ⊢
  have HC : Hid (∀ V, TabAt base V tp most wait t2 → Calls Try.prog 24 #[.pointer (some ⟨tp, 0, none⟩), p.val] V fun e w' => e = .returned (ans p (next t2 (p.key hw) p.m p.off p.d).2.1 (next t2 (p.key hw) p.m p.off p.d).2.2) ∧ TabAt base w' tp most wait (next t2 (p.key hw) p.m p.off p.d).1 ∧ Fr base V w') := fun V h => goOn_any h hgd hmost (by omega) p hw hs
  generalize next t2 (p.key hw) p.m p.off p.d = nx at HC ⊢
  obtain ⟨q, bq, eq, Hq⟩ : ∃ (q : Pk) (bq : Bool) (eq : Int), Hid (ans p nx.2.1 nx.2.2 = .tuple #[q.val, .bool bq, .int .i64 eq]) := ⟨_, _, _, rfl⟩
  rw [Hq.out] at HC ⊢
  have ho2 : (p.off != 0) = true := by simpa using ho
  have Hp := Lib.hid hp; clear hp
  have Ho := Lib.hid ho; clear ho
  clear hgd hdp hG
  go_enter Try.func14, Try.ntmps14
  go_upto_region 5 with (first
    | (go_at_call 12; (with_reducible refine (HP.out).mono ?_); rintro e V2 ⟨rfl, hT2, hF2⟩
       (have P2 : Hid (V2.heap[w.heap.size]? = some p.obj) := hF2.kind _ _ _ _ (by decide) (by decide) (by decide) P1.out)
       (have R2 : Hid (V2.heap[w.heap.size + 1]? = some pkz) := hF2.kind _ _ _ _ (by decide) (by decide) (by decide) R1.out)
       (have F2 : Hid (Fr base w V2) := F1.out.trans hF2)
       (have H2 := Lib.hid hT2)
       (have x2 : V2.cell? ⟨w.heap.size, 2, none⟩ = some (.int .i64 p.off) := lies_cell P2.out 2)
       (clear hT2 hF2)))
  obtain ⟨d0, d1, d2, d3, d4, d5, d6, d7, d8, d9, d10, d11, d12, d13⟩ := cells14 P2.out
  go_wp2_with (first
    | (go_at_call 24; (with_reducible refine (HC.out _ H2.out).mono ?_); rintro e V3 ⟨rfl, hT3, hF3⟩
       (have LX : Hid (V3.heap[w.heap.size + 1]? = some pkz) := hF3.kind _ _ _ _ (by decide) (by decide) (by decide) R2.out)
       (have F3 : Hid (Fr base w V3) := F2.out.trans hF3)
       (have H3 := Lib.hid hT3)
       (clear hT3 hF3 x2 d0 d1 d2 d3 d4 d5 d6 d7 d8 d9 d10 d11 d12 d13)
       (obtain ⟨r0, r1, r2, r3, r4, r5, r6, r7, r8, r9, r10, r11, r12, r13⟩ := cells14 LX.out)
       (have f0 := lies_frozen LX.out 0)
       (have f1 := lies_frozen LX.out 1)
       (have f2 := lies_frozen LX.out 2)
       (have f3 := lies_frozen LX.out 3)
       (have f4 := lies_frozen LX.out 4)
       (have f5 := lies_frozen LX.out 5)
       (have f6 := lies_frozen LX.out 6)
       (have f7 := lies_frozen LX.out 7)
       (have f8 := lies_frozen LX.out 8)
       (have f9 := lies_frozen LX.out 9)
       (have f10 := lies_frozen LX.out 10)
       (have f11 := lies_frozen LX.out 11)
       (have f12 := lies_frozen LX.out 12)
       (have f13 := lies_frozen LX.out 13)))
  (try simp only [Exit.inBlock, Exit.then])
  obtain ⟨k0, k1, k2, k3, k4, k5, k6, k7, k8, k9, k10, k11, k12, k13, _⟩ := read_14 (y0 := .int .i64 q.id) (y1 := .bool q.m) (y2 := .int .i64 q.off) (y3 := .int .i64 q.ttl) (y4 := .int .i64 q.pr) (y5 := .int .u8 q.a.a.toNat) (y6 := .int .u8 q.a.b.toNat) (y7 := .int .u8 q.a.c.toNat) (y8 := .int .u8 q.a.d.toNat) (y9 := .int .u8 q.b.a.toNat) (y10 := .int .u8 q.b.b.toNat) (y11 := .int .u8 q.b.c.toNat) (y12 := .int .u8 q.b.d.toNat) (y13 := .string q.s) LX.out
  refine bodyPost_ret (by simp [results, Try.results14, go_sem, k0, k1, k2, k3, k4, k5, k6, k7, k8, k9, k10, k11, k12, k13]; try rfl) rfl ?_
  exact ⟨rfl, stored_14 H3.out F3.out Hb.out (by omega) LX.out _ _ _ _ _ _ _ _ _ _ _ _ _ _⟩
end Go.Proofs.Ytgdjcoodjdckkaa
/- Contract of Put, a part. -/
set_option maxRecDepth 100000
namespace Go.Proofs.Ytgdjcoodjdckkaa
open Go.RowKit Go.Proofs.PitotIp Go.Maps
open Go.Proofs.PitotReasm (Bg Tb Fine bad first next passed passE put keep)
open Go.Proofs.Ytgdjcoodjdckkaa.Bi (lies_lt lies_cell lies_frozen lies_alloc lies_set)

set_option maxHeartbeats 4000000 in
theorem put_begin {base : Nat} {w : World} {tp : Nat} {most : Nat} {wait : Int} {t : Tb K UInt8} (h : TabAt base w tp most wait t) (hG : Good most t) (hmost : most ≤ 64) (hdr : t.dr ≤ 10000000000) (hw0 : 0 ≤ wait) (hw1 : wait ≤ 1125899906842624) (n : Int) (p : Pk) (hw : p.Wf) (hs : p.s.size ≤ 1000000000) (hp : passE t n = 0) (ho : p.off = 0) (hm : p.m = true) :
    Calls Try.prog 14 #[.pointer (some ⟨tp, 0, none⟩), .int .i64 n, p.val] w fun e w' => e = .returned (ans p (put most wait t n (p.key hw) p.m p.off p.d).2.1 (put most wait t n (p.key hw) p.m p.off p.d).2.2) ∧ TabAt base w' tp most wait (put most wait t n (p.key hw) p.m p.off p.d).1 ∧ Fr base w w' := by
  have e0 : put most wait t n (p.key hw) p.m p.off p.d = ((first most (passed t wait n) (p.key hw) p.m p.d).1, none, (first most (passed t wait n) (p.key hw) p.m p.d).2) := by unfold put; rw [if_neg (by omega), if_neg (by simp [hm]), if_pos ho]
  rw [e0]; clear e0
  have hb0 := h.base
  have k1 := ((Below.refl w.heap.size w).alloc (Nat.le_refl _) p.obj)
  have k2 := k1.alloc k1.size pkz
  have H1 : Hid (TabAt base ((w.alloc p.obj).alloc pkz) tp most wait t) := h.below k2
  have P1 : Hid (((w.alloc p.obj).alloc pkz).heap[w.heap.size]? = some p.obj) := lies_alloc (heap_alloc_new w _) _
  have R1 : Hid (((w.alloc p.obj).alloc pkz).heap[w.heap.size + 1]? = some pkz) := by
    have e := heap_alloc_new (w.alloc p.obj) pkz
    rw [World.size_alloc] at e
    exact e
  have F1 : Hid (Fr base w ((w.alloc p.obj).alloc pkz)) := Fr.of k2 hb0
  have Hb : Hid (base ≤ w.heap.size) := hb0
  clear h k1 k2 hb0
  have HP := Lib.hid (pass_ok H1.out hG hmost (by omega) hw0 hw1 n hp)
  have hgd := passed_good hG (wait := wait) hp
  have hdp := passed_dr hG wait n
  generalize passed t wait n = t2 at HP hgd hdp ⊢
  have HC : Hid (∀ V, TabAt base V tp most wait t2 → Calls Try.prog 25 #[.pointer (some ⟨tp, 0, none⟩), p.val] V fun e w' => e = .returned (.int .i64 (first most t2 (p.key hw) p.m p.d).2) ∧ TabAt base w' tp most wait (first most t2 (p.key hw) p.m p.d).1 ∧ Fr base V w') := fun V h => begin_any h hgd hmost (by omega) p hw ho hs
  generalize first most t2 (p.key hw) p.m p.d = nx at HC ⊢
  have Hp := Lib.hid hp; clear hp
  have Ho := Lib.hid ho; clear ho
  have Hm := Lib.hid hm; clear hm
  clear hgd hdp hG
  go_enter Try.func14, Try.ntmps14
  go_upto_region 4 with (first
    | (go_at_call 12; (with_reducible refine (HP.out).mono ?_); rintro e V2 ⟨rfl, hT2, hF2⟩
       (have P2 : Hid (V2.heap[w.heap.size]? = some p.obj) := hF2.kind _ _ _ _ (by decide) (by decide) (by decide) P1.out)
       (have R2 : Hid (V2.heap[w.heap.size + 1]? = some pkz) := hF2.kind _ _ _ _ (by decide) (by decide) (by decide) R1.out)
       (have F2 : Hid (Fr base w V2) := F1.out.trans hF2)
       (have H2 := Lib.hid hT2)
       (clear hT2 hF2)))
  have x2 : V2.cell? ⟨w.heap.size, 2, none⟩ = some (.int .i64 0) := by rw [← Ho.out]; exact lies_cell P2.out 2
  have x1 : V2.cell? ⟨w.heap.size, 1, none⟩ = some (.bool true) := by rw [← Hm.out]; exact lies_cell P2.out 1
  go_upto_region 7 with (fail)
  clear x1 x2
  obtain ⟨d0, d1, d2, d3, d4, d5, d6, d7, d8, d9, d10, d11, d12, d13⟩ := cells14 P2.out
  go_wp2_with (first
    | (go_at_call 25; (with_reducible refine (HC.out _ H2.out).mono ?_); rintro e V3 ⟨rfl, hT3, hF3⟩
       (have LX : Hid (V3.heap[w.heap.size + 1]? = some pkz) := hF3.kind _ _ _ _ (by decide) (by decide) (by decide) R2.out)
       (have F3 : Hid (Fr base w V3) := F2.out.trans hF3)
       (have H3 := Lib.hid hT3)
       (clear hT3 hF3 d0 d1 d2 d3 d4 d5 d6 d7 d8 d9 d10 d11 d12 d13)
       (obtain ⟨r0, r1, r2, r3, r4, r5, r6, r7, r8, r9, r10, r11, r12, r13⟩ := cells14 LX.out)
       (have f0 := lies_frozen LX.out 0)
       (have f1 := lies_frozen LX.out 1)
       (have f2 := lies_frozen LX.out 2)
       (have f3 := lies_frozen LX.out 3)
       (have f4 := lies_frozen LX.out 4)
       (have f5 := lies_frozen LX.out 5)
       (have f6 := lies_frozen LX.out 6)
       (have f7 := lies_frozen LX.out 7)
       (have f8 := lies_frozen LX.out 8)
       (have f9 := lies_frozen LX.out 9)
       (have f10 := lies_frozen LX.out 10)
       (have f11 := lies_frozen LX.out 11)
       (have f12 := lies_frozen LX.out 12)
       (have f13 := lies_frozen LX.out 13)))
  (try simp only [Exit.inBlock, Exit.then])
  obtain ⟨k0, k1, k2, k3, k4, k5, k6, k7, k8, k9, k10, k11, k12, k13, _⟩ := read_14 (y0 := .int .i64 0) (y1 := .bool false) (y2 := .int .i64 0) (y3 := .int .i64 0) (y4 := .int .i64 0) (y5 := .int .u8 0) (y6 := .int .u8 0) (y7 := .int .u8 0) (y8 := .int .u8 0) (y9 := .int .u8 0) (y10 := .int .u8 0) (y11 := .int .u8 0) (y12 := .int .u8 0) (y13 := .string ⟨#[]⟩) LX.out
  refine bodyPost_ret (by simp [results, Try.results14, go_sem, k0, k1, k2, k3, k4, k5, k6, k7, k8, k9, k10, k11, k12, k13]; try rfl) rfl ?_
  exact ⟨rfl, stored_14 H3.out F3.out Hb.out (by omega) LX.out _ _ _ _ _ _ _ _ _ _ _ _ _ _⟩
end Go.Proofs.Ytgdjcoodjdckkaa
/- Contract of Put, a part. -/
set_option maxRecDepth 100000
namespace Go.Proofs.Ytgdjcoodjdckkaa
open Go.RowKit Go.Proofs.PitotIp Go.Maps
open Go.Proofs.PitotReasm (Bg Tb Fine bad first next passed passE put keep)
open Go.Proofs.Ytgdjcoodjdckkaa.Bi (lies_lt lies_cell lies_frozen lies_alloc lies_set)

set_option maxHeartbeats 4000000 in
theorem put_whole {base : Nat} {w : World} {tp : Nat} {most : Nat} {wait : Int} {t : Tb K UInt8} (h : TabAt base w tp most wait t) (hG : Good most t) (hmost : most ≤ 64) (hdr : t.dr ≤ 10000000000) (hw0 : 0 ≤ wait) (hw1 : wait ≤ 1125899906842624) (n : Int) (p : Pk) (hw : p.Wf) (hs : p.s.size ≤ 1000000000) (hp : passE t n = 0) (ho : p.off = 0) (hm : p.m = false) :
    Calls Try.prog 14 #[.pointer (some ⟨tp, 0, none⟩), .int .i64 n, p.val] w fun e w' => e = .returned (ans p (put most wait t n (p.key hw) p.m p.off p.d).2.1 (put most wait t n (p.key hw) p.m p.off p.d).2.2) ∧ TabAt base w' tp most wait (put most wait t n (p.key hw) p.m p.off p.d).1 ∧ Fr base w w' := by
  have e0 : put most wait t n (p.key hw) p.m p.off p.d = (passed t wait n, some p.d, 0) := by unfold put; rw [if_neg (by omega), if_pos ⟨hm, ho⟩]
  rw [e0]; clear e0
  have hb0 := h.base
  have k1 := ((Below.refl w.heap.size w).alloc (Nat.le_refl _) p.obj)
  have k2 := k1.alloc k1.size pkz
  have H1 : Hid (TabAt base ((w.alloc p.obj).alloc pkz) tp most wait t) := h.below k2
  have P1 : Hid (((w.alloc p.obj).alloc pkz).heap[w.heap.size]? = some p.obj) := lies_alloc (heap_alloc_new w _) _
  have R1 : Hid (((w.alloc p.obj).alloc pkz).heap[w.heap.size + 1]? = some pkz) := by
    have e := heap_alloc_new (w.alloc p.obj) pkz
    rw [World.size_alloc] at e
    exact e
  have F1 : Hid (Fr base w ((w.alloc p.obj).alloc pkz)) := Fr.of k2 hb0
  have Hb : Hid (base ≤ w.heap.size) := hb0
  clear h k1 k2 hb0
  have HP := Lib.hid (pass_ok H1.out hG hmost (by omega) hw0 hw1 n hp)
  generalize passed t wait n = t2 at HP ⊢
  have HA : Hid (ans p (some p.d) 0 = .tuple #[p.val, .bool true, .int .i64 0]) := by
    show _ = _
    rw [ans_eq, ansP, whole_self p ho]; rfl
  have Hp := Lib.hid hp; clear hp
  have Ho := Lib.hid ho; clear ho
  have Hm := Lib.hid hm; clear hm
  clear hG
  go_enter Try.func14, Try.ntmps14
  go_upto_region 4 with (first
    | (go_at_call 12; (with_reducible refine (HP.out).mono ?_); rintro e V2 ⟨rfl, hT2, hF2⟩
       (have P2 : Hid (V2.heap[w.heap.size]? = some p.obj) := hF2.kind _ _ _ _ (by decide) (by decide) (by decide) P1.out)
       (have R2 : Hid (V2.heap[w.heap.size + 1]? = some pkz) := hF2.kind _ _ _ _ (by decide) (by decide) (by decide) R1.out)
       (have F2 : Hid (Fr base w V2) := F1.out.trans hF2)
       (have H2 := Lib.hid hT2)
       (clear hT2 hF2)))
  have x2 : V2.cell? ⟨w.heap.size, 2, none⟩ = some (.int .i64 0) := by rw [← Ho.out]; exact lies_cell P2.out 2
  have x1 : V2.cell? ⟨w.heap.size, 1, none⟩ = some (.bool false) := by rw [← Hm.out]; exact lies_cell P2.out 1
  go_upto_region 8 with (fail)
  clear x1 x2
  obtain ⟨d0, d1, d2, d3, d4, d5, d6, d7, d8, d9, d10, d11, d12, d13⟩ := cells14 P2.out
  have LX := R2
  obtain ⟨r0, r1, r2, r3, r4, r5, r6, r7, r8, r9, r10, r11, r12, r13⟩ := cells14 LX.out
  have f0 := lies_frozen LX.out 0
  have f1 := lies_frozen LX.out 1
  have f2 := lies_frozen LX.out 2
  have f3 := lies_frozen LX.out 3
  have f4 := lies_frozen LX.out 4
  have f5 := lies_frozen LX.out 5
  have f6 := lies_frozen LX.out 6
  have f7 := lies_frozen LX.out 7
  have f8 := lies_frozen LX.out 8
  have f9 := lies_frozen LX.out 9
  have f10 := lies_frozen LX.out 10
  have f11 := lies_frozen LX.out 11
  have f12 := lies_frozen LX.out 12
  have f13 := lies_frozen LX.out 13
  go_wp2
  (try simp only [Exit.inBlock, Exit.then])
  obtain ⟨k0, k1, k2, k3, k4, k5, k6, k7, k8, k9, k10, k11, k12, k13, _⟩ := read_14 (y0 := .int .i64 p.id) (y1 := .bool p.m) (y2 := .int .i64 p.off) (y3 := .int .i64 p.ttl) (y4 := .int .i64 p.pr) (y5 := .int .u8 p.a.a.toNat) (y6 := .int .u8 p.a.b.toNat) (y7 := .int .u8 p.a.c.toNat) (y8 := .int .u8 p.a.d.toNat) (y9 := .int .u8 p.b.a.toNat) (y10 := .int .u8 p.b.b.toNat) (y11 := .int .u8 p.b.c.toNat) (y12 := .int .u8 p.b.d.toNat) (y13 := .string p.s) LX.out
  refine bodyPost_ret (by simp [results, Try.results14, go_sem, k0, k1, k2, k3, k4, k5, k6, k7, k8, k9, k10, k11, k12, k13]; try rfl) rfl ?_
  exact ⟨by rw [HA.out], stored_14 H2.out F2.out Hb.out (by omega) LX.out _ _ _ _ _ _ _ _ _ _ _ _ _ _⟩
end Go.Proofs.Ytgdjcoodjdckkaa
/- Contract of Put. -/
set_option maxRecDepth 100000
namespace Go.Proofs.Ytgdjcoodjdckkaa
open Go.RowKit Go.Proofs.PitotIp Go.Maps
open Go.Proofs.PitotReasm (Bg Tb Fine bad first next passed passE put keep)
open Go.Proofs.Ytgdjcoodjdckkaa.Bi (lies_lt lies_cell lies_frozen lies_alloc lies_set)

theorem put_any {base : Nat} {w : World} {tp : Nat} {most : Nat} {wait : Int} {t : Tb K UInt8} (h : TabAt base w tp most wait t) (hG : Good most t) (hmost : most ≤ 64) (hdr : t.dr ≤ 10000000000) (hw0 : 0 ≤ wait) (hw1 : wait ≤ 1125899906842624) (n : Int) (p : Pk) (hw : p.Wf) (hs : p.s.size ≤ 1000000000) :
    Calls Try.prog 14 #[.pointer (some ⟨tp, 0, none⟩), .int .i64 n, p.val] w fun e w' => e = .returned (ans p (put most wait t n (p.key hw) p.m p.off p.d).2.1 (put most wait t n (p.key hw) p.m p.off p.d).2.2) ∧ TabAt base w' tp most wait (put most wait t n (p.key hw) p.m p.off p.d).1 ∧ Fr base w w' := by
  by_cases hp : passE t n = 0
  · by_cases ho : p.off = 0
    · cases hm : p.m
      · have := put_whole h hG hmost hdr hw0 hw1 n p hw hs hp ho hm
        rw [hm] at this; exact this
      · have := put_begin h hG hmost hdr hw0 hw1 n p hw hs hp ho hm
        rw [hm] at this; exact this
    · exact put_on h hG hmost hdr hw0 hw1 n p hw hs hp ho
  · exact put_bad h hG hmost hdr hw0 hw1 n p hw hs hp
end Go.Proofs.Ytgdjcoodjdckkaa
/- Contracts of New, Keys and Dropped. -/
set_option maxRecDepth 100000
namespace Go.Proofs.Ytgdjcoodjdckkaa
open Go.RowKit Go.Proofs.PitotIp Go.Maps
open Go.Proofs.PitotReasm (Bg Tb Fine)
open Go.Proofs.Ytgdjcoodjdckkaa.Bi (lies_lt lies_cell lies_frozen lies_alloc lies_set)

/-- A new table. -/
def t0 : Tb K UInt8 := ⟨[], 0, 0⟩
theorem good_new (most : Nat) : Good most t0 := ⟨⟨by simp [t0], by simp [t0]⟩, by simp [t0], by simp [t0], by simp [t0], by simp [t0], by simp [t0], by simp [t0]⟩
theorem tab_new (w : World) (most wait : Int) : TabAt w.heap.size ((w.alloc (.map #[] 0)).alloc (tabC most wait 0 w.heap.size (.slice none 0 0) 0)) (w.heap.size + 1) most wait t0 := by
  refine ⟨w.heap.size, 0, .map [], .slice none 0 0, fun _ => .slice none 0 0, ?_⟩
  have e1 : ((w.alloc (.map #[] 0)).alloc (tabC most wait 0 w.heap.size (.slice none 0 0) 0)).heap[w.heap.size + 1]? = some (tabC most wait 0 w.heap.size (.slice none 0 0) 0) := by
    have := heap_alloc_new (w.alloc (.map #[] 0)) (tabC most wait 0 w.heap.size (.slice none 0 0) 0)
    rw [World.size_alloc] at this
    exact this
  refine ⟨by omega, Nat.le_refl _, e1, ?_, fun k => ⟨rfl, rfl⟩, rfl, ⟨rfl, .inl ⟨rfl, rfl⟩⟩, by simp [t0], by simp [t0]⟩
  exact (World.ownsMap_made (H := Value) w Try.prog 52 HE).kept (World.grownBy_alloc _ _ none) (by simp)

set_option maxHeartbeats 2000000 in
theorem new_ok (w : World) (most : Nat) (wait : Int) (h1 : 1 ≤ most) (h2 : most ≤ 64) (h3 : 0 ≤ wait) (h4 : wait ≤ 1125899906842624) :
    Calls Try.prog 9 #[.int .i64 most, .int .i64 wait] w fun e w' => ∃ tp, e = .returned (.tuple #[.pointer (some ⟨tp, 0, none⟩), .int .i64 0]) ∧ TabAt w.heap.size w' tp most wait t0 ∧ Below w.heap.size w w' := by
  have e1 : decide ((most : Int) < 1) = false := decide_eq_false (by omega)
  have e2 : decide (64 < (most : Int)) = false := decide_eq_false (by omega)
  have e3 : decide (wait < 0) = false := decide_eq_false (by omega)
  have e4 : decide (1125899906842624 < wait) = false := decide_eq_false (by omega)
  have e1' : decide (most < 1) = false := decide_eq_false (by omega)
  have e2' : decide (64 < most) = false := decide_eq_false (by omega)
  have hmm := @run_makeMap Try.prog
  clear h1 h2 h3 h4
  go_enter Try.func9, Try.ntmps9
  go_wp2
  go_returns
  exact ⟨w.heap.size + 1, rfl, tab_new w most wait, ((Below.refl _ w).alloc (Nat.le_refl _) _).alloc (by simp) _⟩
set_option maxHeartbeats 2000000 in
theorem new_bad (w : World) (most wait : Int) (h : most < 1 ∨ 64 < most ∨ wait < 0 ∨ 1125899906842624 < wait) :
    Calls Try.prog 9 #[.int .i64 most, .int .i64 wait] w fun e w' => e = .returned (.tuple #[.pointer none, .int .i64 1]) ∧ w' = w := by
  by_cases h1 : most < 1
  · have e1 : decide (most < 1) = true := decide_eq_true h1
    clear h h1
    go_enter Try.func9, Try.ntmps9
    go_wp2
    go_returns
    exact ⟨rfl, rfl⟩
  · have e1 : decide (most < 1) = false := decide_eq_false h1
    by_cases h2 : 64 < most
    · have e2 : decide (64 < most) = true := decide_eq_true h2
      clear h h1 h2
      go_enter Try.func9, Try.ntmps9
      go_wp2
      go_returns
      exact ⟨rfl, rfl⟩
    · have e2 : decide (64 < most) = false := decide_eq_false h2
      by_cases h3 : wait < 0
      · have e3 : decide (wait < 0) = true := decide_eq_true h3
        clear h h1 h2 h3
        go_enter Try.func9, Try.ntmps9
        go_wp2
        go_returns
        exact ⟨rfl, rfl⟩
      · have e3 : decide (wait < 0) = false := decide_eq_false h3
        have e4 : decide (1125899906842624 < wait) = true := decide_eq_true (by omega)
        clear h h1 h2 h3
        go_enter Try.func9, Try.ntmps9
        go_wp2
        go_returns
        exact ⟨rfl, rfl⟩

theorem dropped_any {base : Nat} {w : World} {tp : Nat} {most wait : Int} {t : Tb K UInt8} (h : TabAt base w tp most wait t) :
    Calls Try.prog 18 #[.pointer (some ⟨tp, 0, none⟩)] w fun e w' => e = .returned (.int .i64 t.dr) ∧ w' = w := by
  obtain ⟨mb, n, D, ov, dv, h⟩ := h
  have hc : w.cell? ⟨tp, 5, none⟩ = some (.int .i64 t.dr) := lies_cell h.tab 5
  generalize (t.dr : Int) = dr at hc ⊢
  clear h
  go_enter Try.func18, Try.ntmps18
  go_wp2
  go_returns
  exact ⟨rfl, rfl⟩
theorem dropped_nil (w : World) : Calls Try.prog 18 #[.pointer none] w fun e w' => e = .returned (.int .i64 0) ∧ w' = w := by
  go_enter Try.func18, Try.ntmps18
  go_wp2
  go_returns
  exact ⟨rfl, rfl⟩
theorem keys_nil (w : World) : Calls Try.prog 17 #[.pointer none] w fun e w' => e = .returned (.slice none 0 0) ∧ w' = w := by
  go_enter Try.func17, Try.ntmps17
  go_wp2
  go_returns
  exact ⟨rfl, rfl⟩
theorem eq_nil0 (w : World) : (binOp .eql 45 (.slice none 0 0) (.slice none 0 0)).run Try.prog w = .ok (.bool true) w := by
  rw [Lib.run_eql_slice_nil w 45 52 _ _ _ _ _ Try.underlying45]; rfl
theorem clone_nil (w : World) : Calls Try.prog 30 #[.slice none 0 0] w fun e w' => e = .returned (.slice none 0 0) ∧ w' = w := by
  have he := eq_nil0
  go_enter Try.func30, Try.ntmps30
  go_wp2
  go_returns
  exact ⟨rfl, rfl⟩
theorem eq_nil (w : World) (o n cap : Nat) : (binOp .eql 45 (.slice (some ⟨o, 0, none⟩) n cap) (.slice none 0 0)).run Try.prog w = .ok (.bool false) w := by
  rw [Lib.run_eql_slice_nil w 45 52 _ _ _ _ _ Try.underlying45]; rfl
theorem clone_zero (w : World) (o cap : Nat) : Calls Try.prog 30 #[.slice (some ⟨o, 0, none⟩) 0 cap] w fun e w' => (∃ A c, e = .returned (.slice A 0 c)) ∧ Below w.heap.size w w' := by
  have he := fun w => eq_nil w o 0 cap
  have kb : Hid (Below w.heap.size w (w.alloc (.cells #[] 52))) := (Below.refl _ w).alloc (Nat.le_refl _) _
  go_enter Try.func30, Try.ntmps30
  go_wp2
  go_returns
  exact ⟨⟨_, _, rfl⟩, kb.out⟩
/-- Keys as a caller has them. -/
def KsAt (w : World) (A : Option Addr) (l : List K) : Prop := l ≠ [] → ∃ b, A = some ⟨b, 0, none⟩ ∧ b < w.heap.size ∧ ∀ i (h : i < l.length), KAt w b (i * 10) l[i]
theorem RowK.news {w : World} {o cap : Nat} {ks : List K} (h : RowK w o cap ks) : ∀ j u, (flatK ks)[j]? = some u → w.cell? ((⟨o, 0, none⟩ : Addr).add j) = some u := fun j u hu => by
  obtain ⟨cur, h1, h2, h3, h4, h5⟩ := h
  have hj : j < ks.length * 10 := by
    have := (List.getElem?_eq_some_iff.1 hu).1
    rwa [flatK_length] at this
  rw [Bi.add_plain, lies_cell h1, ← hu, ← h5, List.getElem?_take_of_lt hj, Array.getElem?_toList]
theorem flatK_one (ks : List K) : ∀ u ∈ flatK ks, u.oneCell' = true := fun u hu => by
  obtain ⟨k, _, hk⟩ := List.mem_flatMap.1 hu
  exact k.enc_one u hk
set_option maxHeartbeats 2000000 in
theorem clone_row (w : World) (o cap n : Nat) (ks : List K) (h : RowK w o cap ks) (hn : n = ks.length) (hpos : 0 < n) (hle : n ≤ 64) :
    Calls Try.prog 30 #[.slice (some ⟨o, 0, none⟩) n cap] w fun e w' => (∃ g c, e = .returned (.slice (some ⟨g, 0, none⟩) n c) ∧ KsAt w' (some ⟨g, 0, none⟩) ks) ∧ Below w.heap.size w w' := by
  have he := fun w => eq_nil w o n cap
  have hol := h.lt
  have H1 : Hid (RowK (w.alloc (.cells #[] 52)) o cap ks) := h.below ((Below.refl _ w).alloc (Nat.le_refl _) _) hol
  have HO : Hid ((w.alloc (.cells #[] 52)).ownsRow w.heap.size 52 10 (.slice (some ⟨w.heap.size, 0, none⟩) 0 0) 0 []) := ⟨rfl, .inr ⟨w.heap.size, 0, #[], rfl, Nat.le_refl _, heap_alloc_new w _, by omega, by unfold maxLen; omega, rfl, rfl⟩⟩
  have kb : Hid (Below w.heap.size w (w.alloc (.cells #[] 52))) := (Below.refl _ w).alloc (Nat.le_refl _) _
  have Hn := Lib.hid hn; clear hn h
  obtain ⟨i, hi, hz, hs52, hb52⟩ := info_parts info52
  go_enter Try.func30, Try.ntmps30
  go_wp2_with (first
    | (at_builtin; refine wpList_append_lies _ rfl _ _ 45 (by rfl) w.heap.size 52 i _ 10 24 Try.underlying45 hi hz hs52 hb52 rfl (by omega) _ 0 [] (by rfl) HO.out ⟨o, 0, none⟩ n cap (flatK ks) (by rfl) (by rw [flatK_length, Hn.out]) H1.out.news (flatK_one ks) hpos (by unfold maxLen; omega) (by omega) (by simp) _ rfl ?_; intro g c w5 hrow5 hg5 hgb hgl))
  go_returns
  have hb5 : Below w.heap.size w w5 := kb.out.trans ⟨hg5.os, hg5.tape, hg5.output, hg5.size, fun k hk => hg5.block k (by simp; omega) (by simp [Value.ownBlock]; omega)⟩
  rw [Nat.zero_add, List.nil_append] at hrow5
  obtain ⟨g', c', e1, hg', hlen, hR⟩ := RowK.of_own hrow5 hpos
  injection e1 with e1 _ e3
  injection e1 with e1
  injection e1 with e1
  subst e1; subst e3
  refine ⟨⟨g, c, rfl, fun _ => ⟨g, rfl, hR.lt, fun i hi => hR.at i hi⟩⟩, hb5⟩
theorem keys_any {base : Nat} {w : World} {tp : Nat} {most wait : Int} {t : Tb K UInt8} (h : TabAt base w tp most wait t) (hle : t.l.length ≤ 64) :
    Calls Try.prog 17 #[.pointer (some ⟨tp, 0, none⟩)] w fun e w' => (∃ A c, e = .returned (.slice A t.l.length c) ∧ KsAt w' A (t.l.map (·.k))) ∧ Below w.heap.size w w' := by
  obtain ⟨mb, n, D, ov, dv, h⟩ := h
  have hc : w.cell? ⟨tp, 4, none⟩ = some ov := lies_cell h.tab 4
  have HC : Hid (∀ w', w' = w → Calls Try.prog 30 #[ov] w' fun e w' => (∃ A c, e = .returned (.slice A t.l.length c) ∧ KsAt w' A (t.l.map (·.k))) ∧ Below w.heap.size w w') := by
    rintro w' rfl
    by_cases hz : t.l.length = 0
    · have hnil : t.l = [] := List.length_eq_zero_iff.1 hz
      rcases h.row.2 with ⟨e, _⟩ | ⟨g, cap, cur, e, _⟩
      · rw [e, hz, hnil]
        exact (clone_nil w').mono fun e w2 x => ⟨⟨none, 0, x.1, fun y => absurd rfl y⟩, by rw [x.2]; exact Below.refl _ _⟩
      · rw [e, hz, hnil]
        exact (clone_zero w' g cap).mono fun e w2 x => by
          obtain ⟨⟨A, c, e⟩, hb⟩ := x
          exact ⟨⟨A, c, e, fun y => absurd rfl y⟩, hb⟩
    · obtain ⟨o, cap, e, _, _, hR⟩ := RowK.of_own h.row (by omega)
      rw [e]
      exact (clone_row w' o cap t.l.length _ hR (by rw [List.length_map]) (by omega) hle).mono fun e w2 x => by
        obtain ⟨⟨g, c, e, hk⟩, hb⟩ := x
        exact ⟨⟨_, c, e, hk⟩, hb⟩
  clear h
  obtain ⟨L, HL⟩ : ∃ L, Hid (t.l.length = L) := ⟨_, rfl⟩
  rw [HL.out] at HC ⊢
  generalize t.l.map (·.k) = ks at HC ⊢
  go_enter Try.func17, Try.ntmps17
  go_wp2_with (first
    | (go_at_call 30; (with_reducible refine (HC.out _ rfl).mono ?_); rintro e w2 ⟨⟨A, c, rfl, hk⟩, hb⟩))
  go_returns
  exact ⟨⟨A, c, rfl, hk⟩, hb⟩
end Go.Proofs.Ytgdjcoodjdckkaa
/- awake: the chapter's examples. -/
set_option maxRecDepth 100000
namespace Go.Proofs.Ytgdjcoodjdckkaa
open Go.RowKit Go.Proofs.PitotIp Go.Maps
open Go.Proofs.PitotReasm (Bg Tb Fine bad first next passed passE put keep)
open Go.Proofs.Ytgdjcoodjdckkaa.Bi (lies_lt lies_cell lies_frozen lies_alloc lies_set)

def pA : Pk := ⟨3, true, 0, 0, 0, q0, q0, ⟨#[49, 50, 51, 52, 53, 54, 55, 56]⟩⟩
def pB : Pk := ⟨3, false, 1, 0, 0, q0, q0, ⟨#[57]⟩⟩
theorem wfA : pA.Wf := ⟨by decide, by decide⟩
theorem wfB : pB.Wf := ⟨by decide, by decide⟩
def kA : K := pA.key wfA
theorem keyB : pB.key wfB = kA := rfl
abbrev partsC (A B : Pk) : Obj := .cells #[.int .i64 A.id, .bool A.m, .int .i64 A.off, .int .i64 A.ttl, .int .i64 A.pr, .int .u8 A.a.a.toNat, .int .u8 A.a.b.toNat, .int .u8 A.a.c.toNat, .int .u8 A.a.d.toNat, .int .u8 A.b.a.toNat, .int .u8 A.b.b.toNat, .int .u8 A.b.c.toNat, .int .u8 A.b.d.toNat, .string A.s, .int .i64 B.id, .bool B.m, .int .i64 B.off, .int .i64 B.ttl, .int .i64 B.pr, .int .u8 B.a.a.toNat, .int .u8 B.a.b.toNat, .int .u8 B.a.c.toNat, .int .u8 B.a.d.toNat, .int .u8 B.b.a.toNat, .int .u8 B.b.b.toNat, .int .u8 B.b.c.toNat, .int .u8 B.b.d.toNat, .string B.s] 34
set_option maxHeartbeats 1000000 in
theorem parts_any (w : World) : Calls Try.prog 22 #[] w fun e w' => e = .returned (.slice (some ⟨w.heap.size, 0, none⟩) 2 2) ∧ w' = w.alloc (partsC pA pB) := by
  go_enter Try.func22, Try.ntmps22
  go_wp2
  go_returns
  exact ⟨rfl, rfl⟩

def dA : List UInt8 := [49, 50, 51, 52, 53, 54, 55, 56]
theorem find_one (k : K) (t : Int) (d : List UInt8) : PitotReasm.find [⟨k, t, d⟩] k = some ⟨k, t, d⟩ := by simp [PitotReasm.find]
theorem drop_one' (k : K) (t : Int) (d : List UInt8) : PitotReasm.drop [⟨k, t, d⟩] k = [] := by simp [PitotReasm.drop]
theorem put1 (most : Nat) (wait n : Int) (hm : 1 ≤ most) (hn0 : 0 ≤ n) (hn : n ≤ 2000000) : put most wait t0 n kA true 0 dA = (⟨[⟨kA, n, dA⟩], n, 0⟩, none, 0) := by
  have h1 : ¬ 1125899906842624 < n := by omega
  have h2 : ¬ n < 0 := by omega
  have h3 : ¬ most = 0 := by omega
  simp [put, passE, t0, passed, keep, first, PitotReasm.drop, bad, dA, h1, h2, h3]
theorem put2 (most : Nat) (wait n n0 : Int) (dr : Nat) (hn0 : n0 ≤ n) (hn : n ≤ 2000000) (hw : n - n0 ≤ wait) : put most wait ⟨[⟨kA, n0, dA⟩], n0, dr⟩ n kA false 1 [57] = (⟨[], n, dr⟩, some (dA ++ [57]), 0) := by
  have h1 : ¬ 1125899906842624 < n := by omega
  have h2 : ¬ n < n0 := by omega
  have hk : keep [(⟨kA, n0, dA⟩ : Bg K UInt8)] wait n = [⟨kA, n0, dA⟩] := by simp [keep, hw]
  simp [put, passE, h1, h2, passed, hk, next, find_one, drop_one', bad]
  simp [dA]
theorem put2' (most : Nat) (wait n n0 : Int) (dr : Nat) (hn0 : n0 ≤ n) (hn : n ≤ 2000000) (hw : ¬ n - n0 ≤ wait) : put most wait ⟨[⟨kA, n0, dA⟩], n0, dr⟩ n kA false 1 [57] = (⟨[], n, dr + 1⟩, none, 25) := by
  have h1 : ¬ 1125899906842624 < n := by omega
  have h2 : ¬ n < n0 := by omega
  have hk : keep [(⟨kA, n0, dA⟩ : Bg K UInt8)] wait n = [] := by simp [keep, hw]
  simp [put, passE, h1, h2, passed, hk, next, PitotReasm.find]
theorem put1e (most : Nat) (wait n n0 : Int) (dr : Nat) (hm : 1 ≤ most) (hn0 : n0 ≤ n) (hn : n ≤ 2000000) : put most wait ⟨[], n0, dr⟩ n kA true 0 dA = (⟨[⟨kA, n, dA⟩], n, dr⟩, none, 0) := by
  have h1 : ¬ 1125899906842624 < n := by omega
  have h2 : ¬ n < n0 := by omega
  have h3 : ¬ most = 0 := by omega
  simp [put, passE, h1, h2, passed, keep, first, PitotReasm.drop, bad, dA, h3]

theorem call_put {base most : Nat} {wait : Int} {T T' : Tb K UInt8} {n : Int} {p : Pk} (hw : p.Wf) {k : K} (hk : p.key hw = k) {out : Option (List UInt8)} {e : Int} (hput : put most wait T n k p.m p.off p.d = (T', out, e)) (hG : Good most T) (hmost : most ≤ 64) (hdr : T.dr ≤ 10000000000) (hw0 : 0 ≤ wait) (hw1 : wait ≤ 1125899906842624) (hs : p.s.size ≤ 1000000000) :
    (∀ tp V, TabAt base V tp most wait T → Calls Try.prog 14 #[.pointer (some ⟨tp, 0, none⟩), .int .i64 n, p.val] V fun r V' => r = .returned (.tuple #[(ansP p out).val, .bool out.isSome, .int .i64 e]) ∧ TabAt base V' tp most wait T' ∧ Fr base V V') ∧ Good most T' := by
  subst hk
  have hg := put_good hG n (p.key hw) p.m p.off p.d (wait := wait)
  rw [hput] at hg
  refine ⟨fun tp V h => ?_, hg⟩
  have := put_any h hG hmost hdr hw0 hw1 n p hw hs
  rw [hput] at this
  exact this
theorem fr_parts {base : Nat} {V V' : World} {g : Nat} {A B : Pk} (h : V.heap[g]? = some (partsC A B)) (hF : Fr base V V') : V'.heap[g]? = some (partsC A B) := hF.kind _ _ _ _ (by decide) (by decide) (by decide) h
theorem fr_pk {base : Nat} {V V' : World} {g : Nat} {A : Pk} (h : V.heap[g]? = some A.obj) (hF : Fr base V V') : V'.heap[g]? = some A.obj := hF.kind _ _ _ _ (by decide) (by decide) (by decide) h
theorem TabAt.alloc {base : Nat} {w : World} {p : Nat} {most wait : Int} {t : Tb K UInt8} (h : TabAt base w p most wait t) (o : Obj) : TabAt base (w.alloc o) p most wait t := h.below ((Below.refl _ w).alloc (Nat.le_refl _) o)
theorem TabAt.drewN {base : Nat} {w : World} {p : Nat} {most wait : Int} {t : Tb K UInt8} (h : TabAt base w p most wait t) (q : Nat) : TabAt base (w.drewN q) p most wait t := by
  obtain ⟨mb, n, D, ov, dv, h⟩ := h
  exact ⟨mb, n, D, ov, dv, h.drewN q⟩
theorem Below.alloc' {B : Nat} {w w' : World} (h : Below B w w') (hb : B ≤ w.heap.size) (o : Obj) : Below B w (w'.alloc o) := h.alloc (Nat.le_trans hb h.size) o

theorem parts_a {w : World} {g : Nat} {A B : Pk} (h : w.heap[g]? = some (partsC A B)) : w.cell? ⟨g, 0, none⟩ = some (.int .i64 A.id) ∧ w.cell? ⟨g, 1, none⟩ = some (.bool A.m) ∧ w.cell? ⟨g, 2, none⟩ = some (.int .i64 A.off) ∧ w.cell? ⟨g, 3, none⟩ = some (.int .i64 A.ttl) ∧ w.cell? ⟨g, 4, none⟩ = some (.int .i64 A.pr) ∧ w.cell? ⟨g, 5, none⟩ = some (.int .u8 A.a.a.toNat) ∧ w.cell? ⟨g, 6, none⟩ = some (.int .u8 A.a.b.toNat) ∧ w.cell? ⟨g, 7, none⟩ = some (.int .u8 A.a.c.toNat) ∧ w.cell? ⟨g, 8, none⟩ = some (.int .u8 A.a.d.toNat) ∧ w.cell? ⟨g, 9, none⟩ = some (.int .u8 A.b.a.toNat) ∧ w.cell? ⟨g, 10, none⟩ = some (.int .u8 A.b.b.toNat) ∧ w.cell? ⟨g, 11, none⟩ = some (.int .u8 A.b.c.toNat) ∧ w.cell? ⟨g, 12, none⟩ = some (.int .u8 A.b.d.toNat) ∧ w.cell? ⟨g, 13, none⟩ = some (.string A.s) := ⟨lies_cell h 0, lies_cell h 1, lies_cell h 2, lies_cell h 3, lies_cell h 4, lies_cell h 5, lies_cell h 6, lies_cell h 7, lies_cell h 8, lies_cell h 9, lies_cell h 10, lies_cell h 11, lies_cell h 12, lies_cell h 13⟩
theorem parts_b {w : World} {g : Nat} {A B : Pk} (h : w.heap[g]? = some (partsC A B)) : w.cell? ⟨g, 14, none⟩ = some (.int .i64 B.id) ∧ w.cell? ⟨g, 15, none⟩ = some (.bool B.m) ∧ w.cell? ⟨g, 16, none⟩ = some (.int .i64 B.off) ∧ w.cell? ⟨g, 17, none⟩ = some (.int .i64 B.ttl) ∧ w.cell? ⟨g, 18, none⟩ = some (.int .i64 B.pr) ∧ w.cell? ⟨g, 19, none⟩ = some (.int .u8 B.a.a.toNat) ∧ w.cell? ⟨g, 20, none⟩ = some (.int .u8 B.a.b.toNat) ∧ w.cell? ⟨g, 21, none⟩ = some (.int .u8 B.a.c.toNat) ∧ w.cell? ⟨g, 22, none⟩ = some (.int .u8 B.a.d.toNat) ∧ w.cell? ⟨g, 23, none⟩ = some (.int .u8 B.b.a.toNat) ∧ w.cell? ⟨g, 24, none⟩ = some (.int .u8 B.b.b.toNat) ∧ w.cell? ⟨g, 25, none⟩ = some (.int .u8 B.b.c.toNat) ∧ w.cell? ⟨g, 26, none⟩ = some (.int .u8 B.b.d.toNat) ∧ w.cell? ⟨g, 27, none⟩ = some (.string B.s) := ⟨lies_cell h 14, lies_cell h 15, lies_cell h 16, lies_cell h 17, lies_cell h 18, lies_cell h 19, lies_cell h 20, lies_cell h 21, lies_cell h 22, lies_cell h 23, lies_cell h 24, lies_cell h 25, lies_cell h 26, lies_cell h 27⟩

set_option maxHeartbeats 4000000 in
theorem awake_any (w : World) : Calls Try.prog 11 #[] w fun e w' => e = .returned (.bool true) ∧ Below w.heap.size w w' := by
  have HN : Calls Try.prog 9 #[.int .i64 4, .int .i64 5] w fun e w' => ∃ tp, e = .returned (.tuple #[.pointer (some ⟨tp, 0, none⟩), .int .i64 0]) ∧ TabAt w.heap.size w' tp ((4 : Nat) : Int) 5 t0 ∧ Below w.heap.size w w' := new_ok w 4 5 (by omega) (by omega) (by omega) (by omega)
  have HN := Lib.hid HN
  obtain ⟨h1, g1⟩ := call_put (base := w.heap.size) (p := pA) wfA (k := kA) rfl (put1 4 5 0 (by omega) (by omega) (by omega)) (good_new 4) (by omega) (by decide) (by omega) (by omega) (by decide)
  obtain ⟨h2, g2⟩ := call_put (base := w.heap.size) (p := pB) wfB (k := kA) rfl (put2 4 5 1 0 0 (by omega) (by omega) (by omega)) g1 (by omega) (by decide) (by omega) (by omega) (by decide)
  obtain ⟨h3, g3⟩ := call_put (base := w.heap.size) (p := pA) wfA (k := kA) rfl (put1e 4 5 10 1 0 (by omega) (by omega) (by omega)) g2 (by omega) (by decide) (by omega) (by omega) (by decide)
  obtain ⟨h4, g4⟩ := call_put (base := w.heap.size) (p := pB) wfB (k := kA) rfl (put2' 4 5 16 10 0 (by omega) (by omega) (by omega)) g3 (by omega) (by decide) (by omega) (by omega) (by decide)
  clear g1 g2 g3 g4
  have HD := fun (V : World) (tp : Nat) (h : TabAt w.heap.size V tp ((4 : Nat) : Int) 5 ⟨[], 16, 0 + 1⟩) => dropped_any h
  have HPA := fun w => parts_any w
  obtain ⟨Q, HQ⟩ : ∃ Q : Pk, Hid (Q = ansP pB (some (dA ++ [57]))) := ⟨ansP pB (some (dA ++ [57])), Lib.hid rfl⟩
  obtain ⟨Z1, HZ1⟩ : ∃ Q : Pk, Hid (Q = ansP pA none) := ⟨_, rfl⟩
  obtain ⟨Z2, HZ2⟩ : ∃ Q : Pk, Hid (Q = ansP pB none) := ⟨_, rfl⟩
  have hq : (Q.s.toList == [49, 50, 51, 52, 53, 54, 55, 56, 57]) = true := by rw [HQ.out, ByteArray.toList_eq]; rfl
  rw [← HZ1.out] at h1 h3
  rw [← HZ2.out] at h4
  rw [← HQ.out] at h2
  obtain ⟨A, HA⟩ : ∃ A, Hid (A = pA) := ⟨_, rfl⟩
  obtain ⟨B, HB⟩ : ∃ A, Hid (A = pB) := ⟨_, rfl⟩
  obtain ⟨S1, HT1⟩ : ∃ T : Tb K UInt8, Hid (T = ⟨[⟨kA, 0, dA⟩], 0, 0⟩) := ⟨_, rfl⟩
  obtain ⟨S2, HT2⟩ : ∃ T : Tb K UInt8, Hid (T = ⟨[], 1, 0⟩) := ⟨_, rfl⟩
  obtain ⟨S3, HT3⟩ : ∃ T : Tb K UInt8, Hid (T = ⟨[⟨kA, 10, dA⟩], 10, 0⟩) := ⟨_, rfl⟩
  obtain ⟨S4, HT4⟩ : ∃ T : Tb K UInt8, Hid (T = ⟨[], 16, 0 + 1⟩) := ⟨_, rfl⟩
  rw [← HT1.out, ← HA.out] at h1
  rw [← HT1.out, ← HT2.out, ← HB.out] at h2
  rw [← HT2.out, ← HT3.out, ← HA.out] at h3
  rw [← HT3.out, ← HT4.out, ← HB.out] at h4
  rw [← HT4.out] at HD
  rw [← HA.out, ← HB.out] at HPA
  simp only [Option.isSome_none, Option.isSome_some] at h1 h2 h3 h4
  have H1 := Lib.hid h1; have H2 := Lib.hid h2; have H3 := Lib.hid h3; have H4 := Lib.hid h4
  have HD : Hid (∀ (V : World) (tp : Nat), TabAt w.heap.size V tp ((4 : Nat) : Int) 5 S4 → Calls Try.prog 18 #[.pointer (some ⟨tp, 0, none⟩)] V fun e w' => e = .returned (.int .i64 1) ∧ w' = V) := fun V tp h => by
    have := HD V tp h
    rw [HT4.out] at this
    exact this
  have HPA := Lib.hid HPA
  clear h1 h2 h3 h4
  go_enter Try.func11, Try.ntmps11
  go_upto_region 5 with (first
    | (go_at_call 9; (with_reducible refine HN.out.mono ?_); rintro e Vn ⟨tp, rfl, hTn, hBn⟩)
    | (go_at_call 22; (with_reducible refine (HPA.out _).mono ?_); rintro e V0 ⟨rfl, hV⟩
       (have T0 : Hid (TabAt w.heap.size V0 tp ((4 : Nat) : Int) 5 t0) := by show TabAt _ _ _ _ _ _; rw [hV]; exact hTn.alloc _)
       (have L0 : Hid (V0.heap[Vn.heap.size]? = some (partsC A B)) := by show _ = _; rw [hV]; exact heap_alloc_new Vn _)
       (have B0 : Hid (Below w.heap.size w V0) := by show Below _ _ _; rw [hV]; exact hBn.alloc hBn.size _)
       (clear hTn hBn hV)))
  generalize Vn.heap.size = g at L0 ⊢
  have hgl := Lib.hid (lies_lt L0.out)
  obtain ⟨a0, a1, a2, a3, a4, a5, a6, a7, a8, a9, a10, a11, a12, a13⟩ := parts_a L0.out
  go_upto_region 6 with (first
    | (go_at_call 14; (with_reducible refine (H1.out _ _ T0.out).mono ?_); rintro e V1 ⟨rfl, hT, hF⟩
       (have T1 := Lib.hid hT; have L1 := Lib.hid (fr_parts L0.out hF); have B1 := Lib.hid (B0.out.trans hF.below); clear hT hF a0 a1 a2 a3 a4 a5 a6 a7 a8 a9 a10 a11 a12 a13)))
  have T1a : Hid (TabAt w.heap.size (V1.alloc Z1.obj) tp ((4 : Nat) : Int) 5 S1) := T1.out.alloc _
  have L1a : Hid ((V1.alloc Z1.obj).heap[g]? = some (partsC A B)) := lies_alloc L1.out _
  have B1a : Hid (Below w.heap.size w (V1.alloc Z1.obj)) := B1.out.alloc B1.out.size _
  generalize V1.alloc Z1.obj = W1 at T1a L1a B1a ⊢
  clear T1 L1 B1
  obtain ⟨a0, a1, a2, a3, a4, a5, a6, a7, a8, a9, a10, a11, a12, a13⟩ := parts_b L1a.out
  go_upto_region 7 with (first
    | (go_at_call 14; (with_reducible refine (H2.out _ _ T1a.out).mono ?_); rintro e V2 ⟨rfl, hT, hF⟩
       (have T2 := Lib.hid hT; have L2 := Lib.hid (fr_parts L1a.out hF); have B2 := Lib.hid (B1a.out.trans hF.below); clear hT hF a0 a1 a2 a3 a4 a5 a6 a7 a8 a9 a10 a11 a12 a13)))
  have T2a : Hid (TabAt w.heap.size (V2.alloc Q.obj) tp ((4 : Nat) : Int) 5 S2) := T2.out.alloc _
  have L2a : Hid ((V2.alloc Q.obj).heap[g]? = some (partsC A B)) := lies_alloc L2.out _
  have B2a : Hid (Below w.heap.size w (V2.alloc Q.obj)) := B2.out.alloc B2.out.size _
  have Q2a : Hid ((V2.alloc Q.obj).heap[V2.heap.size]? = some Q.obj) := heap_alloc_new V2 _
  generalize V2.alloc Q.obj = W2 at T2a L2a B2a Q2a ⊢
  generalize V2.heap.size = qb at Q2a ⊢
  clear T2 L2 B2
  obtain ⟨a0, a1, a2, a3, a4, a5, a6, a7, a8, a9, a10, a11, a12, a13⟩ := parts_a L2a.out
  go_upto_region 8 with (first
    | (go_at_call 14; (with_reducible refine (H3.out _ _ T2a.out).mono ?_); rintro e V3 ⟨rfl, hT, hF⟩
       (have T3 := Lib.hid hT; have L3 := Lib.hid (fr_parts L2a.out hF); have B3 := Lib.hid (B2a.out.trans hF.below); have Q3 := Lib.hid (fr_pk Q2a.out hF); clear hT hF a0 a1 a2 a3 a4 a5 a6 a7 a8 a9 a10 a11 a12 a13)))
  obtain ⟨a0, a1, a2, a3, a4, a5, a6, a7, a8, a9, a10, a11, a12, a13⟩ := parts_b L3.out
  go_upto_region 9 with (first
    | (go_at_call 14; (with_reducible refine (H4.out _ _ T3.out).mono ?_); rintro e V4 ⟨rfl, hT, hF⟩
       (have T4 := Lib.hid hT; have B4 := Lib.hid (B3.out.trans hF.below); have Q4 := Lib.hid (fr_pk Q3.out hF); clear hT hF a0 a1 a2 a3 a4 a5 a6 a7 a8 a9 a10 a11 a12 a13)))
  have T4a : Hid (TabAt w.heap.size (V4.alloc Z2.obj) tp ((4 : Nat) : Int) 5 S4) := T4.out.alloc _
  have B4a : Hid (Below w.heap.size w (V4.alloc Z2.obj)) := B4.out.alloc B4.out.size _
  have Q4a : Hid ((V4.alloc Z2.obj).heap[qb]? = some Q.obj) := lies_alloc Q4.out _
  generalize V4.alloc Z2.obj = W4 at T4a B4a Q4a ⊢
  have hq13 : W4.cell? ⟨qb, 13, none⟩ = some (.string Q.s) := lies_cell Q4a.out 13
  go_wp2_with (first
    | (go_at_call 18; (with_reducible refine (HD.out _ _ T4a.out).mono ?_); rintro e V5 ⟨rfl, hV5⟩))
  go_returns
  subst hV5
  exact ⟨rfl, B4a.out⟩
end Go.Proofs.Ytgdjcoodjdckkaa
/- Addresses of IP are compared. -/
namespace Go.Proofs.Ytgdjcoodjdckkaa
open Go.RowKit Go.Proofs.PitotIp

theorem eq4 (n : Nat) (a b c d a' b' c' d' : Int) (w : World) :
    (Go.Op.equalIn (n + 2) 32 (.agg #[.int .u8 a, .int .u8 b, .int .u8 c, .int .u8 d]) (.agg #[.int .u8 a', .int .u8 b', .int .u8 c', .int .u8 d'])).run Try.prog w =
      .ok (a == a' && b == b' && c == c' && d == d') w := by
  obtain ⟨i, hi, hz0, hz1, hz2⟩ := info_parts (show (Try.prog.info? 5).map (fun i => (i.zero, i.size, i.bytes)) = some (some (.int .u8 0), 1, 1) by kernel_rfl)
  have hc : Try.prog.cellsOf 5 = 1 := by kernel_rfl
  rw [run_equalIn_array w (n + 1) _ _ Try.underlying32 hi, hc]
  have hE : ∀ (x y : Int) (w : World), (Go.Op.equalIn (n + 1) 5 (.int .u8 x) (.int .u8 y)).run Try.prog w = .ok (x == y) w := fun x y w => run_equalIn_int w n 5 .u8 .u8 x y Try.underlying5
  simp [Go.Op.eqItems, List.range, List.range.loop, part, hE]
  by_cases h1 : a = a' <;> simp [h1]
  by_cases h2 : b = b' <;> simp [h2]
  by_cases h3 : c = c' <;> simp [h3]
  by_cases h4 : d = d' <;> simp [h4]

theorem same9 (q : Q4) (w : World) : (Go.Op.equalIn 9999 32 (.agg #[.int .u8 q.a.toNat, .int .u8 q.b.toNat, .int .u8 q.c.toNat, .int .u8 q.d.toNat]) (.agg #[.int .u8 q.a.toNat, .int .u8 q.b.toNat, .int .u8 q.c.toNat, .int .u8 q.d.toNat])).run Try.prog w = .ok true w := by
  rw [eq4 9997]; simp
theorem zero9 (w : World) : (Go.Op.equalIn 9999 32 (.agg #[.int .u8 0, .int .u8 0, .int .u8 0, .int .u8 0]) (.agg #[.int .u8 0, .int .u8 0, .int .u8 0, .int .u8 0])).run Try.prog w = .ok true w := by
  rw [eq4 9997]; rfl
theorem zero10 (w : World) : (Go.Op.equalIn 10000 32 (.agg #[.int .u8 0, .int .u8 0, .int .u8 0, .int .u8 0]) (.agg #[.int .u8 0, .int .u8 0, .int .u8 0, .int .u8 0])).run Try.prog w = .ok true w := by
  rw [eq4 9998]; rfl
end Go.Proofs.Ytgdjcoodjdckkaa
