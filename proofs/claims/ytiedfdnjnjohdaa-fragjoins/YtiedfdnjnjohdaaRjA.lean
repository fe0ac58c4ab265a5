/- Contract of the document's Join, where parts are of two packets. -/
import Derived.Test.YtiedfdnjnjohdaaRa
set_option maxRecDepth 100000
namespace Go.Proofs.Ytiedfdnjnjohdaa
open Go.RowKit Go.Proofs.PitotFrag Go.Proofs.PitotIp
open Go.Proofs.Ytiedfdnjnjohdaa.Bi (lies_lt lies_cell lies_frozen lies_alloc lies_set)

set_option maxHeartbeats 8000000 in
theorem refJoin_A (g cap : Nat) (l : List Pk) (w : World) (hx : ∀ i (h : i < l.length), RkAt w g (i * 8) (pln l[i])) (hg : g < w.heap.size) (hl : l.length ≤ 50) (hz : ∀ p ∈ l, p.s.size ≤ 2000) (n : Nat) (hn : n = l.length) (h0 : 0 < l.length) (hal : alike l = false) :
    Calls Try.prog 20 #[.slice (some ⟨g, 0, none⟩) n cap] w fun e w' => e = .returned (.tuple #[rjv l, .int .i64 (jn l).2]) ∧ Below w.heap.size w w' := by
  obtain ⟨RV, HRV⟩ : ∃ RV, Hid (rjv l = RV) := ⟨_, rfl⟩
  obtain ⟨RE, HRE⟩ : ∃ RE, Hid ((jn l).2 = RE) := ⟨_, rfl⟩
  rw [HRV.out, HRE.out]
  have HNO : Hid (∀ (E : Int), ¬ E = 0 → jn l = (pkN, E) → Ending.returned (.tuple #[rp0, .int .i64 E]) = Ending.returned (.tuple #[RV, .int .i64 RE])) := fun E hE h => by
    rw [← HRV.out, ← HRE.out, rjv, h, if_neg hE]
  have D0 := hx 0 h0
  rw [Nat.zero_mul] at D0
  obtain ⟨P0, HP0⟩ : ∃ P, Hid (∀ h : 0 < l.length, l[0]'h = P) := ⟨l[0], fun _ => rfl⟩
  rw [HP0.out h0] at D0
  have Hn := Lib.hid hn
  have H0 := Lib.hid h0
  have HX := Lib.hid hx
  have HZ := Lib.hid hz
  rw [← hn] at hl
  have hpos : 0 < n := by rw [hn]; exact h0
  have hpos' : (0 : Int) < (n : Int) := by omega
  obtain ⟨c, hc⟩ : ∃ c, n = c + 1 := ⟨n - 1, by omega⟩
  have z1 : (n : Int) - 1 = (c : Int) := by omega
  have Hcn := Lib.hid hc
  have i1 : (c : Int) < (n : Int) := by omega
  have HAL0 := Lib.hid hal
  clear hal
  clear hx h0 hn hz hc
  obtain ⟨i0, m0, o0, t0, r0', a0, b0, s0⟩ := P0
  have HD0 : Hid (RkAt w g 0 ⟨i0, m0, o0, t0, r0', ipB a0, ipB b0, s0⟩) := D0
  clear D0
  go_enter Try.func20, Try.ntmps20
  go_wp2
  go_loopw [4] (fun v4 wr => ∃ (k : Nat), k ≤ n ∧ v4 = .int .i64 k ∧ Hid (wr.heap[w.heap.size]? = some rpz) ∧ Below w.heap.size w wr ∧ Hid ((l.take k).all (fun q => pkb (com q) ⟨i0, false, 0, t0, r0', a0, b0, ⟨#[]⟩⟩) = true)) (fun v4 _ => n - (intOf v4).toNat)
  case atStart => exact ⟨0, Nat.zero_le _, rfl, heap_alloc_new w _, (Below.refl _ w).alloc (Nat.le_refl _) _, by show _ = _; simp⟩
  case round =>
    obtain ⟨k, hk, rfl, HL, hb, HAL⟩ := hrel
    obtain ⟨d0, d1, d2, d3, d4, d5, d6, d7⟩ := HD0.out.below hb hg
    simp only at d0 d1 d2 d3 d4 d5 d6 d7
    by_cases hlt : k < n
    · have hlt' : k < l.length := by rw [← Hn.out]; exact hlt
      have hc2 := (HX.out k hlt').below hb hg
      have hkn : (k : Int) < (n : Int) := by omega
      have HAN : Hid (¬ com l[k] = ⟨i0, false, 0, t0, r0', a0, b0, ⟨#[]⟩⟩ → jn l = (pkN, 15)) := fun h => jn_alike H0.out (alike_no hlt' (by rw [HP0.out _]; exact pkb_ne h))
      have HAY : Hid (com l[k] = ⟨i0, false, 0, t0, r0', a0, b0, ⟨#[]⟩⟩ → (l.take (k + 1)).all (fun q => pkb (com q) ⟨i0, false, 0, t0, r0', a0, b0, ⟨#[]⟩⟩) = true) := fun h => by
        rw [List.take_succ_eq_append_getElem hlt', List.all_append, HAL.out]; simpa using (pkb_iff _ _).2 h
      generalize l[k] = p at hc2 HAN HAY
      obtain ⟨id, m, of, ttl, pr, a, b', s⟩ := p
      obtain ⟨c0, c1, c2, c3, c4, c5, c6, c7⟩ := hc2
      simp only [pln] at c0 c1 c2 c3 c4 c5 c6 c7
      have HAN : Hid ((id = i0 → ttl = t0 → pr = r0' → a = a0 → b' = b0 → False) → Ending.returned (.tuple #[rp0, .int .i64 15]) = Ending.returned (.tuple #[RV, .int .i64 RE])) := fun h => HNO.out _ (by omega) (HAN.out fun e => by
        simp only [com, Pk.mk.injEq] at e
        exact h e.1 e.2.2.2.1 e.2.2.2.2.1 e.2.2.2.2.2.1 e.2.2.2.2.2.2.1)
      by_cases g1 : id = i0
      · subst g1
        by_cases g2 : ttl = t0
        · subst g2
          by_cases g3 : pr = r0'
          · subst g3
            by_cases g4 : a = a0
            · subst g4
              by_cases g5 : b' = b0
              · subst g5
                have HAY := Lib.hid (HAY.out rfl)
                generalize ipB a = I1 at *
                generalize ipB b' = I2 at *
                go_upto_region 6 with fail
                go_quiet (fail)
                have LX0 : (wr.drewN nq).heap[w.heap.size]? = some rpz := HL.out
                have kX : Hid (Below w.heap.size w (wr.drewN nq)) := below_drewN hb nq
                generalize wr.drewN nq = X at LX0 kX ⊢
                clear c0 c1 c2 c3 c4 c5 c6 c7 d0 d1 d2 d3 d4 d5 d6 d7
                have LX0 := Lib.hid LX0
                go_wp2
                go_roundw
                case rel => exact ⟨k + 1, by omega, by go_num, LX0, kX.out, HAY.out⟩
                case measure => simp [intOf]; omega
              · have hE := Lib.hid (HAN.out fun _ _ _ _ e => g5 e)
                have hd := ipB_ne g5
                generalize ipB a = I1 at *
                generalize ipB b' = I2 at *
                generalize ipB b0 = I3 at *
                go_upto_region 6 with fail
                go_quiet (fail)
                have LX0 : (wr.drewN nq).heap[w.heap.size]? = some rpz := HL.out
                have kX : Hid (Below w.heap.size w (wr.drewN nq)) := below_drewN hb nq
                generalize wr.drewN nq = X at LX0 kX ⊢
                clear c0 c1 c2 c3 c4 c5 c6 c7 d0 d1 d2 d3 d4 d5 d6 d7
                obtain ⟨r0, r1, r2, r3, r4, r5, r6, r7⟩ := cells8 LX0
                have f0 := lies_frozen LX0 0
                have f1 := lies_frozen LX0 1
                have f2 := lies_frozen LX0 2
                have f3 := lies_frozen LX0 3
                have f4 := lies_frozen LX0 4
                have f5 := lies_frozen LX0 5
                have f6 := lies_frozen LX0 6
                have f7 := lies_frozen LX0 7
                have LX := Lib.hid LX0
                clear LX0
                go_wp2
                (try simp only [Exit.inBlock, Exit.then])
                obtain ⟨k0, k1, k2, k3, k4, k5, k6, k7, E8⟩ := read_8 (y0 := .int .i64 0) (y1 := .bool false) (y2 := .int .i64 0) (y3 := .int .i64 0) (y4 := .int .i64 0) (y5 := .string ⟨#[]⟩) (y6 := .string ⟨#[]⟩) (y7 := .string ⟨#[]⟩) LX.out
                refine bodyPost_ret (by simp [results, Try.results20, go_sem, k0, k1, k2, k3, k4, k5, k6, k7]; try rfl) rfl ?_
                exact ⟨hE.out, below_8 kX.out (Nat.le_refl _) _ _ _ _ _ _ _ _⟩
            · have hE := Lib.hid (HAN.out fun _ _ _ e _ => g4 e)
              have hd := ipB_ne g4
              generalize ipB a = I1 at *
              generalize ipB a0 = I3 at *
              generalize ipB b' = I2 at *
              generalize ipB b0 = I4 at *
              go_upto_region 6 with fail
              go_quiet (fail)
              have LX0 : (wr.drewN nq).heap[w.heap.size]? = some rpz := HL.out
              have kX : Hid (Below w.heap.size w (wr.drewN nq)) := below_drewN hb nq
              generalize wr.drewN nq = X at LX0 kX ⊢
              clear c0 c1 c2 c3 c4 c5 c6 c7 d0 d1 d2 d3 d4 d5 d6 d7
              obtain ⟨r0, r1, r2, r3, r4, r5, r6, r7⟩ := cells8 LX0
              have f0 := lies_frozen LX0 0
              have f1 := lies_frozen LX0 1
              have f2 := lies_frozen LX0 2
              have f3 := lies_frozen LX0 3
              have f4 := lies_frozen LX0 4
              have f5 := lies_frozen LX0 5
              have f6 := lies_frozen LX0 6
              have f7 := lies_frozen LX0 7
              have LX := Lib.hid LX0
              clear LX0
              go_wp2
              (try simp only [Exit.inBlock, Exit.then])
              obtain ⟨k0, k1, k2, k3, k4, k5, k6, k7, E8⟩ := read_8 (y0 := .int .i64 0) (y1 := .bool false) (y2 := .int .i64 0) (y3 := .int .i64 0) (y4 := .int .i64 0) (y5 := .string ⟨#[]⟩) (y6 := .string ⟨#[]⟩) (y7 := .string ⟨#[]⟩) LX.out
              refine bodyPost_ret (by simp [results, Try.results20, go_sem, k0, k1, k2, k3, k4, k5, k6, k7]; try rfl) rfl ?_
              exact ⟨hE.out, below_8 kX.out (Nat.le_refl _) _ _ _ _ _ _ _ _⟩
          · have hE := Lib.hid (HAN.out fun _ _ e _ _ => g3 e)
            have hd : (pr != r0') = true := by simpa using g3
            go_upto_region 6 with fail
            go_quiet (fail)
            have LX0 : (wr.drewN nq).heap[w.heap.size]? = some rpz := HL.out
            have kX : Hid (Below w.heap.size w (wr.drewN nq)) := below_drewN hb nq
            generalize wr.drewN nq = X at LX0 kX ⊢
            clear c0 c1 c2 c3 c4 c5 c6 c7 d0 d1 d2 d3 d4 d5 d6 d7
            obtain ⟨r0, r1, r2, r3, r4, r5, r6, r7⟩ := cells8 LX0
            have f0 := lies_frozen LX0 0
            have f1 := lies_frozen LX0 1
            have f2 := lies_frozen LX0 2
            have f3 := lies_frozen LX0 3
            have f4 := lies_frozen LX0 4
            have f5 := lies_frozen LX0 5
            have f6 := lies_frozen LX0 6
            have f7 := lies_frozen LX0 7
            have LX := Lib.hid LX0
            clear LX0
            go_wp2
            (try simp only [Exit.inBlock, Exit.then])
            obtain ⟨k0, k1, k2, k3, k4, k5, k6, k7, E8⟩ := read_8 (y0 := .int .i64 0) (y1 := .bool false) (y2 := .int .i64 0) (y3 := .int .i64 0) (y4 := .int .i64 0) (y5 := .string ⟨#[]⟩) (y6 := .string ⟨#[]⟩) (y7 := .string ⟨#[]⟩) LX.out
            refine bodyPost_ret (by simp [results, Try.results20, go_sem, k0, k1, k2, k3, k4, k5, k6, k7]; try rfl) rfl ?_
            exact ⟨hE.out, below_8 kX.out (Nat.le_refl _) _ _ _ _ _ _ _ _⟩
        · have hE := Lib.hid (HAN.out fun _ e _ _ _ => g2 e)
          have hd : (ttl != t0) = true := by simpa using g2
          go_upto_region 6 with fail
          go_quiet (fail)
          have LX0 : (wr.drewN nq).heap[w.heap.size]? = some rpz := HL.out
          have kX : Hid (Below w.heap.size w (wr.drewN nq)) := below_drewN hb nq
          generalize wr.drewN nq = X at LX0 kX ⊢
          clear c0 c1 c2 c3 c4 c5 c6 c7 d0 d1 d2 d3 d4 d5 d6 d7
          obtain ⟨r0, r1, r2, r3, r4, r5, r6, r7⟩ := cells8 LX0
          have f0 := lies_frozen LX0 0
          have f1 := lies_frozen LX0 1
          have f2 := lies_frozen LX0 2
          have f3 := lies_frozen LX0 3
          have f4 := lies_frozen LX0 4
          have f5 := lies_frozen LX0 5
          have f6 := lies_frozen LX0 6
          have f7 := lies_frozen LX0 7
          have LX := Lib.hid LX0
          clear LX0
          go_wp2
          (try simp only [Exit.inBlock, Exit.then])
          obtain ⟨k0, k1, k2, k3, k4, k5, k6, k7, E8⟩ := read_8 (y0 := .int .i64 0) (y1 := .bool false) (y2 := .int .i64 0) (y3 := .int .i64 0) (y4 := .int .i64 0) (y5 := .string ⟨#[]⟩) (y6 := .string ⟨#[]⟩) (y7 := .string ⟨#[]⟩) LX.out
          refine bodyPost_ret (by simp [results, Try.results20, go_sem, k0, k1, k2, k3, k4, k5, k6, k7]; try rfl) rfl ?_
          exact ⟨hE.out, below_8 kX.out (Nat.le_refl _) _ _ _ _ _ _ _ _⟩
      · have hE := Lib.hid (HAN.out fun e _ _ _ _ => g1 e)
        have hd : (id != i0) = true := by simpa using g1
        go_upto_region 6 with fail
        go_quiet (fail)
        have LX0 : (wr.drewN nq).heap[w.heap.size]? = some rpz := HL.out
        have kX : Hid (Below w.heap.size w (wr.drewN nq)) := below_drewN hb nq
        generalize wr.drewN nq = X at LX0 kX ⊢
        clear c0 c1 c2 c3 c4 c5 c6 c7 d0 d1 d2 d3 d4 d5 d6 d7
        obtain ⟨r0, r1, r2, r3, r4, r5, r6, r7⟩ := cells8 LX0
        have f0 := lies_frozen LX0 0
        have f1 := lies_frozen LX0 1
        have f2 := lies_frozen LX0 2
        have f3 := lies_frozen LX0 3
        have f4 := lies_frozen LX0 4
        have f5 := lies_frozen LX0 5
        have f6 := lies_frozen LX0 6
        have f7 := lies_frozen LX0 7
        have LX := Lib.hid LX0
        clear LX0
        go_wp2
        (try simp only [Exit.inBlock, Exit.then])
        obtain ⟨k0, k1, k2, k3, k4, k5, k6, k7, E8⟩ := read_8 (y0 := .int .i64 0) (y1 := .bool false) (y2 := .int .i64 0) (y3 := .int .i64 0) (y4 := .int .i64 0) (y5 := .string ⟨#[]⟩) (y6 := .string ⟨#[]⟩) (y7 := .string ⟨#[]⟩) LX.out
        refine bodyPost_ret (by simp [results, Try.results20, go_sem, k0, k1, k2, k3, k4, k5, k6, k7]; try rfl) rfl ?_
        exact ⟨hE.out, below_8 kX.out (Nat.le_refl _) _ _ _ _ _ _ _ _⟩
    · obtain rfl : k = n := by omega
      have HAK : Hid (alike l = true) := alike_yes H0.out (by
        have h := HAL.out
        rw [List.take_of_length_le (by rw [← Hn.out]; omega)] at h
        rw [HP0.out _]; exact h)
      exact absurd HAK.out (by rw [HAL0.out]; simp)
end Go.Proofs.Ytiedfdnjnjohdaa
