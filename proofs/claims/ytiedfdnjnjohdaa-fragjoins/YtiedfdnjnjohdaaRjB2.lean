/- Contract of the document's Join, where parts are not in order. -/
import Derived.Test.YtiedfdnjnjohdaaRa
set_option maxRecDepth 100000
namespace Go.Proofs.Ytiedfdnjnjohdaa
open Go.RowKit Go.Proofs.PitotFrag Go.Proofs.PitotIp
open Go.Proofs.Ytiedfdnjnjohdaa.Bi (lies_lt lies_cell lies_frozen lies_alloc lies_set)

set_option maxHeartbeats 8000000 in
theorem refJoin_B2 (g cap : Nat) (l : List Pk) (w : World) (hx : ∀ i (h : i < l.length), RkAt w g (i * 8) (pln l[i])) (hg : g < w.heap.size) (hl : l.length ≤ 50) (hz : ∀ p ∈ l, p.s.size ≤ 2000) (n : Nat) (hn : n = l.length) (h0 : 0 < l.length) (hal : alike l = true) (hM : ¬ (ms l 0).2 = 0) :
    Calls Try.prog 20 #[.slice (some ⟨g, 0, none⟩) n cap] w fun e w' => e = .returned (.tuple #[rjv l, .int .i64 (jn l).2]) ∧ Below w.heap.size w w' := by
  obtain ⟨RV, HRV⟩ : ∃ RV, Hid (rjv l = RV) := ⟨_, rfl⟩
  obtain ⟨RE, HRE⟩ : ∃ RE, Hid ((jn l).2 = RE) := ⟨_, rfl⟩
  rw [HRV.out, HRE.out]
  have HNO : Hid (∀ (E : Int), ¬ E = 0 → jn l = (pkN, E) → Ending.returned (.tuple #[rp0, .int .i64 E]) = Ending.returned (.tuple #[RV, .int .i64 RE])) := fun E hE h => by
    rw [← HRV.out, ← HRE.out, rjv, h, if_neg hE]
  have D0 := hx 0 h0
  rw [Nat.zero_mul] at D0
  obtain ⟨P0, HP0⟩ : ∃ P, Hid (∀ h : 0 < l.length, l[0]'h = P) := ⟨l[0], fun _ => rfl⟩
  rw [HP0.out h0] at D0
  have Hn := Lib.hid hn
  have H0 := Lib.hid h0
  have HX := Lib.hid hx
  have HZ := Lib.hid hz
  rw [← hn] at hl
  have hpos : 0 < n := by rw [hn]; exact h0
  have hpos' : (0 : Int) < (n : Int) := by omega
  obtain ⟨c, hc⟩ : ∃ c, n = c + 1 := ⟨n - 1, by omega⟩
  have z1 : (n : Int) - 1 = (c : Int) := by omega
  have Hcn := Lib.hid hc
  have i1 : (c : Int) < (n : Int) := by omega
  have HAL0 := Lib.hid hal
  clear hal
  have HM0 := Lib.hid hM
  clear hM
  clear hx h0 hn hz hc
  obtain ⟨i0, m0, o0, t0, r0', a0, b0, s0⟩ := P0
  have HD0 : Hid (RkAt w g 0 ⟨i0, m0, o0, t0, r0', ipB a0, ipB b0, s0⟩) := D0
  clear D0
  go_enter Try.func20, Try.ntmps20
  go_wp2
  go_loopw [4] (fun v4 wr => ∃ (k : Nat), k ≤ n ∧ v4 = .int .i64 k ∧ Hid (wr.heap[w.heap.size]? = some rpz) ∧ Below w.heap.size w wr ∧ Hid ((l.take k).all (fun q => pkb (com q) ⟨i0, false, 0, t0, r0', a0, b0, ⟨#[]⟩⟩) = true)) (fun v4 _ => n - (intOf v4).toNat)
  case atStart => exact ⟨0, Nat.zero_le _, rfl, heap_alloc_new w _, (Below.refl _ w).alloc (Nat.le_refl _) _, by show _ = _; simp⟩
  case round =>
    obtain ⟨k, hk, rfl, HL, hb, HAL⟩ := hrel
    obtain ⟨d0, d1, d2, d3, d4, d5, d6, d7⟩ := HD0.out.below hb hg
    simp only at d0 d1 d2 d3 d4 d5 d6 d7
    by_cases hlt : k < n
    · have hlt' : k < l.length := by rw [← Hn.out]; exact hlt
      have hc2 := (HX.out k hlt').below hb hg
      have hkn : (k : Int) < (n : Int) := by omega
      have HAN : Hid (¬ com l[k] = ⟨i0, false, 0, t0, r0', a0, b0, ⟨#[]⟩⟩ → False) := fun h => absurd (alike_no hlt' (by rw [HP0.out _]; exact pkb_ne h)) (by rw [HAL0.out]; simp)
      have HAY : Hid (com l[k] = ⟨i0, false, 0, t0, r0', a0, b0, ⟨#[]⟩⟩ → (l.take (k + 1)).all (fun q => pkb (com q) ⟨i0, false, 0, t0, r0', a0, b0, ⟨#[]⟩⟩) = true) := fun h => by
        rw [List.take_succ_eq_append_getElem hlt', List.all_append, HAL.out]; simpa using (pkb_iff _ _).2 h
      generalize l[k] = p at hc2 HAN HAY
      obtain ⟨id, m, of, ttl, pr, a, b', s⟩ := p
      obtain ⟨c0, c1, c2, c3, c4, c5, c6, c7⟩ := hc2
      simp only [pln] at c0 c1 c2 c3 c4 c5 c6 c7
      have HAN : Hid ((id = i0 → ttl = t0 → pr = r0' → a = a0 → b' = b0 → False) → False) := fun h => (HAN.out fun e => by
        simp only [com, Pk.mk.injEq] at e
        exact h e.1 e.2.2.2.1 e.2.2.2.2.1 e.2.2.2.2.2.1 e.2.2.2.2.2.2.1)
      by_cases g1 : id = i0
      · subst g1
        by_cases g2 : ttl = t0
        · subst g2
          by_cases g3 : pr = r0'
          · subst g3
            by_cases g4 : a = a0
            · subst g4
              by_cases g5 : b' = b0
              · subst g5
                have HAY := Lib.hid (HAY.out rfl)
                generalize ipB a = I1 at *
                generalize ipB b' = I2 at *
                go_upto_region 6 with fail
                go_quiet (fail)
                have LX0 : (wr.drewN nq).heap[w.heap.size]? = some rpz := HL.out
                have kX : Hid (Below w.heap.size w (wr.drewN nq)) := below_drewN hb nq
                generalize wr.drewN nq = X at LX0 kX ⊢
                clear c0 c1 c2 c3 c4 c5 c6 c7 d0 d1 d2 d3 d4 d5 d6 d7
                have LX0 := Lib.hid LX0
                go_wp2
                go_roundw
                case rel => exact ⟨k + 1, by omega, by go_num, LX0, kX.out, HAY.out⟩
                case measure => simp [intOf]; omega
              · have hE := Lib.hid (HAN.out fun _ _ _ _ e => g5 e)
                have hd := ipB_ne g5
                generalize ipB a = I1 at *
                generalize ipB b' = I2 at *
                generalize ipB b0 = I3 at *
                exact hE.out.elim
            · have hE := Lib.hid (HAN.out fun _ _ _ e _ => g4 e)
              have hd := ipB_ne g4
              generalize ipB a = I1 at *
              generalize ipB a0 = I3 at *
              generalize ipB b' = I2 at *
              generalize ipB b0 = I4 at *
              exact hE.out.elim
          · have hE := Lib.hid (HAN.out fun _ _ e _ _ => g3 e)
            have hd : (pr != r0') = true := by simpa using g3
            exact hE.out.elim
        · have hE := Lib.hid (HAN.out fun _ e _ _ _ => g2 e)
          have hd : (ttl != t0) = true := by simpa using g2
          exact hE.out.elim
      · have hE := Lib.hid (HAN.out fun e _ _ _ _ => g1 e)
        have hd : (id != i0) = true := by simpa using g1
        exact hE.out.elim
    · obtain rfl : k = n := by omega
      have HAK : Hid (alike l = true) := alike_yes H0.out (by
        have h := HAL.out
        rw [List.take_of_length_le (by rw [← Hn.out]; omega)] at h
        rw [HP0.out _]; exact h)
      clear HAL d0 d1 d2 d3 d4 d5 d6 d7
      go_wp2
      go_loop [5, 6] (fun v5 v6 => ∃ (j : Nat) (AL : ByteArray), j ≤ k ∧ v6 = .int .i64 j ∧ v5 = .string AL ∧ Hid (AL = bl (catP (l.take j))) ∧ AL.size ≤ j * 2000 ∧ (j < k → AL.size % 8 = 0) ∧ Hid (ms (l.drop j) AL.size = ms l 0)) (fun _ v6 => k - (intOf v6).toNat)
      case atStart => exact ⟨0, ⟨#[]⟩, Nat.zero_le _, rfl, rfl, rfl, by show (0 : Nat) ≤ _; omega, fun _ => rfl, rfl⟩
      case round =>
        obtain ⟨j, AL, hj, rfl, rfl, HAL, hAs, hA8, ht⟩ := hrel
        by_cases hlt2 : j < k
        · have hlt' : j < l.length := by rw [← Hn.out]; exact hlt2
          have hA8 := hA8 hlt2
          have hAb : AL.size ≤ 100000 := by have : j * 2000 ≤ 50 * 2000 := Nat.mul_le_mul_right _ (by omega); omega
          have hjk : (j : Int) < (k : Int) := by omega
          have hc2 := (HX.out j hlt').below hb hg
          have hsz := HZ.out l[j] (List.getElem_mem hlt')
          have hcs := ms_cons hlt' AL.size
          rw [ht.out, ← Hn.out] at hcs
          have HCAT : Hid (bl (catP (l.take (j + 1))) = bl (catP (l.take j) ++ l[j].s.data.toList)) := by show _ = _; rw [List.take_succ_eq_append_getElem hlt', catP_snoc]
          generalize l[j] = p at hc2 hsz hcs HCAT
          have HBAD : Hid (∀ E : Int, ¬ E = 0 → jd p AL.size (decide (j + 1 = k)) = E → Ending.returned (.tuple #[rp0, .int .i64 E]) = Ending.returned (.tuple #[RV, .int .i64 RE])) := fun E hE h => by
            rw [h, if_neg hE] at hcs
            refine HNO.out E hE ?_
            rw [jn_ms H0.out HAK.out (by rw [hcs]; exact hE), hcs]
          have HGOOD : Hid (jd p AL.size (decide (j + 1 = k)) = 0 → ms (l.drop (j + 1)) (AL.size + p.s.size) = ms l 0) := fun h => by
            rw [h, if_pos rfl] at hcs
            exact hcs.symm
          clear hcs
          obtain ⟨id, m, of, ttl, pr, a, b', s⟩ := p
          obtain ⟨c0, c1, c2, c3, c4, c5, c6, c7⟩ := hc2
          simp only [pln] at c0 c1 c2 c3 c4 c5 c6 c7 hsz
          clear c0 c3 c4 c5 c6
          have LXR := HL.out
          have kX := Lib.hid hb
          by_cases g1 : of < 0
          · have hE := Lib.hid (HBAD.out 25 (by omega) (by unfold jd; rw [if_pos (by simp only; omega)]))
            have hd : decide (of < 0) = true := decide_eq_true g1
            clear HBAD HGOOD
            obtain ⟨r0, r1, r2, r3, r4, r5, r6, r7⟩ := cells8 LXR
            have f0 := lies_frozen LXR 0
            have f1 := lies_frozen LXR 1
            have f2 := lies_frozen LXR 2
            have f3 := lies_frozen LXR 3
            have f4 := lies_frozen LXR 4
            have f5 := lies_frozen LXR 5
            have f6 := lies_frozen LXR 6
            have f7 := lies_frozen LXR 7
            have LX := Lib.hid LXR
            clear LXR
            go_wp2
            (try simp only [Exit.inBlock, Exit.then])
            obtain ⟨k0, k1, k2, k3, k4, k5, k6, k7, E8⟩ := read_8 (y0 := .int .i64 0) (y1 := .bool false) (y2 := .int .i64 0) (y3 := .int .i64 0) (y4 := .int .i64 0) (y5 := .string ⟨#[]⟩) (y6 := .string ⟨#[]⟩) (y7 := .string ⟨#[]⟩) LX.out
            refine bodyPost_ret (by simp [results, Try.results20, go_sem, k0, k1, k2, k3, k4, k5, k6, k7]; try rfl) rfl ?_
            exact ⟨hE.out, below_8 kX.out (Nat.le_refl _) _ _ _ _ _ _ _ _⟩
          · by_cases g2 : 65536 < of
            · have hE := Lib.hid (HBAD.out 25 (by omega) (by unfold jd; rw [if_pos (by simp only; omega)]))
              have hd : decide (of < 0) = false := decide_eq_false g1
              have hd2 : decide (65536 < of) = true := decide_eq_true g2
              clear HBAD HGOOD
              obtain ⟨r0, r1, r2, r3, r4, r5, r6, r7⟩ := cells8 LXR
              have f0 := lies_frozen LXR 0
              have f1 := lies_frozen LXR 1
              have f2 := lies_frozen LXR 2
              have f3 := lies_frozen LXR 3
              have f4 := lies_frozen LXR 4
              have f5 := lies_frozen LXR 5
              have f6 := lies_frozen LXR 6
              have f7 := lies_frozen LXR 7
              have LX := Lib.hid LXR
              clear LXR
              go_wp2
              (try simp only [Exit.inBlock, Exit.then])
              obtain ⟨k0, k1, k2, k3, k4, k5, k6, k7, E8⟩ := read_8 (y0 := .int .i64 0) (y1 := .bool false) (y2 := .int .i64 0) (y3 := .int .i64 0) (y4 := .int .i64 0) (y5 := .string ⟨#[]⟩) (y6 := .string ⟨#[]⟩) (y7 := .string ⟨#[]⟩) LX.out
              refine bodyPost_ret (by simp [results, Try.results20, go_sem, k0, k1, k2, k3, k4, k5, k6, k7]; try rfl) rfl ?_
              exact ⟨hE.out, below_8 kX.out (Nat.le_refl _) _ _ _ _ _ _ _ _⟩
            · have hd : decide (of < 0) = false := decide_eq_false g1
              have hd2 : decide (65536 < of) = false := decide_eq_false g2
              have hw : IntKind.i64.wrap (8 * of) = 8 * of := IntWalk.i64_in _ (by omega)
              by_cases g3 : 8 * of = (AL.size : Int)
              · have hoff : of = ((AL.size / 8 : Nat) : Int) := by omega
                have hd3 : (8 * of != (AL.size : Int)) = false := by simpa using g3
                cases m
                · by_cases g4 : j + 1 = k
                  · have HG := Lib.hid (HGOOD.out (by unfold jd; rw [if_neg (by simp only; omega), if_neg (by simp), if_neg (by simp [g4])]))
                    have hd4 : decide ((j : Int) + 1 < (k : Int)) = false := decide_eq_false (by omega)
                    have hd4' : decide (j + 1 < k) = false := decide_eq_false (by omega)
                    clear HBAD HGOOD hoff
                    have hsum : ¬ 9223372036854775807 < AL.size + s.size := by omega
                    obtain ⟨A2, hA2⟩ : ∃ A2, AL ++ s = A2 := ⟨_, rfl⟩
                    have HA2s : Hid (A2.size = AL.size + s.size) := by show _ = _; rw [← hA2, ByteArray.size_append]
                    have HA2c : Hid (A2 = bl (catP (l.take (j + 1)))) := by
                      show _ = _
                      rw [HCAT.out, ← hA2, HAL.out]
                      apply ByteArray.ext
                      simp [bl, ByteArray.data_append]
                    clear LXR
                    go_wp2
                    go_round
                    case rel =>
                      refine ⟨j + 1, A2, by omega, by go_num, rfl, HA2c, by rw [HA2s.out]; omega, fun h => ?_, ?_⟩
                      · omega
                      · show _ = _; rw [HA2s.out]; exact HG.out
                    case measure => simp [intOf]; omega
                  · have hE := Lib.hid (HBAD.out 25 (by omega) (by unfold jd; rw [if_neg (by simp only; omega), if_neg (by simp), if_pos (by simp [g4])]))
                    have hd4 : decide ((j : Int) + 1 < (k : Int)) = true := decide_eq_true (by omega)
                    have hd4' : decide (j + 1 < k) = true := decide_eq_true (by omega)
                    clear HBAD HGOOD hoff
                    obtain ⟨r0, r1, r2, r3, r4, r5, r6, r7⟩ := cells8 LXR
                    have f0 := lies_frozen LXR 0
                    have f1 := lies_frozen LXR 1
                    have f2 := lies_frozen LXR 2
                    have f3 := lies_frozen LXR 3
                    have f4 := lies_frozen LXR 4
                    have f5 := lies_frozen LXR 5
                    have f6 := lies_frozen LXR 6
                    have f7 := lies_frozen LXR 7
                    have LX := Lib.hid LXR
                    clear LXR
                    go_wp2
                    (try simp only [Exit.inBlock, Exit.then])
                    obtain ⟨k0, k1, k2, k3, k4, k5, k6, k7, E8⟩ := read_8 (y0 := .int .i64 0) (y1 := .bool false) (y2 := .int .i64 0) (y3 := .int .i64 0) (y4 := .int .i64 0) (y5 := .string ⟨#[]⟩) (y6 := .string ⟨#[]⟩) (y7 := .string ⟨#[]⟩) LX.out
                    refine bodyPost_ret (by simp [results, Try.results20, go_sem, k0, k1, k2, k3, k4, k5, k6, k7]; try rfl) rfl ?_
                    exact ⟨hE.out, below_8 kX.out (Nat.le_refl _) _ _ _ _ _ _ _ _⟩
                · by_cases g4 : s.size = 0
                  · have hE := Lib.hid (HBAD.out 15 (by omega) (by unfold jd; rw [if_neg (by simp only; omega), if_pos (by exact ⟨rfl, .inl g4⟩)]))
                    have h3 : (s.toList == []) = true := by
                      have : s.toList = [] := by rw [ByteArray.toList_eq]; exact List.length_eq_zero_iff.1 (by simpa using g4)
                      rw [this]; rfl
                    clear HBAD HGOOD hoff
                    obtain ⟨r0, r1, r2, r3, r4, r5, r6, r7⟩ := cells8 LXR
                    have f0 := lies_frozen LXR 0
                    have f1 := lies_frozen LXR 1
                    have f2 := lies_frozen LXR 2
                    have f3 := lies_frozen LXR 3
                    have f4 := lies_frozen LXR 4
                    have f5 := lies_frozen LXR 5
                    have f6 := lies_frozen LXR 6
                    have f7 := lies_frozen LXR 7
                    have LX := Lib.hid LXR
                    clear LXR
                    go_wp2
                    (try simp only [Exit.inBlock, Exit.then])
                    obtain ⟨k0, k1, k2, k3, k4, k5, k6, k7, E8⟩ := read_8 (y0 := .int .i64 0) (y1 := .bool false) (y2 := .int .i64 0) (y3 := .int .i64 0) (y4 := .int .i64 0) (y5 := .string ⟨#[]⟩) (y6 := .string ⟨#[]⟩) (y7 := .string ⟨#[]⟩) LX.out
                    refine bodyPost_ret (by simp [results, Try.results20, go_sem, k0, k1, k2, k3, k4, k5, k6, k7]; try rfl) rfl ?_
                    exact ⟨hE.out, below_8 kX.out (Nat.le_refl _) _ _ _ _ _ _ _ _⟩
                  · have h3 : (s.toList == []) = false := by
                      have : s.toList ≠ [] := by rw [ByteArray.toList_eq]; intro e; apply g4; have := congrArg List.length e; simpa using this
                      simpa using this
                    by_cases g5 : s.size % 8 = 0
                    · have HG := Lib.hid (HGOOD.out (by unfold jd; rw [if_neg (by simp only; omega), if_neg (by simp only; omega), if_neg (by simp)]))
                      have h5 : (s.size : Int) % 8 = 0 := by omega
                      have h5' : ((s.size : Int) % 8 != 0) = false := by simpa using h5
                      clear HBAD HGOOD hoff
                      have hsum : ¬ 9223372036854775807 < AL.size + s.size := by omega
                      obtain ⟨A2, hA2⟩ : ∃ A2, AL ++ s = A2 := ⟨_, rfl⟩
                      have HA2s : Hid (A2.size = AL.size + s.size) := by show _ = _; rw [← hA2, ByteArray.size_append]
                      have HA2c : Hid (A2 = bl (catP (l.take (j + 1)))) := by
                        show _ = _
                        rw [HCAT.out, ← hA2, HAL.out]
                        apply ByteArray.ext
                        simp [bl, ByteArray.data_append]
                      clear LXR
                      go_wp2
                      go_round
                      case rel =>
                        refine ⟨j + 1, A2, by omega, by go_num, rfl, HA2c, by rw [HA2s.out]; omega, fun h => ?_, ?_⟩
                        · rw [HA2s.out]; omega
                        · show _ = _; rw [HA2s.out]; exact HG.out
                      case measure => simp [intOf]; omega
                    · have hE := Lib.hid (HBAD.out 15 (by omega) (by unfold jd; rw [if_neg (by simp only; omega), if_pos (by exact ⟨rfl, .inr g5⟩)]))
                      have h5 : ¬ (s.size : Int) % 8 = 0 := by omega
                      have h5' : ((s.size : Int) % 8 != 0) = true := by simpa using h5
                      clear HBAD HGOOD hoff
                      obtain ⟨r0, r1, r2, r3, r4, r5, r6, r7⟩ := cells8 LXR
                      have f0 := lies_frozen LXR 0
                      have f1 := lies_frozen LXR 1
                      have f2 := lies_frozen LXR 2
                      have f3 := lies_frozen LXR 3
                      have f4 := lies_frozen LXR 4
                      have f5 := lies_frozen LXR 5
                      have f6 := lies_frozen LXR 6
                      have f7 := lies_frozen LXR 7
                      have LX := Lib.hid LXR
                      clear LXR
                      go_wp2
                      (try simp only [Exit.inBlock, Exit.then])
                      obtain ⟨k0, k1, k2, k3, k4, k5, k6, k7, E8⟩ := read_8 (y0 := .int .i64 0) (y1 := .bool false) (y2 := .int .i64 0) (y3 := .int .i64 0) (y4 := .int .i64 0) (y5 := .string ⟨#[]⟩) (y6 := .string ⟨#[]⟩) (y7 := .string ⟨#[]⟩) LX.out
                      refine bodyPost_ret (by simp [results, Try.results20, go_sem, k0, k1, k2, k3, k4, k5, k6, k7]; try rfl) rfl ?_
                      exact ⟨hE.out, below_8 kX.out (Nat.le_refl _) _ _ _ _ _ _ _ _⟩
              · have hE := Lib.hid (HBAD.out 25 (by omega) (by unfold jd; rw [if_pos (by simp only; omega)]))
                have hd3 : (8 * of != (AL.size : Int)) = true := by simpa using g3
                clear HBAD HGOOD
                obtain ⟨r0, r1, r2, r3, r4, r5, r6, r7⟩ := cells8 LXR
                have f0 := lies_frozen LXR 0
                have f1 := lies_frozen LXR 1
                have f2 := lies_frozen LXR 2
                have f3 := lies_frozen LXR 3
                have f4 := lies_frozen LXR 4
                have f5 := lies_frozen LXR 5
                have f6 := lies_frozen LXR 6
                have f7 := lies_frozen LXR 7
                have LX := Lib.hid LXR
                clear LXR
                go_wp2
                (try simp only [Exit.inBlock, Exit.then])
                obtain ⟨k0, k1, k2, k3, k4, k5, k6, k7, E8⟩ := read_8 (y0 := .int .i64 0) (y1 := .bool false) (y2 := .int .i64 0) (y3 := .int .i64 0) (y4 := .int .i64 0) (y5 := .string ⟨#[]⟩) (y6 := .string ⟨#[]⟩) (y7 := .string ⟨#[]⟩) LX.out
                refine bodyPost_ret (by simp [results, Try.results20, go_sem, k0, k1, k2, k3, k4, k5, k6, k7]; try rfl) rfl ?_
                exact ⟨hE.out, below_8 kX.out (Nat.le_refl _) _ _ _ _ _ _ _ _⟩
        · obtain rfl : j = k := by omega
          have hms : ms l 0 = ((AL.size : Int), 0) := by
            rw [← ht.out, List.drop_of_length_le (by rw [← Hn.out]; omega)]; rfl
          exact absurd (by rw [hms]) HM0.out
end Go.Proofs.Ytiedfdnjnjohdaa
