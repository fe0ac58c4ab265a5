/- The program's reader: lists of ports. -/
import Derived.Test.YtdgkanamceeheaaGreatL37
import Derived.Test.YtdgkanamceeheaaGreatL38
set_option linter.unusedVariables false
set_option maxRecDepth 100000
set_option linter.unusedVariables false
namespace Go.Proofs.YtdgkanamceeheaaGreat.Im
open Go.RowKit
open PitotImg (St rd)
def PInv (PT : Option (List PitotConf.Prt × St)) (acc : List Px) (m : Nat) (x : Int) (σ : St) : Prop :=
  (x = 1 ∧ PT = none) ∨ (x = 0 ∧ σ = none ∧ ∃ az, PT = some (az, none)) ∨ (x = 0 ∧ ∃ l, σ = some l ∧ (PitotImg.portsS m σ).map (fun r => (acc.map Px.pl ++ r.1, r.2)) = PT)
def PRes (PT : Option (List PitotConf.Prt × St)) (xs : List Px) (x : Int) (σ : St) : Prop :=
  (x = 1 ∧ PT = none) ∨ (x = 0 ∧ σ = none ∧ ∃ az, PT = some (az, none)) ∨ (x = 0 ∧ ∃ l, σ = some l ∧ PT = some (xs.map Px.pl, some l))
theorem pinv_start (n : Nat) (σ : St) : PInv (PitotImg.portsS n σ) [] n 0 σ := by
  cases σ with
  | none => exact .inr (.inl ⟨rfl, rfl, [], PitotImg.portsS_none n⟩)
  | some l => exact .inr (.inr ⟨rfl, l, rfl, by cases PitotImg.portsS n (some l) <;> rfl⟩)
theorem pinv_end {PT : Option (List PitotConf.Prt × St)} {acc : List Px} {x : Int} {σ : St} (h : PInv PT acc 0 x σ) : PRes PT acc x σ := by
  rcases h with h | h | ⟨h1, l, h2, h3⟩
  · exact .inl h
  · exact .inr (.inl h)
  · exact .inr (.inr ⟨h1, l, h2, by rw [← h3, h2]; simp [PitotImg.portsS]⟩)
theorem pinv_stop {PT : Option (List PitotConf.Prt × St)} {acc : List Px} {m : Nat} {x : Int} {σ : St} (h : PInv PT acc m x σ) (hx : pe x σ ≠ 0) : PRes PT acc x σ := by
  rcases h with h | h | ⟨h1, l, h2, h3⟩
  · exact .inl h
  · exact .inr (.inl h)
  · exfalso; apply hx; rw [h1, h2]; rfl
theorem pinv_go {PT : Option (List PitotConf.Prt × St)} {acc : List Px} {m : Nat} {x : Int} {σ : St} (h : PInv PT acc m x σ) (hx : pe x σ = 0) : x = 0 ∧ ∃ l, σ = some l ∧ (PitotImg.portsS m σ).map (fun r => (acc.map Px.pl ++ r.1, r.2)) = PT := by
  rcases h with ⟨h1, h2⟩ | ⟨h1, h2, h3⟩ | h
  · rw [h1] at hx; exact absurd hx (by unfold pe; simp)
  · rw [h1, h2] at hx; exact absurd hx (by unfold pe ec; simp)
  · exact h
theorem pinv_step {PT : Option (List PitotConf.Prt × St)} {acc : List Px} {i n : Nat} {σ σ10 : St} {l : List UInt8} {yh yl : Int} (hl : σ = some l) (hi : i < n) (h : (PitotImg.portsS (n - i) σ).map (fun r => (acc.map Px.pl ++ r.1, r.2)) = PT) (px : Px)
    (hx : PitotImg.prtS σ = (⟨px.id, px.host, px.part, px.kind, px.out, px.vl, px.sub, px.udp, px.size, px.depth, PitotImg.freshF yh yl⟩, σ10)) (hb : PitotImg.badP σ = (PitotImg.wrongF yh yl && σ10.isSome)) (hf : px.fresh = PitotImg.joinF yh yl) (b1 : 0 ≤ yh) (b2 : 0 ≤ yl) (b3 : yl < 4294967296) :
    PInv PT (acc ++ [px]) (n - (i + 1)) (wr1 (PitotImg.wrongF yh yl && σ10.isSome)) σ10 := by
  have hg : (decide (i < n) && σ.isSome) = true := by rw [hl]; simp [hi]
  cases hq : (PitotImg.wrongF yh yl && σ10.isSome) with
  | true =>
    rw [hq] at hb
    refine .inl ⟨rfl, ?_⟩
    rw [← h, ports_bad hg hb]; rfl
  | false =>
    rw [hq] at hb
    obtain ⟨_, h2⟩ := ports_go hg hx hb
    rw [h2, opt_map] at h
    cases σ10 with
    | none =>
      refine .inr (.inl ⟨rfl, rfl, ?_⟩)
      rw [← h, PitotImg.portsS_none]
      exact ⟨_, rfl⟩
    | some l2 =>
      refine .inr (.inr ⟨rfl, l2, rfl, ?_⟩)
      have hw : PitotImg.wrongF yh yl = false := by simpa using hq
      have e := PitotImg.join_fresh yh yl b1 b2 b3 hw
      rw [← h]
      have e2 : (⟨px.id, px.host, px.part, px.kind, px.out, px.vl, px.sub, px.udp, px.size, px.depth, PitotImg.freshF yh yl⟩ : PitotConf.Prt) = px.pl := by rw [← e, ← hf]
      rw [e2, List.map_append]; rfl
set_option maxHeartbeats 4000000 in
theorem c3_any (y1 y2 y3 q0 : Int) (bq : Bool) (y5 q2 y7 y8 y9 fr xx : Int) (σ3 : St) (p r kb : Nat) (σ : St) (w : World) (h : PS w p r 0 σ) (hpr : p ≠ r) (hK : w.heap[kb]? = some (.cells #[.pointer (some ⟨p, 0, none⟩)] 46))
    (HC0 : ∀ w, PS w p r 0 σ → Calls Tryz.prog 49 #[.pointer (some ⟨p, 0, none⟩)] w fun e w' => e = .returned (.agg #[.int .i64 y1, .int .i64 y2, .int .i64 y3, .int .i64 q0, .bool bq, .int .i64 y5, .int .i64 q2, .int .i64 y7, .int .i64 y8, .int .i64 y9, .int .i64 fr]) ∧ PS w' p r xx σ3 ∧ Fr w.heap.size r p w w') :
    Calls Tryz.prog 48 #[.pointer (some ⟨kb, 0, none⟩)] w fun e w' => e = .returned (.agg #[.int .i64 y1, .int .i64 y2, .int .i64 y3, .int .i64 q0, .bool bq, .int .i64 y5, .int .i64 q2, .int .i64 y7, .int .i64 y8, .int .i64 y9, .int .i64 fr]) ∧ PS w' p r xx σ3 ∧ Fr w.heap.size r p w w' := by
  have HC := Lib.hid HC0
  have HS : Hid (PS (w.alloc (.cells #[.int .i64 0, .int .i64 0, .int .i64 0, .int .i64 0, .bool false, .int .i64 0, .int .i64 0, .int .i64 0, .int .i64 0, .int .i64 0, .int .i64 0] 62)) p r 0 σ) := ⟨lies_alloc h.1 _, RS.al h.2 _⟩
  have k0 : (w.alloc (.cells #[.int .i64 0, .int .i64 0, .int .i64 0, .int .i64 0, .bool false, .int .i64 0, .int .i64 0, .int .i64 0, .int .i64 0, .int .i64 0, .int .i64 0] 62)).cell? ⟨kb, 0, none⟩ = some (.pointer (some ⟨p, 0, none⟩)) := lies_cell (lies_alloc hK _) 0
  have HF : Hid (Fr w.heap.size r p w (w.alloc (.cells #[.int .i64 0, .int .i64 0, .int .i64 0, .int .i64 0, .bool false, .int .i64 0, .int .i64 0, .int .i64 0, .int .i64 0, .int .i64 0, .int .i64 0] 62))) := Fr.al Fr.refl _
  have VB : Hid ((w.alloc (.cells #[.int .i64 0, .int .i64 0, .int .i64 0, .int .i64 0, .bool false, .int .i64 0, .int .i64 0, .int .i64 0, .int .i64 0, .int .i64 0, .int .i64 0] 62)).heap[w.heap.size]? = some (.cells #[.int .i64 0, .int .i64 0, .int .i64 0, .int .i64 0, .bool false, .int .i64 0, .int .i64 0, .int .i64 0, .int .i64 0, .int .i64 0, .int .i64 0] 62)) := heap_alloc_new w _
  have hsz : (w.alloc (.cells #[.int .i64 0, .int .i64 0, .int .i64 0, .int .i64 0, .bool false, .int .i64 0, .int .i64 0, .int .i64 0, .int .i64 0, .int .i64 0, .int .i64 0] 62)).heap.size = w.heap.size + 1 := World.size_alloc _ _
  have hpw := lies_lt h.1
  have hrw := h.2.lt
  have hzz := zero_prt
  clear h HC0 hK
  go_enter Tryz.func48, Tryz.ntmps48
  go_upto_region 1 with (fail)
  obtain ⟨W1, hW1⟩ : ∃ W, w.alloc (.cells #[.int .i64 0, .int .i64 0, .int .i64 0, .int .i64 0, .bool false, .int .i64 0, .int .i64 0, .int .i64 0, .int .i64 0, .int .i64 0, .int .i64 0] 62) = W := ⟨_, rfl⟩
  rw [hW1] at HS HF VB k0 hsz ⊢
  clear hW1
  obtain ⟨vb, hvb⟩ : ∃ n, w.heap.size = n := ⟨_, rfl⟩
  rw [hvb] at HF VB hpw hrw hsz ⊢
  have HHB := Lib.hid hvb
  have HSZ := Lib.hid hsz
  clear hvb hsz
  go_wp2_with (first
    | (go_at_call 49; (with_reducible refine (HC.out _ HS.out).mono ?_); rintro e w2 ⟨rfl, hs2, hf2⟩
       (have HS2 := Lib.hid hs2)
       (have HF2 : Hid (Fr vb r p w w2) := HF.out.trans (hf2.mono (by have := HSZ.out; omega)))
       (have VB2 := Lib.hid ((hf2.block vb (by have := HSZ.out; omega) (by omega) (by omega) (lies_lt VB.out)).trans VB.out))
       (clear hs2 hf2 HS HF VB k0 HC)
       (have VB := VB2)
       (clear VB2)
       (have f0 := lies_frozen VB.out 0)
       (have f1 := lies_frozen VB.out 1)
       (have f2 := lies_frozen VB.out 2)
       (have f3 := lies_frozen VB.out 3)
       (have f4 := lies_frozen VB.out 4)
       (have f5 := lies_frozen VB.out 5)
       (have f6 := lies_frozen VB.out 6)
       (have f7 := lies_frozen VB.out 7)
       (have f8 := lies_frozen VB.out 8)
       (have f9 := lies_frozen VB.out 9)
       (have f10 := lies_frozen VB.out 10)
       (obtain ⟨cc0, cc1, cc2, cc3, cc4, cc5, cc6, cc7, cc8, cc9, cc10⟩ := cells_11 VB.out)))
  (try simp only [Exit.inBlock, Exit.then])
  obtain ⟨k0, k1, k2, k3, k4, k5, k6, k7, k8, k9, k10, _⟩ := read_11 (y0 := .int .i64 y1) (y1 := .int .i64 y2) (y2 := .int .i64 y3) (y3 := .int .i64 q0) (y4 := .bool bq) (y5 := .int .i64 y5) (y6 := .int .i64 q2) (y7 := .int .i64 y7) (y8 := .int .i64 y8) (y9 := .int .i64 y9) (y10 := .int .i64 fr) VB.out
  refine bodyPost_ret (by simp [results, Tryz.results48, go_sem, k0, k1, k2, k3, k4, k5, k6, k7, k8, k9, k10]; try rfl) rfl ?_
  rw [HHB.out]
  exact ⟨rfl, ⟨(far_11 (by omega)).trans HS2.out.1, RS.keep HS2.out.2 (far_11 (by omega))⟩, frs_11 HF2.out (Nat.le_refl _)⟩
set_option maxHeartbeats 4000000 in
theorem rlistP (p r kb n : Nat) (σ0 σ1 : St) (PT : Option (List PitotConf.Prt × St)) (w : World) (h : PS w p r 0 σ0) (hpr : p ≠ r) (hK : w.heap[kb]? = some (.cells #[.pointer (some ⟨p, 0, none⟩)] 46)) (hkr : kb ≠ r) (hkp : kb ≠ p) (h1 : rd 2 σ0 = ((n : Int), σ1)) (h2 : PitotImg.portsS n σ1 = PT) :
    Calls Tryz.prog 47 #[.pointer (some ⟨p, 0, none⟩), .func (.func 48) #[] #[.pointer (some ⟨kb, 0, none⟩)]] w fun e w' => (∃ x σ' xs0, PRes PT xs0 x σ' ∧ Lst PxsIn w.heap.size (fun xs => xs = xs0) e w' ∧ PS w' p r x σ') ∧ Fr w.heap.size r p w w' := by
  have HN1 := Lib.hid (pU16_of (r := r) h1)
  have hnb := rd_ge h1
  have hN : n < 65536 := by have : (n : Int) < 65536 := hnb.2; omega
  have HPR := Lib.hid hpr
  have HP : Hid (w.heap[p]? = some (.cells #[.pointer (some ⟨r, 0, none⟩), .int .i64 0] 50)) := h.1
  have HR : Hid (RS 82 w r σ0) := h.2
  have H2 : Hid (PInv PT [] n 0 σ1) := by show PInv _ _ _ _ _; rw [← h2]; exact pinv_start n σ1
  have HK : Hid (w.heap[kb]? = some (.cells #[.pointer (some ⟨p, 0, none⟩)] 46)) := hK
  have hkw := lies_lt hK
  have hpw := lies_lt h.1
  have hrw := h.2.lt
  have c0 := lies_cell h.1 0
  clear h hpr h1 h2 hnb
  go_enter Tryz.func47, Tryz.ntmps47
  go_wp2_with (go_at_call 38; (with_reducible refine (HN1.out _ HR.out).mono ?_); rintro e w2 ⟨rfl, hw2, hg2⟩)
  have HP2 := Lib.hid (lies_grown HP.out hg2 HPR.out)
  have HR2 := Lib.hid hw2
  have HF2 : Hid (Fr w.heap.size r p w w2) := Fr.grown hg2
  have HK2 := Lib.hid (lies_grown HK.out hg2 hkr)
  obtain ⟨B, hB⟩ : ∃ n, w.heap.size = n := ⟨_, rfl⟩
  rw [hB] at HF2 hpw hrw hkw
  have HBB := Lib.hid hB
  clear HP HR hw2 hg2 c0 HN1 hB HK hK
  have HOW : Hid (w2.ownsRow B 62 11 (.slice none 0 0) 0 []) := World.ownsRow_nil _ _ _ _
  go_loopw [5, 11] (fun v5 v11 wr => ∃ (i : Nat) (σ : St) (acc : List Px) (x : Int), i ≤ n ∧ v11 = .int .i64 i ∧ acc.length = i ∧ Hid (PInv PT acc (n - i) x σ) ∧ Hid (wr.heap[p]? = some (.cells #[.pointer (some ⟨r, 0, none⟩), .int .i64 x] 50)) ∧ Hid (RS 82 wr r σ) ∧ Hid (Fr B r p w wr) ∧ Hid (wr.ownsRow B 62 11 v5 i (acc.flatMap Px.enc)) ∧ Hid (wr.heap[kb]? = some (.cells #[.pointer (some ⟨p, 0, none⟩)] 46))) (fun _ v11 _ => n - (intOf v11).toNat)
  case atStart => exact ⟨0, σ1, [], 0, Nat.zero_le _, rfl, rfl, H2, HP2, HR2, HF2, HOW, HK2⟩
  case round =>
    obtain ⟨i, σ, acc, x, hi, rfl, hal, ha1, HP, HR, HF, HO, HK⟩ := hrel
    clear HP2 HR2 HF2 HOW HK2
    have HE := Lib.hid (perr_any p r x σ wr ⟨HP.out, HR.out⟩)
    obtain ⟨ev, hev⟩ : ∃ v, pe x σ = v := ⟨_, rfl⟩
    rw [hev] at HE
    by_cases hlt : i < n
    · have e1 : decide ((i : Int) < (n : Int)) = true := decide_eq_true (by omega)
      have e1' : decide (i < n) = true := decide_eq_true hlt
      by_cases hz : ev = 0
      · subst hz
        obtain ⟨hx0, l, hl, hpt⟩ := pinv_go ha1.out hev
        subst hx0
        obtain ⟨y1, τ1, HE1⟩ := rd_of 4 σ
        obtain ⟨y2, τ2, HE3⟩ := rd_of 2 τ1
        obtain ⟨y3, τ3, HE4⟩ := rd_of 2 τ2
        obtain ⟨yb, τ4, HE5⟩ := rd_of 1 τ3
        obtain ⟨y5, τ5, HE6⟩ := rd_of 2 τ4
        obtain ⟨y7, τ6, HE7⟩ := rd_of 2 τ5
        obtain ⟨y8, τ7, HE8⟩ := rd_of 2 τ6
        obtain ⟨y9, τ8, HE9⟩ := rd_of 2 τ7
        obtain ⟨yh, τ9, HE10⟩ := rd_of 4 τ8
        obtain ⟨yl, τA, HE11⟩ := rd_of 4 τ9
        have bh := rd_ge HE10.out
        have bl := rd_ge HE11.out
        obtain ⟨q0, hq0⟩ : ∃ q, yb / 64 = q := ⟨_, rfl⟩
        obtain ⟨q2, hq2⟩ : ∃ q, yb % 32 = q := ⟨_, rfl⟩
        obtain ⟨bq, hbq⟩ : ∃ b, decide (yb / 32 % 2 = 1) = b := ⟨_, rfl⟩
        obtain ⟨fr, hfr⟩ : ∃ x, PitotImg.joinF yh yl = x := ⟨_, rfl⟩
        obtain ⟨xx, hxx⟩ : ∃ x, wr1 (PitotImg.wrongF yh yl && τA.isSome) = x := ⟨_, rfl⟩
        have HST : Hid (PInv PT (acc ++ [(⟨y1, y2, y3, q0, bq, y5, q2, y7, y8, y9, fr⟩ : Px)]) (n - (i + 1)) xx τA) := by
          show PInv _ _ _ _ _
          rw [← hxx]
          refine pinv_step hl hlt hpt (⟨y1, y2, y3, q0, bq, y5, q2, y7, y8, y9, fr⟩ : Px) (yh := yh) (yl := yl) ?_ ?_ hfr.symm bh.1 bl.1 bl.2
          · rw [← hq0, ← hq2, ← hbq]
            unfold PitotImg.prtS PitotImg.prtT
            simp only [HE1.out, HE3.out, HE4.out, HE5.out, HE6.out, HE7.out, HE8.out, HE9.out, HE10.out, HE11.out]
          · unfold PitotImg.badP PitotImg.prtT
            simp only [HE1.out, HE3.out, HE4.out, HE5.out, HE6.out, HE7.out, HE8.out, HE9.out, HE10.out, HE11.out]
        have HNv : Hid (∀ w, PS w p r 0 σ → w.heap[kb]? = some (.cells #[.pointer (some ⟨p, 0, none⟩)] 46) → Calls Tryz.prog 48 #[.pointer (some ⟨kb, 0, none⟩)] w fun e w' => e = .returned (.agg #[.int .i64 y1, .int .i64 y2, .int .i64 y3, .int .i64 q0, .bool bq, .int .i64 y5, .int .i64 q2, .int .i64 y7, .int .i64 y8, .int .i64 y9, .int .i64 fr]) ∧ PS w' p r xx τA ∧ Fr w.heap.size r p w w') := fun w hs hk => c3_any y1 y2 y3 q0 bq y5 q2 y7 y8 y9 fr xx τA p r kb σ w hs HPR.out hk (fun w hs => by
          rw [← hq0, ← hq2, ← hbq, ← hfr, ← hxx]
          exact rport_any p r y1 y2 y3 yb y5 y7 y8 y9 yh yl σ τ1 τ2 τ3 τ4 τ5 τ6 τ7 τ8 τ9 τA w hs HPR.out HE1.out HE3.out HE4.out HE5.out HE6.out HE7.out HE8.out HE9.out HE10.out HE11.out)
        clear hq0 hq2 hbq hfr hxx bh bl hpt ha1 hl hev
        obtain ⟨ii, hii, hzz, hs3, hb3'⟩ := info_parts infoP
        go_wp2_with (first
          | (go_at_call 50; (with_reducible refine (HE.out).mono ?_); rintro e w' ⟨rfl, rfl⟩)
          | (go_at_call 48; (with_reducible refine (HNv.out _ (ps_mk HP.out HR.out) HK.out).mono ?_); rintro e V ⟨rfl, hw, hf⟩
             (have HPV := Lib.hid hw.1)
             (have HRV := Lib.hid hw.2)
             (have HFV := Lib.hid (HF.out.trans (hf.mono (by (have h1 := HF.out.size); (have h2 := HBB.out); omega))))
             (have HOV := Lib.hid (own_fr HO.out hf (Nat.le_refl _) (by omega) (.inl (by omega))))
             (have HKV := Lib.hid ((hf.block kb (lies_lt HK.out) hkr hkp (lies_lt HK.out)).trans HK.out))
             (have HKA := Lib.hid (lies_alloc (o := .cells #[.int .i64 y1, .int .i64 y2, .int .i64 y3, .int .i64 q0, .bool bq, .int .i64 y5, .int .i64 q2, .int .i64 y7, .int .i64 y8, .int .i64 y9, .int .i64 fr] 62) HKV.out))
             (clear HP HR HF HO HK hw hf)
             (have HPA := Lib.hid (lies_alloc (o := .cells #[.int .i64 y1, .int .i64 y2, .int .i64 y3, .int .i64 q0, .bool bq, .int .i64 y5, .int .i64 q2, .int .i64 y7, .int .i64 y8, .int .i64 y9, .int .i64 fr] 62) HPV.out))
             (have HRA := Lib.hid (RS.al HRV.out (.cells #[.int .i64 y1, .int .i64 y2, .int .i64 y3, .int .i64 q0, .bool bq, .int .i64 y5, .int .i64 q2, .int .i64 y7, .int .i64 y8, .int .i64 y9, .int .i64 fr] 62)))
             (have HFA := Lib.hid (Fr.al HFV.out (.cells #[.int .i64 y1, .int .i64 y2, .int .i64 y3, .int .i64 q0, .bool bq, .int .i64 y5, .int .i64 q2, .int .i64 y7, .int .i64 y8, .int .i64 y9, .int .i64 fr] 62)))
             (have HOA := Lib.hid (HOV.out.alloc (.cells #[.int .i64 y1, .int .i64 y2, .int .i64 y3, .int .i64 q0, .bool bq, .int .i64 y5, .int .i64 q2, .int .i64 y7, .int .i64 y8, .int .i64 y9, .int .i64 fr] 62)))
             (have HNW : Hid (∀ j u, (Px.enc (⟨y1, y2, y3, q0, bq, y5, q2, y7, y8, y9, fr⟩ : Px))[j]? = some u → (V.alloc (.cells #[.int .i64 y1, .int .i64 y2, .int .i64 y3, .int .i64 q0, .bool bq, .int .i64 y5, .int .i64 q2, .int .i64 y7, .int .i64 y8, .int .i64 y9, .int .i64 fr] 62)).cell? ((⟨V.heap.size, 0, none⟩ : Addr).add j) = some u) := World.news_of_block (heap_alloc_new V _))
             (have HONE : Hid (∀ u ∈ (Px.enc (⟨y1, y2, y3, q0, bq, y5, q2, y7, y8, y9, fr⟩ : Px)), u.oneCell' = true) := Px.enc_one _)
             (have hbs : Hid (B ≤ (V.alloc (.cells #[.int .i64 y1, .int .i64 y2, .int .i64 y3, .int .i64 q0, .bool bq, .int .i64 y5, .int .i64 q2, .int .i64 y7, .int .i64 y8, .int .i64 y9, .int .i64 fr] 62)).heap.size) := by (have h1 := HFA.out.size); (have h2 := HBB.out); show _ ≤ _; omega))
          | (at_builtin; refine wpList_append_lies _ rfl _ _ 26 (by rfl) B 62 ii _ 11 88 Tryz.underlying26 hii hzz hs3 hb3' rfl (by omega) u5 i _ (by rfl) HOA.out ⟨V.heap.size, 0, none⟩ 1 1 (Px.enc (⟨y1, y2, y3, q0, bq, y5, q2, y7, y8, y9, fr⟩ : Px)) (by rfl) (by rfl) HNW.out HONE.out (by omega) (by unfold maxLen; omega) (by omega) hbs.out _ rfl ?_; intro gq cp w5 hrow5 hg5 hgb5 hgl5))
        have HPX := Lib.hid ((hg5.block p (lies_lt HPA.out) (own_neg HOA.out (by omega))).trans HPA.out)
        have HRX := Lib.hid (RS.keep HRA.out (hg5.block r HRA.out.lt (own_neg HOA.out (by omega))))
        have HFX := Lib.hid (Fr.app HFA.out HOA.out hg5)
        have HOX : Hid (w5.ownsRow B 62 11 (.slice (some ⟨gq, 0, none⟩) (i + 1) cp) (i + 1) ((acc ++ [(⟨y1, y2, y3, q0, bq, y5, q2, y7, y8, y9, fr⟩ : Px)]).flatMap Px.enc)) := by
          show World.ownsRow _ _ _ _ _ _ _
          rw [List.flatMap_append, List.flatMap_singleton]
          exact hrow5
        have HKX := Lib.hid ((hg5.block kb (lies_lt HKA.out) (own_neg HOA.out (by omega))).trans HKA.out)
        go_roundw
        case rel => exact ⟨i + 1, τA, acc ++ [(⟨y1, y2, y3, q0, bq, y5, q2, y7, y8, y9, fr⟩ : Px)], xx, by omega, by go_num, by simp [hal], HST, HPX, HRX, HFX, HOX, HKX⟩
        case measure => simp [intOf]; omega
      · have HRS : Hid (PRes PT acc x σ) := pinv_stop ha1.out (by rw [hev]; exact hz)
        obtain ⟨A, cap, hrv, HIN0⟩ := Pxs_row HO.out hal.symm
        have HIN := Lib.hid HIN0
        have HRV := Lib.hid hrv
        have g1 : (ev == 0) = false := by simpa using hz
        have g1' : (ev != 0) = true := by simpa using hz
        clear ha1 HIN0 hrv HO hev hz
        go_wp2_with (go_at_call 50; (with_reducible refine (HE.out).mono ?_); rintro e w' ⟨rfl, rfl⟩)
        go_returns
        rw [HBB.out]
        exact ⟨⟨x, σ, acc, HRS.out, ⟨A, cap, acc, rfl, by show Ending.returned u5 = _; rw [HRV.out], HIN.out⟩, ⟨HP.out, HR.out⟩⟩, HF.out⟩
    · have e1 : decide ((i : Int) < (n : Int)) = false := decide_eq_false (by omega)
      have e1' : decide (i < n) = false := decide_eq_false hlt
      have HRS : Hid (PRes PT acc x σ) := pinv_end (by have h := ha1.out; rw [show n - i = 0 by omega] at h; exact h)
      obtain ⟨A, cap, hrv, HIN0⟩ := Pxs_row HO.out hal.symm
      have HIN := Lib.hid HIN0
      have HRV := Lib.hid hrv
      clear ha1 HIN0 hrv HO hev HE
      go_wp2_with fail
      go_returns
      rw [HBB.out]
      exact ⟨⟨x, σ, acc, HRS.out, ⟨A, cap, acc, rfl, by show Ending.returned u5 = _; rw [HRV.out], HIN.out⟩, ⟨HP.out, HR.out⟩⟩, HF.out⟩
end Go.Proofs.YtdgkanamceeheaaGreat.Im
