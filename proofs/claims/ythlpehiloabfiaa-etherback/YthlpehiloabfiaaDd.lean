/- Contract of Decode: bytes that are a frame. -/
import Derived.Test.YthlpehiloabfiaaDc
namespace Go.Proofs.Ythlpehiloabfiaa
open Go.RowKit Go.Proofs.PitotAddr Go.Proofs.PitotEther
open Go.Proofs.Ythlpehiloabfiaa.Ad (lies_lt lies_cell lies_frozen lies_alloc lies_below two forall_and2)
open Go.Proofs.Ythlpehiloabfiaa.Bi (RdAt rtext_ok read_any left_any)

theorem keep_five {X : World} {g b i : Nat} {v y0 y1 y2 y3 y4 : Value} (hne : b ≠ g) (h : X.cell? ⟨b, i, none⟩ = some v) :
    (((((X.setCell ⟨g, 0, none⟩ y0).setCell ⟨g, 1, none⟩ y1).setCell ⟨g, 2, none⟩ y2).setCell ⟨g, 3, none⟩ y3).setCell ⟨g, 4, none⟩ y4).cell? ⟨b, i, none⟩ = some v := by
  repeat rw [World.cell?_setCell_other _ _ _ _ (by intro e; injection e with e1; exact hne (by first | exact e1 | exact e1.symm))]
  exact h

set_option maxRecDepth 100000 in
set_option maxHeartbeats 1000000 in
/-- It is a frame. -/
theorem decode_ok (s : ByteArray) (p : Pt) (vl hst net : Nat) (w : World) (h : Opens s p)
    (HE : ∀ w, Calls Try.prog 31 #[.string p.txt] w fun e w' => e = .returned (.tuple #[.int .i64 vl, .agg #[.int .i64 hst, .int .i64 net], .int .i64 0]) ∧ Below w.heap.size w w')
    (hk : p.x = 8 ∧ p.y = 0) :
    Calls Try.prog 14 #[.string s] w fun e w' => e = .returned (.tuple #[fr vl hst net p.q.toNat ⟨p.d.toArray⟩, .int .i64 0]) ∧ Below w.heap.size w w' := by
  obtain ⟨hz, hl, hh, ho, ht⟩ := h
  have HO := Lib.hid (open_yes s p.txt (p.d.length + 15) (by omega) (by omega) ho ht); clear ho ht
  have h1 : 64 ≤ s.size := by omega
  have h2 : s.size ≤ 1518 := by omega
  replace HE := Lib.hid HE
  obtain ⟨T, HT⟩ : ∃ T, Hid (T = p.txt) := ⟨_, rfl⟩
  have hT1 : T.size = p.d.length + 15 := by rw [HT.out, Pt.txt_size]
  obtain ⟨RB, HRB⟩ : ∃ T : ByteArray, Hid (T = ⟨p.behind.toArray⟩) := ⟨_, rfl⟩
  have hTx : T.extract 12 T.size = RB := by rw [HT.out, HRB.out, Pt.back]
  have hT2 : 12 ≤ T.size := by omega
  have hT3 : T.size ≤ 1518 := by omega
  rw [← HT.out] at HO HE
  have HR := Lib.hid (read_step p.behind RB HRB.out)
  have HRA := Lib.hid (rd_new p.behind RB HRB.out)
  have HU := Lib.hid (fun r w h => ru16_ok r [p.x, p.y] (p.d ++ [p.q]) w h rfl (by simp; omega))
  have HPB : Hid (p.behind = [p.x, p.y] ++ (p.d ++ [p.q])) := rfl
  obtain ⟨K, HK⟩ : ∃ K, Hid (K = PitotMath.num [p.x, p.y]) := ⟨_, rfl⟩
  rw [← HK.out] at HU
  have hK1 : K = 2048 := by rw [HK.out, num2, hk.1, hk.2]; rfl
  subst hK1
  have HLF := Lib.hid (fun r w h => left_any r (p.d ++ [p.q]) 0 w h)
  have HTX := Lib.hid (fun r w h => rtext_ok r p.d [p.q] p.d.length w h rfl (by simp; omega))
  have HU8 := Lib.hid (fun r w h => ru8_ok r [p.q] [] w h rfl (by simp))
  rw [num1] at HU8
  obtain ⟨Q, HQ⟩ : ∃ Q, Hid (Q = p.q.toNat) := ⟨_, rfl⟩
  rw [← HQ.out] at HU8 ⊢
  obtain ⟨DB, HDB⟩ : ∃ B : ByteArray, Hid (B = ⟨p.d.toArray⟩) := ⟨_, rfl⟩
  rw [← HDB.out] at HTX ⊢
  obtain ⟨m, Hm⟩ : ∃ m, Hid (m = p.d.length) := ⟨_, rfl⟩
  have hm1 : m ≤ 1499 := by rw [Hm.out]; exact hh
  have hlen : (((p.d ++ [p.q]).length : Nat) : Int) = (m : Int) + 1 := by rw [Hm.out]; simp
  rw [hlen] at HLF
  rw [← Hm.out] at HTX
  clear hlen
  clear hz hl hh hT1 hk
  go_enter Try.func14, Try.ntmps14
  go_upto_region 15 with (first
    | (go_at_call 30; (with_reducible refine (HO.out _).mono ?_); rintro e w1 ⟨rfl, hb1⟩
       (have L1 := Lib.hid (lies_below (heap_alloc_new w fr0C) hb1 (by simp))))
    | (go_at_call 31; (with_reducible refine (HE.out _).mono ?_); rintro e w2 ⟨rfl, hb2⟩
       (have L2 := Lib.hid (lies_below L1.out hb2 (lies_lt L1.out))))
    | (go_at_call 32; (with_reducible refine (HR.out _).mono ?_); rintro e w3 ⟨rfl, hw3⟩
       (have HRD := Lib.hid (HRA.out (w2.alloc (endC hst net))))
       (have L3 := Lib.hid (lies_alloc (lies_alloc L2.out (endC hst net)) (.cells #[.string RB, .int .i64 0] 84)))
       (have HNE := Lib.hid (show w.heap.size ≠ (w2.alloc (endC hst net)).heap.size by have := lies_lt L2.out; simp; omega))
       (rw [← hw3, HPB.out] at HRD)
       (have E3 := Lib.hid (lies_alloc (heap_alloc_new w2 (endC hst net)) (.cells #[.string RB, .int .i64 0] 84)))
       (rw [← hw3] at L3 E3)
       (have k3 := Lib.hid hw3)
       (clear hw3)
       (simp at HRD)
       (simp at HNE))
    | (go_at_call 33; (with_reducible refine (HU.out _ _ HRD.out).mono ?_); rintro e w4 ⟨rfl, h4, hg4⟩
       (have L4 := Lib.hid (lies_grown L3.out hg4 HNE.out))
       (have HR4 := Lib.hid h4)
       (have E4 := Lib.hid (lies_grown E3.out hg4 (by omega)))
       (clear h4))
    | (go_at_call 35; (with_reducible refine (HLF.out _ _ HR4.out).mono ?_); rintro e w5 ⟨rfl, rfl⟩)
    | (go_at_call 34; (with_reducible refine (HTX.out _ _ HR4.out).mono ?_); rintro e w6 ⟨rfl, h6, hg6⟩
       (have L6 := Lib.hid (lies_grown L4.out hg6 HNE.out))
       (have HR6 := Lib.hid h6)
       (have E6 := Lib.hid (lies_grown E4.out hg6 (by omega)))
       (obtain ⟨c0, c1⟩ := two E6.out)
       (clear h6)))
  have HB : Hid (w2.heap.size ≠ w.heap.size) := by have := lies_lt L2.out; show _ ≠ _; omega
  clear hTx hT2 hT3 h1 h2 HO HR HRA HU HLF HTX HT HPB HE HRD HR4 L3 L4 E3 E4
  have d0 : w6.drew.cell? ⟨w2.heap.size, 0, none⟩ = some (.int .i64 hst) := c0
  have d1 : w6.drew.cell? ⟨w2.heap.size, 1, none⟩ = some (.int .i64 net) := c1
  have HRd : Hid (RdAt w6.drew (w2.heap.size + 1) ([p.q] ++ []) 0) := HR6.out
  go_region_held3 (fun w' => w'.cell? ⟨w2.heap.size, 0, none⟩ = some (.int .i64 hst) ∧ w'.cell? ⟨w2.heap.size, 1, none⟩ = some (.int .i64 net))
    (first | (with_reducible exact ⟨c0', c1'⟩) | (with_reducible exact ⟨d0, d1⟩) | (with_reducible exact ⟨c0, c1⟩) | (with_reducible exact ⟨keep_five HB.out c0', keep_five HB.out c1'⟩))
    (first
      | (go_at_call 36; (with_reducible refine (HU8.out _ _ HRd.out).mono ?_); rintro e w7 ⟨rfl, h7, hg7⟩
         (have L7 := lies_grown (w := w6.drew) L6.out hg7 HNE.out)
         (have E7 := lies_grown (w := w6.drew) E6.out hg7 (by omega))
         (obtain ⟨c0', c1'⟩ := two E7)
         (obtain ⟨r0, r1, r2, r3, r4⟩ := five L7)
         (have f0 := lies_frozen L7 0)
         (have f1 := lies_frozen L7 1)
         (have f2 := lies_frozen L7 2)
         (have f3 := lies_frozen L7 3)
         (have f4 := lies_frozen L7 4)
         (have L7 := Lib.hid L7)
         (have E7 := Lib.hid E7)))
  go_wp2
  (try simp only [Exit.inBlock, Exit.then])
  obtain ⟨q0, q1, q2, q3, q4⟩ := read_five (y0 := .int .i64 vl) (y1 := .int .i64 hst) (y2 := .int .i64 net) (y3 := .int .i64 Q) (y4 := .string DB) L7.out
  refine bodyPost_ret (by simp [results, Try.results14, go_sem, q0, q1, q2, q3, q4]; try rfl) rfl ?_
  have k1 : Below w.heap.size w w1 := ((Below.refl _ w).alloc (Nat.le_refl _) _).trans (hb1.mono (by simp))
  have k2 := k1.trans (hb2.mono k1.size)
  have k3' := k2.alloc k2.size (endC hst net)
  have k4 := k3'.alloc k3'.size (.cells #[.string RB, .int .i64 0] 84)
  rw [← k3.out] at k4
  have hr : ∀ k, some (w2.heap.size + 1) = some k → w.heap.size ≤ k := fun k e => by cases e; have := k2.size; omega
  have k5 := k4.grown hg4 k4.size hr
  have k6 := (k5.grown hg6 k5.size hr).drew
  have k7 := k6.grown hg7 k6.size hr
  exact ⟨rfl, below_five k7 (Nat.le_refl _) _ _ _ _ _⟩
end Go.Proofs.Ythlpehiloabfiaa
