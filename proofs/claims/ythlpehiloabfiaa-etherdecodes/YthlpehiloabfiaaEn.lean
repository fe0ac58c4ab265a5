/- Contracts of ends: the virtual link and the end system that bytes begin with. -/
import Derived.Test.YthlpehiloabfiaaSz
import Derived.Test.YthlpehiloabfiaaAdOf
import Derived.Laws.IdiomStrings
namespace Go.Proofs.Ythlpehiloabfiaa
open Go.RowKit Go.Proofs.PitotAddr Go.Proofs.PitotEther
open Go.Proofs.Ythlpehiloabfiaa.Ad (vl_any of_any ofA ofA_hit ofA_miss mac)

theorem bytes_of (B : ByteArray) (n : Nat) (hn : B.size = n) (hm : n ≤ 10000) (w : World) : ∃ C V, (convert 9 36 (.string B)).run Try.prog w = .ok (.slice (some ⟨w.heap.size, 0, none⟩) n C) V ∧
    (∀ j (h : j < B.data.toList.length), V.cell? ⟨w.heap.size, j, none⟩ = some (.int .u8 (B.data.toList[j]).toNat)) ∧ (∀ j, j < n → V.frozen? ⟨w.heap.size, j, none⟩ = false) ∧ Below w.heap.size w V ∧ V.heap.size = w.heap.size + 1 ∧ n ≤ C ∧ C ≤ maxLen := by
  have h := run_bytes_of_string (P := Try.prog) w 9 36 5 B Try.underlying9 Try.underlying36 Try.underlying5
  rw [hn] at h
  have hc1 := grownCap_ge w n 0 5
  have hc2 := grownCap_le_maxLen w n 0 5 (by unfold maxLen; omega)
  generalize grownCap w n 0 5 = c at h hc1 hc2
  have hsz : B.data.toList.length ≤ (bytesRow B c).size := by simp [bytesRow]
  have hcell : ∀ j (h : j < B.data.toList.length), (bytesRow B c)[j]? = some (.int .u8 (B.data.toList[j]).toNat) := by
    intro j hj
    have hj' : j < B.data.size := by simpa using hj
    unfold bytesRow
    rw [Array.getElem?_append_left (by simpa using hj'), Array.getElem?_map, Array.getElem?_eq_getElem hj']
    rfl
  have hl : B.data.toList.length = n := by simpa using hn
  generalize bytesRow B c = R at h hsz hcell
  refine ⟨c, _, h, fun j hj => ?_, fun j hj => ?_, ?_, by simp, hc1, hc2⟩
  · have := World.cell?_alloc_mark w.drew R 5 (R.size, R.size + 1) j
    exact this.trans (hcell j hj)
  · have hh : (w.drew.alloc (.cells R 5 (R.size, R.size + 1))).heap[w.heap.size]? = some (.cells R 5 (R.size, R.size + 1)) := heap_alloc_new w.drew _
    simp only [World.frozen?, hh]
    simp
    omega
  · exact (Below.refl _ _).drew.alloc (Nat.le_refl _) _


theorem isEnd_other {m : M6} {k j : Nat} (h : m.isEnd k = true) (hj : j ≠ k) : m.isEnd j = false := by
  unfold M6.isEnd at h ⊢
  simp at h ⊢
  omega

theorem vl_yes (m : M6) (h : m.isVL = true) (w : World) :
    Calls Try.prog 51 #[mac m.a m.b m.c m.d m.e m.f] w fun r w' => r = .returned (.tuple #[.int .i64 (num m.e m.f : Nat), .int .i64 0]) ∧ Below w.heap.size w w' := by
  refine (vl_any m.a m.b m.c m.d m.e m.f w).mono fun r w' ⟨hr, hb⟩ => ⟨?_, hb⟩
  rw [hr, if_pos h]
theorem vl_no (m : M6) (h : m.isVL = false) (w : World) :
    Calls Try.prog 51 #[mac m.a m.b m.c m.d m.e m.f] w fun r w' => r = .returned (.tuple #[.int .i64 0, .int .i64 14]) ∧ Below w.heap.size w w' := by
  refine (vl_any m.a m.b m.c m.d m.e m.f w).mono fun r w' ⟨hr, hb⟩ => ⟨?_, hb⟩
  rw [hr, if_neg (by simp [show (M6.mk m.a m.b m.c m.d m.e m.f).isVL = false from h])]
theorem of_yes (m : M6) (k : Nat) (hk : k ≤ 1) (h : m.isEnd k = true) (w : World) :
    Calls Try.prog 52 #[mac m.a m.b m.c m.d m.e m.f] w fun r w' => r = .returned (.tuple #[.agg #[.int .i64 (num m.d m.e : Nat), .int .i64 k], .int .i64 0]) ∧ Below w.heap.size w w' := by
  refine (of_any m.a m.b m.c m.d m.e m.f w).mono fun r w' ⟨hr, hb⟩ => ⟨?_, hb⟩
  rw [hr.out, ofA_hit ⟨m.a, m.b, m.c, m.d, m.e, m.f⟩ k hk (fun j hj => isEnd_other h (by omega)) h]
theorem of_no (m : M6) (h0 : m.isEnd 0 = false) (h1 : m.isEnd 1 = false) (w : World) :
    Calls Try.prog 52 #[mac m.a m.b m.c m.d m.e m.f] w fun r w' => r = .returned (.tuple #[.agg #[.int .i64 0, .int .i64 0], .int .i64 14]) ∧ Below w.heap.size w w' := by
  refine (of_any m.a m.b m.c m.d m.e m.f w).mono fun r w' ⟨hr, hb⟩ => ⟨?_, hb⟩
  rw [hr.out, ofA_miss ⟨m.a, m.b, m.c, m.d, m.e, m.f⟩ (fun j hj => by rcases (show j = 0 ∨ j = 1 by omega) with rfl | rfl <;> assumption)]

open Go.Proofs.Ythlpehiloabfiaa.Ad (lies_lt lies_cell lies_frozen lies_alloc lies_below two read_two) in
set_option maxHeartbeats 400000 in
theorem ends_short (s : ByteArray) (w : World) (hs : s.size < 12) :
    Calls Try.prog 31 #[.string s] w fun e w' => e = .returned (.tuple #[.int .i64 0, .agg #[.int .i64 0, .int .i64 0], .int .i64 10]) ∧ Below w.heap.size w w' := by
  go_enter Try.func31, Try.ntmps31
  go_wp2
  (try simp only [Exit.inBlock, Exit.then])
  refine bodyPost_ret (by simp [results, Try.results31, go_sem]; try rfl) rfl ?_
  exact ⟨rfl, (Below.refl _ _).alloc (Nat.le_refl _) _⟩

/-- A slice of six bytes as an array. -/
theorem arr_six (A : Option Addr) (C : Nat) (w : World) : (Instr.arrayAt 39 (.slice A 6 C)).run Try.prog w = .ok (.pointer A) w := by
  simp [Instr.arrayAt, go_sem]

/-- Twelve bytes of memory. -/
theorem twelve (T : ByteArray) (a b : M6) (hT : T = ⟨(a.bytes ++ b.bytes).toArray⟩) (w : World) : ∃ C V, (convert 9 36 (.string T)).run Try.prog w = .ok (.slice (some ⟨w.heap.size, 0, none⟩) 12 C) V ∧
    ((V.cell? ⟨w.heap.size, 0, none⟩ = some (.int .u8 a.a.toNat)) ∧ (V.cell? ⟨w.heap.size, 1, none⟩ = some (.int .u8 a.b.toNat)) ∧ (V.cell? ⟨w.heap.size, 2, none⟩ = some (.int .u8 a.c.toNat)) ∧ (V.cell? ⟨w.heap.size, 3, none⟩ = some (.int .u8 a.d.toNat)) ∧ (V.cell? ⟨w.heap.size, 4, none⟩ = some (.int .u8 a.e.toNat)) ∧ (V.cell? ⟨w.heap.size, 5, none⟩ = some (.int .u8 a.f.toNat))) ∧
    ((V.cell? ⟨w.heap.size, 6, none⟩ = some (.int .u8 b.a.toNat)) ∧ (V.cell? ⟨w.heap.size, 7, none⟩ = some (.int .u8 b.b.toNat)) ∧ (V.cell? ⟨w.heap.size, 8, none⟩ = some (.int .u8 b.c.toNat)) ∧ (V.cell? ⟨w.heap.size, 9, none⟩ = some (.int .u8 b.d.toNat)) ∧ (V.cell? ⟨w.heap.size, 10, none⟩ = some (.int .u8 b.e.toNat)) ∧ (V.cell? ⟨w.heap.size, 11, none⟩ = some (.int .u8 b.f.toNat))) ∧
    Below w.heap.size w V ∧ V.heap.size = w.heap.size + 1 ∧ 12 ≤ C ∧ C ≤ maxLen := by
  obtain ⟨C, V, h1, h2, _, h4, h5, h6, h7⟩ := bytes_of T 12 (by rw [hT]; rfl) (by omega) w
  subst hT
  refine ⟨C, V, h1, ⟨h2 0 ?_, h2 1 ?_, h2 2 ?_, h2 3 ?_, h2 4 ?_, h2 5 ?_⟩, ⟨h2 6 ?_, h2 7 ?_, h2 8 ?_, h2 9 ?_, h2 10 ?_, h2 11 ?_⟩, h4, h5, h6, h7⟩ <;> simp [M6.bytes]

open Go.Proofs.Ythlpehiloabfiaa.Ad (lies_lt lies_cell lies_frozen lies_alloc lies_below two read_two) in
set_option maxRecDepth 100000 in
set_option maxHeartbeats 1000000 in
theorem ends_vl (s : ByteArray) (a b : M6) (w : World) (hs : 12 ≤ s.size) (hm : s.size ≤ 100000) (hT : s.extract 0 12 = ⟨(a.bytes ++ b.bytes).toArray⟩) (hv : a.isVL = false) :
    Calls Try.prog 31 #[.string s] w fun e w' => e = .returned (.tuple #[.int .i64 0, .agg #[.int .i64 0, .int .i64 0], .int .i64 14]) ∧ Below w.heap.size w w' := by
  obtain ⟨T, HT⟩ : ∃ T : ByteArray, Hid (T = ⟨(a.bytes ++ b.bytes).toArray⟩) := ⟨_, rfl⟩
  rw [← HT.out] at hT
  obtain ⟨C, V, hcv, ⟨c0, c1, c2, c3, c4, c5⟩, _, hb0, hz, hC1, hC2⟩ := twelve T a b HT.out (w.alloc (.cells #[.int .i64 0, .int .i64 0] 44))
  have L0 : V.heap[w.heap.size]? = some (.cells #[.int .i64 0, .int .i64 0] 44) := lies_below (heap_alloc_new w _) hb0 (by simp)
  unfold maxLen at hC2
  simp at hz hcv c0 c1 c2 c3 c4 c5
  have HB0 := Lib.hid hb0; clear hb0
  have HL := Lib.hid L0; clear L0
  have HV := Lib.hid (vl_no a hv); clear hv
  have HZ := Lib.hid hz; clear hz
  have hAr := arr_six
  go_enter Try.func31, Try.ntmps31
  go_wp2_with (first
    | (go_at_call 51; (with_reducible refine (HV.out _).mono ?_); rintro e w2 ⟨rfl, hb2⟩
       (have L1 := lies_below HL.out hb2 (by rw [HZ.out]; omega))
       (obtain ⟨r0, r1⟩ := two L1)
       (have f0 := lies_frozen L1 0)
       (have f1 := lies_frozen L1 1)
       (obtain ⟨q0, q1⟩ := read_two (y0 := .int .i64 0) (y1 := .int .i64 0) r0 r1)
       (have L1 := Lib.hid L1)))
  (try simp only [Exit.inBlock, Exit.then])
  refine bodyPost_ret (by simp [results, Try.results31, go_sem, q0, q1]; try rfl) rfl ?_
  have hb1 : Below w.heap.size w V := ((Below.refl _ w).alloc (Nat.le_refl _) _).trans (HB0.out.mono (by simp))
  have hb3 := hb1.trans (hb2.mono hb1.size)
  exact ⟨rfl, (hb3.setCell (by simp) _).setCell (by simp) _⟩

open Go.Proofs.Ythlpehiloabfiaa.Ad (lies_lt lies_cell lies_frozen lies_alloc lies_below two read_two) in
set_option maxRecDepth 100000 in
set_option maxHeartbeats 1000000 in
theorem ends_of (s : ByteArray) (a b : M6) (w : World) (hs : 12 ≤ s.size) (hm : s.size ≤ 100000) (hT : s.extract 0 12 = ⟨(a.bytes ++ b.bytes).toArray⟩) (hv : a.isVL = true) (ho0 : b.isEnd 0 = false) (ho1 : b.isEnd 1 = false) :
    Calls Try.prog 31 #[.string s] w fun e w' => e = .returned (.tuple #[.int .i64 0, .agg #[.int .i64 0, .int .i64 0], .int .i64 14]) ∧ Below w.heap.size w w' := by
  obtain ⟨T, HT⟩ : ∃ T : ByteArray, Hid (T = ⟨(a.bytes ++ b.bytes).toArray⟩) := ⟨_, rfl⟩
  rw [← HT.out] at hT
  obtain ⟨C, V, hcv, ⟨c0, c1, c2, c3, c4, c5⟩, ⟨d0, d1, d2, d3, d4, d5⟩, hb0, hz, hC1, hC2⟩ := twelve T a b HT.out (w.alloc (.cells #[.int .i64 0, .int .i64 0] 44))
  have L0 : V.heap[w.heap.size]? = some (.cells #[.int .i64 0, .int .i64 0] 44) := lies_below (heap_alloc_new w _) hb0 (by simp)
  unfold maxLen at hC2
  simp at hz hcv c0 c1 c2 c3 c4 c5 d0 d1 d2 d3 d4 d5
  have HD := Lib.hid (And.intro d0 (And.intro d1 (And.intro d2 (And.intro d3 (And.intro d4 d5))))); clear d0 d1 d2 d3 d4 d5
  have HB0 := Lib.hid hb0; clear hb0
  have HL := Lib.hid L0; clear L0
  obtain ⟨n, Hn⟩ : ∃ n, Hid (n = num a.e a.f) := ⟨_, rfl⟩
  have hvl := vl_yes a hv
  rw [← Hn.out] at hvl
  have HV := Lib.hid hvl; clear hv hvl
  have HO := Lib.hid (of_no b ho0 ho1); clear ho0 ho1
  have HZ := Lib.hid hz; clear hz
  have hAr := arr_six
  have hC6 : ¬ C = 6 := by omega
  go_enter Try.func31, Try.ntmps31
  go_wp2_with (first
    | (go_at_call 51; (with_reducible refine (HV.out _).mono ?_); rintro e w2 ⟨rfl, hb2⟩
       (have hk := fun j => hb2.cell (p := ⟨w.heap.size + 1, j, none⟩) (by rw [HZ.out]; simp))
       (have d0 := (hk 6).trans HD.out.1)
       (have d1 := (hk 7).trans HD.out.2.1)
       (have d2 := (hk 8).trans HD.out.2.2.1)
       (have d3 := (hk 9).trans HD.out.2.2.2.1)
       (have d4 := (hk 10).trans HD.out.2.2.2.2.1)
       (have d5 := (hk 11).trans HD.out.2.2.2.2.2)
       (clear hk)
       (have L1 := Lib.hid (lies_below HL.out hb2 (by rw [HZ.out]; omega))))
    | (go_at_call 52; (with_reducible refine (HO.out _).mono ?_); rintro e w3 ⟨rfl, hb3⟩
       (have L3 := fun o => lies_alloc (lies_below L1.out hb3 (lies_lt L1.out)) o)
       (obtain ⟨r0, r1⟩ := Go.Proofs.Ythlpehiloabfiaa.Ad.forall_and2 fun o => two (L3 o))
       (have f0 := fun o => lies_frozen (L3 o) 0)
       (have f1 := fun o => lies_frozen (L3 o) 1)
       (have q0 := fun o y => World.cell?_setCell_same (w3.alloc o) ⟨w.heap.size, 0, none⟩ y (r0 o))
       (have q1 := fun o y z => (read_two (y0 := y) (y1 := z) (r0 o) (r1 o)).2)
       (have L3 := Lib.hid L3)))
  (try simp only [Exit.inBlock, Exit.then])
  refine bodyPost_ret (by simp [results, Try.results31, go_sem, q0, q1]; try rfl) rfl ?_
  have hb1 : Below w.heap.size w V := ((Below.refl _ w).alloc (Nat.le_refl _) _).trans (HB0.out.mono (by simp))
  have hb4 := hb1.trans (hb2.mono hb1.size)
  have hb5 := (hb4.trans (hb3.mono hb4.size))
  exact ⟨rfl, ((hb5.alloc hb5.size _).setCell (by simp) _).setCell (by simp) _⟩

open Go.Proofs.Ythlpehiloabfiaa.Ad (lies_lt lies_cell lies_frozen lies_alloc lies_below two read_two) in
set_option maxRecDepth 100000 in
set_option maxHeartbeats 1000000 in
theorem ends_ok (s : ByteArray) (a b : M6) (w : World) (hs : 12 ≤ s.size) (hm : s.size ≤ 100000) (hT : s.extract 0 12 = ⟨(a.bytes ++ b.bytes).toArray⟩) (hv : a.isVL = true) (k : Nat) (hk1 : k ≤ 1) (ho : b.isEnd k = true) :
    Calls Try.prog 31 #[.string s] w fun e w' => e = .returned (.tuple #[.int .i64 (num a.e a.f : Nat), .agg #[.int .i64 (num b.d b.e : Nat), .int .i64 k], .int .i64 0]) ∧ Below w.heap.size w w' := by
  obtain ⟨T, HT⟩ : ∃ T : ByteArray, Hid (T = ⟨(a.bytes ++ b.bytes).toArray⟩) := ⟨_, rfl⟩
  rw [← HT.out] at hT
  obtain ⟨C, V, hcv, ⟨c0, c1, c2, c3, c4, c5⟩, ⟨d0, d1, d2, d3, d4, d5⟩, hb0, hz, hC1, hC2⟩ := twelve T a b HT.out (w.alloc (.cells #[.int .i64 0, .int .i64 0] 44))
  have L0 : V.heap[w.heap.size]? = some (.cells #[.int .i64 0, .int .i64 0] 44) := lies_below (heap_alloc_new w _) hb0 (by simp)
  unfold maxLen at hC2
  simp at hz hcv c0 c1 c2 c3 c4 c5 d0 d1 d2 d3 d4 d5
  have HD := Lib.hid (And.intro d0 (And.intro d1 (And.intro d2 (And.intro d3 (And.intro d4 d5))))); clear d0 d1 d2 d3 d4 d5
  have HB0 := Lib.hid hb0; clear hb0
  have HL := Lib.hid L0; clear L0
  obtain ⟨n, Hn⟩ : ∃ n, Hid (n = num a.e a.f) := ⟨_, rfl⟩
  have hvl := vl_yes a hv
  rw [← Hn.out] at hvl ⊢
  obtain ⟨m, Hm⟩ : ∃ m, Hid (m = num b.d b.e) := ⟨_, rfl⟩
  have hof := of_yes b k hk1 ho
  rw [← Hm.out] at hof ⊢
  have HV := Lib.hid hvl; clear hv hvl
  have HO := Lib.hid hof; clear hof ho
  have HZ := Lib.hid hz; clear hz
  have hAr := arr_six
  have hC6 : ¬ C = 6 := by omega
  go_enter Try.func31, Try.ntmps31
  go_wp2_with (first
    | (go_at_call 51; (with_reducible refine (HV.out _).mono ?_); rintro e w2 ⟨rfl, hb2⟩
       (have hk := fun j => hb2.cell (p := ⟨w.heap.size + 1, j, none⟩) (by rw [HZ.out]; simp))
       (have d0 := (hk 6).trans HD.out.1)
       (have d1 := (hk 7).trans HD.out.2.1)
       (have d2 := (hk 8).trans HD.out.2.2.1)
       (have d3 := (hk 9).trans HD.out.2.2.2.1)
       (have d4 := (hk 10).trans HD.out.2.2.2.2.1)
       (have d5 := (hk 11).trans HD.out.2.2.2.2.2)
       (clear hk)
       (have L1 := Lib.hid (lies_below HL.out hb2 (by rw [HZ.out]; omega))))
    | (go_at_call 52; (with_reducible refine (HO.out _).mono ?_); rintro e w3 ⟨rfl, hb3⟩
       (have L3 := fun o => lies_alloc (lies_below L1.out hb3 (lies_lt L1.out)) o)
       (obtain ⟨r0, r1⟩ := Go.Proofs.Ythlpehiloabfiaa.Ad.forall_and2 fun o => two (L3 o))
       (have f0 := fun o => lies_frozen (L3 o) 0)
       (have f1 := fun o => lies_frozen (L3 o) 1)
       (have q0 := fun o y => World.cell?_setCell_same (w3.alloc o) ⟨w.heap.size, 0, none⟩ y (r0 o))
       (have q1 := fun o y z => (read_two (y0 := y) (y1 := z) (r0 o) (r1 o)).2)
       (have L3 := Lib.hid L3)))
  go_region
  go_wp2
  (try simp only [Exit.inBlock, Exit.then])
  refine bodyPost_ret (by simp [results, Try.results31, go_sem, q0, q1]; try rfl) rfl ?_
  have hb1 : Below w.heap.size w V := ((Below.refl _ w).alloc (Nat.le_refl _) _).trans (HB0.out.mono (by simp))
  have hb4 := hb1.trans (hb2.mono hb1.size)
  have hb5 := (hb4.trans (hb3.mono hb4.size))
  exact ⟨rfl, (((hb5.alloc hb5.size _).setCell (by simp) _).setCell (by simp) _).drew⟩

/-- Look: the virtual link that bytes begin with. -/
theorem look_of (s : ByteArray) (vl h n e : Int) (w : World) (H : ∀ w, Calls Try.prog 31 #[.string s] w fun r w' => r = .returned (.tuple #[.int .i64 vl, .agg #[.int .i64 h, .int .i64 n], .int .i64 e]) ∧ Below w.heap.size w w') :
    Calls Try.prog 16 #[.string s] w fun r w' => r = .returned (.tuple #[.int .i64 vl, .int .i64 e]) ∧ Below w.heap.size w w' := by
  have HH := Lib.hid H; clear H
  go_enter Try.func16, Try.ntmps16
  go_wp2_with (go_at_call 31; (with_reducible refine (HH.out _).mono ?_); rintro r w2 ⟨rfl, hb2⟩)
  go_returns
  exact ⟨rfl, hb2.alloc hb2.size _⟩
end Go.Proofs.Ythlpehiloabfiaa
