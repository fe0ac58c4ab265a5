/- Contracts of readIP, and of Bits at each of a head's words. -/
import Derived.Test.YtneiemaepdknjaaEc
import Derived.Test.YtneiemaepdknjaaBiRb
import Derived.Laws.IdiomStrings
namespace Go.Proofs.Ytneiemaepdknjaa
open Go.RowKit Go.Proofs.PitotIp
open Go.Proofs.Ytneiemaepdknjaa.Bi (IntsAt RdAt rtext_ok rbits_ok lies_lt lies_cell lies_frozen lies_alloc)

theorem bytes_of (B : ByteArray) (n : Nat) (hn : B.size = n) (hm : n ≤ 100000) (w : World) : ∃ C V, (convert 9 41 (.string B)).run Try.prog w = .ok (.slice (some ⟨w.heap.size, 0, none⟩) n C) V ∧
    (∀ j (h : j < B.data.toList.length), V.cell? ⟨w.heap.size, j, none⟩ = some (.int .u8 (B.data.toList[j]).toNat)) ∧ (∀ j, j < n → V.frozen? ⟨w.heap.size, j, none⟩ = false) ∧ Below w.heap.size w V ∧ V.heap.size = w.heap.size + 1 ∧ n ≤ C ∧ C ≤ maxLen := by
  have h := run_bytes_of_string (P := Try.prog) w 9 41 5 B Try.underlying9 Try.underlying41 Try.underlying5
  rw [hn] at h
  have hc1 := grownCap_ge w n 0 5
  have hc2 := grownCap_le_maxLen w n 0 5 (by unfold maxLen; omega)
  generalize grownCap w n 0 5 = c at h hc1 hc2
  have hsz : B.data.toList.length ≤ (bytesRow B c).size := by simp [bytesRow]
  have hcell : ∀ j (h : j < B.data.toList.length), (bytesRow B c)[j]? = some (.int .u8 (B.data.toList[j]).toNat) := by
    intro j hj
    have hj' : j < B.data.size := by simpa using hj
    unfold bytesRow
    rw [Array.getElem?_append_left (by simpa using hj'), Array.getElem?_map, Array.getElem?_eq_getElem hj']
    rfl
  have hl : B.data.toList.length = n := by simpa using hn
  generalize bytesRow B c = R at h hsz hcell
  refine ⟨c, _, h, fun j hj => ?_, fun j hj => ?_, ?_, by simp, hc1, hc2⟩
  · have := World.cell?_alloc_mark w.drew R 5 (R.size, R.size + 1) j
    exact this.trans (hcell j hj)
  · have hh : (w.drew.alloc (.cells R 5 (R.size, R.size + 1))).heap[w.heap.size]? = some (.cells R 5 (R.size, R.size + 1)) := heap_alloc_new w.drew _
    simp only [World.frozen?, hh]
    simp
    omega
  · exact (Below.refl _ _).drew.alloc (Nat.le_refl _) _

/-- A slice of four bytes as an array. -/
theorem arr_four (A : Option Addr) (C : Nat) (w : World) : (Instr.arrayAt 23 (.slice A 4 C)).run Try.prog w = .ok (.pointer A) w := by
  simp [Instr.arrayAt, go_sem]

theorem four_of (T : ByteArray) (q : Q4) (hT : T = ⟨q.bytes.toArray⟩) (w : World) : ∃ C V, (convert 9 41 (.string T)).run Try.prog w = .ok (.slice (some ⟨w.heap.size, 0, none⟩) 4 C) V ∧
    ((V.cell? ⟨w.heap.size, 0, none⟩ = some (.int .u8 q.a.toNat)) ∧ (V.cell? ⟨w.heap.size, 1, none⟩ = some (.int .u8 q.b.toNat)) ∧ (V.cell? ⟨w.heap.size, 2, none⟩ = some (.int .u8 q.c.toNat)) ∧ (V.cell? ⟨w.heap.size, 3, none⟩ = some (.int .u8 q.d.toNat))) ∧
    Below w.heap.size w V ∧ C ≤ maxLen := by
  obtain ⟨C, V, h1, h2, _, h4, h5, h6, h7⟩ := bytes_of T 4 (by rw [hT]; rfl) (by omega) w
  subst hT
  exact ⟨C, V, h1, ⟨h2 0 (by simp [Q4.bytes]), h2 1 (by simp [Q4.bytes]), h2 2 (by simp [Q4.bytes]), h2 3 (by simp [Q4.bytes])⟩, h4, h7⟩

/-- An address of IP, as it is handed on; in memory. -/
abbrev ip4 (q : Q4) : Value := .agg #[.int .u8 q.a.toNat, .int .u8 q.b.toNat, .int .u8 q.c.toNat, .int .u8 q.d.toNat]
abbrev ip4C (q : Q4) : Obj := .cells #[.int .u8 q.a.toNat, .int .u8 q.b.toNat, .int .u8 q.c.toNat, .int .u8 q.d.toNat] 23
abbrev ip0C : Obj := .cells #[.int .u8 0, .int .u8 0, .int .u8 0, .int .u8 0] 23

theorem read_four {W : World} {g : Nat} {x0 x1 x2 x3 y0 y1 y2 y3 : Value} {t : TypeId} (h : W.heap[g]? = some (.cells #[x0, x1, x2, x3] t)) :
    (W.setCell ⟨g, 0, none⟩ y0).cell? ⟨g, 0, none⟩ = some y0 ∧
    ((W.setCell ⟨g, 0, none⟩ y0).setCell ⟨g, 1, none⟩ y1).cell? ⟨g, 1, none⟩ = some y1 ∧
    (((W.setCell ⟨g, 0, none⟩ y0).setCell ⟨g, 1, none⟩ y1).setCell ⟨g, 2, none⟩ y2).cell? ⟨g, 2, none⟩ = some y2 ∧
    ((((W.setCell ⟨g, 0, none⟩ y0).setCell ⟨g, 1, none⟩ y1).setCell ⟨g, 2, none⟩ y2).setCell ⟨g, 3, none⟩ y3).cell? ⟨g, 3, none⟩ = some y3 := by
  have h0 : (W.setCell ⟨g, 0, none⟩ y0).heap[g]? = some (.cells #[y0, x1, x2, x3] t) := Bi.lies_set h 0 _
  have h1 : ((W.setCell ⟨g, 0, none⟩ y0).setCell ⟨g, 1, none⟩ y1).heap[g]? = some (.cells #[y0, y1, x2, x3] t) := Bi.lies_set h0 1 _
  have h2 : (((W.setCell ⟨g, 0, none⟩ y0).setCell ⟨g, 1, none⟩ y1).setCell ⟨g, 2, none⟩ y2).heap[g]? = some (.cells #[y0, y1, y2, x3] t) := Bi.lies_set h1 2 _
  have h3 : ((((W.setCell ⟨g, 0, none⟩ y0).setCell ⟨g, 1, none⟩ y1).setCell ⟨g, 2, none⟩ y2).setCell ⟨g, 3, none⟩ y3).heap[g]? = some (.cells #[y0, y1, y2, y3] t) := Bi.lies_set h2 3 _
  exact ⟨lies_cell h0 0, lies_cell h1 1, lies_cell h2 2, lies_cell h3 3⟩

theorem RdAt.alloc {w : World} {r : Nat} {l : List UInt8} {e : Int} (h : RdAt w r l e) (o : Obj) : RdAt (w.alloc o) r l e := lies_alloc h o
theorem RdAt.below {w w' : World} {r n : Nat} {l : List UInt8} {e : Int} (h : RdAt w r l e) (hb : Below n w w') (hn : r < n) : RdAt w' r l e := lies_below h hb hn
theorem RdAt.lt {w : World} {r : Nat} {l : List UInt8} {e : Int} (h : RdAt w r l e) : r < w.heap.size := lies_lt (w := w) h

theorem grown_alloc {w w' : World} {r : Nat} {o : Obj} (h : (w.alloc o).grownBy w' (some r)) : w.grownBy w' (some r) :=
  Bi.grown_trans (Bi.grown_of_below ((Below.refl _ w).alloc (Nat.le_refl _) o)) h
theorem grown_set_new {w w' : World} {r : Nat} (h : w.grownBy w' (some r)) (g k : Nat) (v : Value) (hg : w.heap.size ≤ g) : w.grownBy (w'.setCell ⟨g, k, none⟩ v) (some r) :=
  ⟨h.os, h.tape, h.output, by have := h.size; simpa [World.setCell] using this, fun j hj hr => (Below.heap_setCell w' _ v j (by show j ≠ g; omega)).trans (h.block j hj hr)⟩

set_option maxRecDepth 100000 in
set_option maxHeartbeats 1000000 in
theorem readIP_any (q : Q4) (b : List UInt8) (r : Nat) (w : World) (h : RdAt w r (q.bytes ++ b) 0) (hl : b.length ≤ 1000000) :
    Calls Try.prog 32 #[.pointer (some ⟨r, 0, none⟩)] w fun e w' => e = .returned (ip4 q) ∧ RdAt w' r b 0 ∧ w.grownBy w' (some r) := by
  obtain ⟨T, HT⟩ : ∃ T : ByteArray, Hid (T = ⟨q.bytes.toArray⟩) := ⟨_, rfl⟩
  have hr := RdAt.lt h
  have H0 := rtext_ok r q.bytes b 4 (w.alloc ip0C) (RdAt.alloc h _) rfl (by simp [Q4.bytes]; omega)
  rw [← HT.out, show ((4 : Nat) : Int) = 4 from rfl] at H0
  have H0 := Lib.hid H0
  have hAr := arr_four
  go_enter Try.func32, Try.ntmps32
  go_wp2_with (first
    | (go_at_call 41; (with_reducible refine (H0.out).mono ?_); rintro e w1 ⟨rfl, h1, g1⟩
       (obtain ⟨C, V, hcv, ⟨c0, c1, c2, c3⟩, hb, hC⟩ := four_of T q HT.out w1)
       (unfold maxLen at hC)
       (have L1 : w1.heap[w.heap.size]? = some ip0C := lies_grown (heap_alloc_new w _) g1 (by omega))
       (have L2 : V.heap[w.heap.size]? = some ip0C := lies_below L1 hb (lies_lt L1))
       (have R2 := Lib.hid (RdAt.below h1 hb (RdAt.lt h1)))
       (have z0 := lies_cell L2 0)
       (have z1 := lies_cell L2 1)
       (have z2 := lies_cell L2 2)
       (have z3 := lies_cell L2 3)
       (have f0 := lies_frozen L2 0)
       (have f1 := lies_frozen L2 1)
       (have f2 := lies_frozen L2 2)
       (have f3 := lies_frozen L2 3)
       (have G2 := Lib.hid (Bi.grown_trans (grown_alloc g1) (Bi.grown_of_below hb)))
       (have L2 := Lib.hid L2)
       (clear h1 g1 L1 hb)))
  (try simp only [Exit.inBlock, Exit.then])
  obtain ⟨q0, q1, q2, q3⟩ := read_four (y0 := .int .u8 q.a.toNat) (y1 := .int .u8 q.b.toNat) (y2 := .int .u8 q.c.toNat) (y3 := .int .u8 q.d.toNat) L2.out
  refine bodyPost_ret (by simp [results, Try.results32, go_sem, q0, q1, q2, q3]; try rfl) rfl ?_
  refine ⟨rfl, ?_, ?_⟩
  · have e : ∀ {X : World} (k : Nat) (v : Value), RdAt X r b 0 → RdAt (X.setCell ⟨w.heap.size, k, none⟩ v) r b 0 := fun {X} k v hX => (Below.heap_setCell X _ v r (by show r ≠ w.heap.size; omega)).trans hX
    exact e _ _ (e _ _ (e _ _ (e _ _ R2.out)))
  · exact grown_set_new (grown_set_new (grown_set_new (grown_set_new G2.out _ _ _ (Nat.le_refl _)) _ _ _ (Nat.le_refl _)) _ _ _ (Nat.le_refl _)) _ _ _ (Nat.le_refl _)

theorem ints_ne {w : World} {g r : Nat} {x : Int} {xs : List Int} {l : List UInt8} {e : Int} (h : IntsAt w (some ⟨g, 0, none⟩) (x :: xs)) (hr : RdAt w r l e) : g ≠ r := by
  intro hg
  subst hg
  obtain ⟨b, off, h1, _, h3⟩ := h (by simp)
  cases h1
  have c := h3 0 (by simp)
  have d : w.cell? ⟨g, 0, none⟩ = some (.string ⟨l.toArray⟩) := lies_cell (w := w) hr 0
  simp only [Nat.add_zero] at c
  rw [d] at c
  cases c
theorem ints_cell {w : World} {g : Nat} {xs : List Int} (h : IntsAt w (some ⟨g, 0, none⟩) xs) (i : Nat) (hi : i < xs.length) : w.cell? ⟨g, i, none⟩ = some (.int .i64 xs[i]) := by
  obtain ⟨b, off, h1, _, h3⟩ := h (by intro e; subst e; simp at hi)
  cases h1
  simpa using h3 i hi

theorem cell_grown {X Y : World} {g k r : Nat} {v : Value} (h : X.cell? ⟨g, k, none⟩ = some v) (hg : X.grownBy Y (some r)) (hne : g ≠ r) : Y.cell? ⟨g, k, none⟩ = some v := by
  have hlt : g < X.heap.size := by
    rcases Nat.lt_or_ge g X.heap.size with h1 | h1
    · exact h1
    · simp [World.cell?, Array.getElem?_eq_none h1] at h
  exact (World.cell?_of_block (hg.block g hlt (by simpa using hne))).trans h

/-- Bits at a word of two bytes and a number of two. -/
theorem bits_a (a b c d : UInt8) (t : List UInt8) (ht : t.length ≤ 1000000) (r k : Nat) (X : World) (hk : X.heap.size = k) (h : RdAt X r (a :: b :: c :: d :: t) 0) :
    Calls Try.prog 31 #[.pointer (some ⟨r, 0, none⟩), .slice (some ⟨k, 0, none⟩) 3 3] (X.alloc (i3 8 8 16)) fun e w' => ∃ g, e = .returned (.slice (some ⟨g, 0, none⟩) 3 3) ∧
      (w'.cell? ⟨g, 0, none⟩ = some (.int .i64 a.toNat) ∧ w'.cell? ⟨g, 1, none⟩ = some (.int .i64 b.toNat) ∧ w'.cell? ⟨g, 2, none⟩ = some (.int .i64 (PitotAddr.num c d : Nat))) ∧ g ≠ r ∧ RdAt w' r t 0 ∧ X.grownBy w' (some r) := by
  subst hk
  have hr := RdAt.lt h
  have h1 := rbits_ok r [a, b, c, d] t (some ⟨X.heap.size, 0, none⟩) 3 [8, 8, 16] (X.alloc (i3 8 8 16)) (RdAt.alloc h _) (ints_lie (heap_alloc_new X _)) (by simp) (by decide) (by show (4 : Int) = _; decide) (by simp; omega) (fun b off e => by cases e; omega)
  refine h1.mono fun e w' ⟨g, he, hi, hd, hg⟩ => ?_
  have hi' : IntsAt w' (some ⟨g, 0, none⟩) [(a.toNat : Int), (b.toNat : Int), (PitotAddr.num c d : Int)] := by rw [← read_a]; exact hi
  exact ⟨g, he, ⟨ints_cell hi' 0 (by simp), ints_cell hi' 1 (by simp), ints_cell hi' 2 (by simp)⟩, ints_ne hi' hd, hd, grown_alloc hg⟩

theorem bits_b (a b c d : UInt8) (t : List UInt8) (ht : t.length ≤ 1000000) (r k : Nat) (X : World) (hk : X.heap.size = k) (h : RdAt X r (a :: b :: c :: d :: t) 0) :
    Calls Try.prog 31 #[.pointer (some ⟨r, 0, none⟩), .slice (some ⟨k, 0, none⟩) 5 5] (X.alloc (i5 16 1 1 1 13)) fun e w' => ∃ g, e = .returned (.slice (some ⟨g, 0, none⟩) 5 5) ∧
      (w'.cell? ⟨g, 0, none⟩ = some (.int .i64 (PitotAddr.num a b : Nat)) ∧ w'.cell? ⟨g, 1, none⟩ = some (.int .i64 (PitotAddr.num c d / 32768 : Nat)) ∧ w'.cell? ⟨g, 2, none⟩ = some (.int .i64 (PitotAddr.num c d / 16384 % 2 : Nat)) ∧ w'.cell? ⟨g, 3, none⟩ = some (.int .i64 (PitotAddr.num c d / 8192 % 2 : Nat)) ∧ w'.cell? ⟨g, 4, none⟩ = some (.int .i64 (PitotAddr.num c d % 8192 : Nat))) ∧ g ≠ r ∧ RdAt w' r t 0 ∧ X.grownBy w' (some r) := by
  subst hk
  have hr := RdAt.lt h
  have h1 := rbits_ok r [a, b, c, d] t (some ⟨X.heap.size, 0, none⟩) 5 [16, 1, 1, 1, 13] (X.alloc (i5 16 1 1 1 13)) (RdAt.alloc h _) (ints_lie (heap_alloc_new X _)) (by simp) (by decide) (by show (4 : Int) = _; decide) (by simp; omega) (fun b off e => by cases e; omega)
  refine h1.mono fun e w' ⟨g, he, hi, hd, hg⟩ => ?_
  have hi' : IntsAt w' (some ⟨g, 0, none⟩) [(PitotAddr.num a b : Int), ((PitotAddr.num c d / 32768 : Nat) : Int), ((PitotAddr.num c d / 16384 % 2 : Nat) : Int), ((PitotAddr.num c d / 8192 % 2 : Nat) : Int), ((PitotAddr.num c d % 8192 : Nat) : Int)] := by rw [← read_b]; exact hi
  exact ⟨g, he, ⟨ints_cell hi' 0 (by simp), ints_cell hi' 1 (by simp), ints_cell hi' 2 (by simp), ints_cell hi' 3 (by simp), ints_cell hi' 4 (by simp)⟩, ints_ne hi' hd, hd, grown_alloc hg⟩
end Go.Proofs.Ytneiemaepdknjaa
