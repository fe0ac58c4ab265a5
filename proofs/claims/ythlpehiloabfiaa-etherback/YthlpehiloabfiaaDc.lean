/- Contracts of Decode: the frame that bytes are. -/
import Derived.Test.YthlpehiloabfiaaRr
import Derived.Deep.RegionHeld3
namespace Go.Proofs.Ythlpehiloabfiaa
open Go.RowKit Go.Proofs.PitotAddr Go.Proofs.PitotEther
open Go.Proofs.Ythlpehiloabfiaa.Ad (lies_lt lies_cell lies_frozen lies_alloc lies_below two forall_and2)
open Go.Proofs.Ythlpehiloabfiaa.Bi (RdAt rtext_ok read_any left_any)

abbrev fr0 : Value := fr 0 0 0 0 ⟨#[]⟩
abbrev fr0C : Obj := frC 0 0 0 0 ⟨#[]⟩

theorem read_five {W : World} {g : Nat} {x0 x1 x2 x3 x4 y0 y1 y2 y3 y4 : Value} (h : W.heap[g]? = some (.cells #[x0, x1, x2, x3, x4] 23)) :
    (W.setCell ⟨g, 0, none⟩ y0).cell? ⟨g, 0, none⟩ = some y0 ∧
    ((W.setCell ⟨g, 0, none⟩ y0).setCell ⟨g, 1, none⟩ y1).cell? ⟨g, 1, none⟩ = some y1 ∧
    (((W.setCell ⟨g, 0, none⟩ y0).setCell ⟨g, 1, none⟩ y1).setCell ⟨g, 2, none⟩ y2).cell? ⟨g, 2, none⟩ = some y2 ∧
    ((((W.setCell ⟨g, 0, none⟩ y0).setCell ⟨g, 1, none⟩ y1).setCell ⟨g, 2, none⟩ y2).setCell ⟨g, 3, none⟩ y3).cell? ⟨g, 3, none⟩ = some y3 ∧
    (((((W.setCell ⟨g, 0, none⟩ y0).setCell ⟨g, 1, none⟩ y1).setCell ⟨g, 2, none⟩ y2).setCell ⟨g, 3, none⟩ y3).setCell ⟨g, 4, none⟩ y4).cell? ⟨g, 4, none⟩ = some y4 := by
  obtain ⟨r0, r1, r2, r3, r4⟩ := five h
  refine ⟨World.cell?_setCell_same _ _ _ r0, World.cell?_setCell_same _ _ _ (show _ = some x1 from ?_), World.cell?_setCell_same _ _ _ (show _ = some x2 from ?_), World.cell?_setCell_same _ _ _ (show _ = some x3 from ?_), World.cell?_setCell_same _ _ _ (show _ = some x4 from ?_)⟩ <;>
    (repeat rw [World.cell?_setCell_other _ _ _ _ (by simp)]) <;> assumption

theorem open_no (s : ByteArray) (n : Nat) (hn : s.size = n + 4) (hs : s.size ≤ 100000) (ho : PitotCrc.opened s.data.toList = false) (w : World) :
    Calls Try.prog 30 #[.string s] w fun e w' => e = .returned (.tuple #[.string ⟨#[]⟩, .int .i64 12]) ∧ Below w.heap.size w w' := by
  refine (Cr.open_long s w n hn hs).mono fun e w' ⟨he, hb⟩ => ⟨?_, hb⟩
  rw [he.out, if_neg (by simp [ho])]
theorem open_yes (s t : ByteArray) (n : Nat) (hn : s.size = n + 4) (hs : s.size ≤ 100000) (ho : PitotCrc.opened s.data.toList = true) (ht : s.extract 0 n = t) (w : World) :
    Calls Try.prog 30 #[.string s] w fun e w' => e = .returned (.tuple #[.string t, .int .i64 0]) ∧ Below w.heap.size w w' := by
  refine (Cr.open_long s w n hn hs).mono fun e w' ⟨he, hb⟩ => ⟨?_, hb⟩
  rw [he.out, if_pos ho, ht]

set_option maxHeartbeats 400000 in
theorem decode_short (s : ByteArray) (w : World) (hs : s.size < 64) :
    Calls Try.prog 14 #[.string s] w fun e w' => e = .returned (.tuple #[fr0, .int .i64 10]) ∧ Below w.heap.size w w' := by
  go_enter Try.func14, Try.ntmps14
  go_wp2
  (try simp only [Exit.inBlock, Exit.then])
  refine bodyPost_ret (by simp [results, Try.results14, go_sem]; try rfl) rfl ?_
  exact ⟨rfl, (Below.refl _ _).alloc (Nat.le_refl _) _⟩

set_option maxHeartbeats 400000 in
theorem decode_long (s : ByteArray) (w : World) (hs : 1518 < s.size) (hm : s.size ≤ 9223372036854775807) :
    Calls Try.prog 14 #[.string s] w fun e w' => e = .returned (.tuple #[fr0, .int .i64 11]) ∧ Below w.heap.size w w' := by
  go_enter Try.func14, Try.ntmps14
  go_wp2
  (try simp only [Exit.inBlock, Exit.then])
  refine bodyPost_ret (by simp [results, Try.results14, go_sem]; try rfl) rfl ?_
  exact ⟨rfl, (Below.refl _ _).alloc (Nat.le_refl _) _⟩

section
variable {B g : Nat} {a X : World}
theorem below_five (h : Below B a X) (hg : B ≤ g) (y0 y1 y2 y3 y4 : Value) : Below B a (((((X.setCell ⟨g, 0, none⟩ y0).setCell ⟨g, 1, none⟩ y1).setCell ⟨g, 2, none⟩ y2).setCell ⟨g, 3, none⟩ y3).setCell ⟨g, 4, none⟩ y4) :=
  ((((h.setCell (p := ⟨g, 0, none⟩) hg y0).setCell (p := ⟨g, 1, none⟩) hg y1).setCell (p := ⟨g, 2, none⟩) hg y2).setCell (p := ⟨g, 3, none⟩) hg y3).setCell (p := ⟨g, 4, none⟩) hg y4
end

set_option maxRecDepth 100000 in
set_option maxHeartbeats 1000000 in
theorem decode_sum (s : ByteArray) (w : World) (h1 : 64 ≤ s.size) (h2 : s.size ≤ 1518) (ho : PitotCrc.opened s.data.toList = false) :
    Calls Try.prog 14 #[.string s] w fun e w' => e = .returned (.tuple #[fr0, .int .i64 12]) ∧ Below w.heap.size w w' := by
  have HO := Lib.hid (open_no s (s.size - 4) (by omega) (by omega) ho); clear ho
  go_enter Try.func14, Try.ntmps14
  go_wp2_with (first
    | (go_at_call 30; (with_reducible refine (HO.out _).mono ?_); rintro e w1 ⟨rfl, hb1⟩
       (have L1 := lies_below (heap_alloc_new w fr0C) hb1 (by simp))
       (obtain ⟨r0, r1, r2, r3, r4⟩ := five L1)
       (have f0 := lies_frozen L1 0)
       (have f1 := lies_frozen L1 1)
       (have f2 := lies_frozen L1 2)
       (have f3 := lies_frozen L1 3)
       (have f4 := lies_frozen L1 4)
       (have L1 := Lib.hid L1)))
  (try simp only [Exit.inBlock, Exit.then])
  obtain ⟨q0, q1, q2, q3, q4⟩ := read_five (y0 := .int .i64 0) (y1 := .int .i64 0) (y2 := .int .i64 0) (y3 := .int .i64 0) (y4 := .string ⟨#[]⟩) L1.out
  refine bodyPost_ret (by simp [results, Try.results14, go_sem, q0, q1, q2, q3, q4]; try rfl) rfl ?_
  have k1 : Below w.heap.size w w1 := ((Below.refl _ w).alloc (Nat.le_refl _) _).trans (hb1.mono (by simp))
  exact ⟨rfl, below_five k1 (Nat.le_refl _) _ _ _ _ _⟩

/-- Bytes that are opened as a text of parts. -/
structure Opens (s : ByteArray) (p : Pt) : Prop where
  size : s.size = p.d.length + 19
  lo : 45 ≤ p.d.length
  hi : p.d.length ≤ 1499
  opened : PitotCrc.opened s.data.toList = true
  txt : s.extract 0 (p.d.length + 15) = p.txt

set_option maxRecDepth 100000 in
set_option maxHeartbeats 1000000 in
/-- ends answers an error. -/
theorem decode_addr (s : ByteArray) (p : Pt) (w : World) (h : Opens s p)
    (HE : ∀ w, Calls Try.prog 31 #[.string p.txt] w fun e w' => e = .returned (.tuple #[.int .i64 0, .agg #[.int .i64 0, .int .i64 0], .int .i64 14]) ∧ Below w.heap.size w w') :
    Calls Try.prog 14 #[.string s] w fun e w' => e = .returned (.tuple #[fr0, .int .i64 14]) ∧ Below w.heap.size w w' := by
  obtain ⟨hz, hl, hh, ho, ht⟩ := h
  have HO := Lib.hid (open_yes s p.txt (p.d.length + 15) (by omega) (by omega) ho ht); clear ho ht
  have h1 : 64 ≤ s.size := by omega
  have h2 : s.size ≤ 1518 := by omega
  clear hz hl hh
  replace HE := Lib.hid HE
  obtain ⟨T, HT⟩ : ∃ T, Hid (T = p.txt) := ⟨_, rfl⟩
  rw [← HT.out] at HO HE
  go_enter Try.func14, Try.ntmps14
  go_wp2_with (first
    | (go_at_call 30; (with_reducible refine (HO.out _).mono ?_); rintro e w1 ⟨rfl, hb1⟩
       (have L1 := Lib.hid (lies_below (heap_alloc_new w fr0C) hb1 (by simp))))
    | (go_at_call 31; (with_reducible refine (HE.out _).mono ?_); rintro e w2 ⟨rfl, hb2⟩
       (have L2 := fun o => (lies_alloc (lies_below L1.out hb2 (lies_lt L1.out)) o))
       (obtain ⟨r0, r1, r2, r3, r4⟩ := forall_and5 fun o => five (L2 o))
       (have f0 := fun o => lies_frozen (L2 o) 0)
       (have f1 := fun o => lies_frozen (L2 o) 1)
       (have f2 := fun o => lies_frozen (L2 o) 2)
       (have f3 := fun o => lies_frozen (L2 o) 3)
       (have f4 := fun o => lies_frozen (L2 o) 4)
       (have L2 := Lib.hid L2)))
  (try simp only [Exit.inBlock, Exit.then])
  obtain ⟨q0, q1, q2, q3, q4⟩ := read_five (y0 := .int .i64 0) (y1 := .int .i64 0) (y2 := .int .i64 0) (y3 := .int .i64 0) (y4 := .string ⟨#[]⟩) (L2.out (.cells #[.int .i64 0, .int .i64 0] 44))
  refine bodyPost_ret (by simp [results, Try.results14, go_sem, q0, q1, q2, q3, q4]; try rfl) rfl ?_
  have k1 : Below w.heap.size w w1 := ((Below.refl _ w).alloc (Nat.le_refl _) _).trans (hb1.mono (by simp))
  have k2 := k1.trans (hb2.mono k1.size)
  exact ⟨rfl, below_five (k2.alloc k2.size _) (Nat.le_refl _) _ _ _ _ _⟩

theorem num2 (x y : UInt8) : PitotMath.num [x, y] = 256 * x.toNat + y.toNat := by simp [PitotMath.num]
theorem num1 (q : UInt8) : PitotMath.num [q] = q.toNat := by simp [PitotMath.num]

/-- Read, with the text under a letter. -/
theorem read_step (l : List UInt8) (S : ByteArray) (hS : S = ⟨l.toArray⟩) (w : World) :
    Calls Try.prog 32 #[.string S] w fun e w' => e = .returned (.pointer (some ⟨w.heap.size, 0, none⟩)) ∧ w' = w.alloc (.cells #[.string S, .int .i64 0] 84) := by
  subst hS; exact read_any l w
theorem rd_new (l : List UInt8) (S : ByteArray) (hS : S = ⟨l.toArray⟩) (w : World) : RdAt (w.alloc (.cells #[.string S, .int .i64 0] 84)) w.heap.size l 0 := by
  subst hS; exact heap_alloc_new w _
theorem rd_lt {w : World} {r : Nat} {l : List UInt8} {e : Int} (h : RdAt w r l e) : r < w.heap.size := lies_lt h

abbrev endC (h n : Int) : Obj := .cells #[.int .i64 h, .int .i64 n] 44

set_option maxRecDepth 100000 in
set_option maxHeartbeats 1000000 in
/-- The two bytes behind the addresses are others. -/
theorem decode_kind (s : ByteArray) (p : Pt) (vl hst net : Nat) (w : World) (h : Opens s p)
    (HE : ∀ w, Calls Try.prog 31 #[.string p.txt] w fun e w' => e = .returned (.tuple #[.int .i64 vl, .agg #[.int .i64 hst, .int .i64 net], .int .i64 0]) ∧ Below w.heap.size w w')
    (hk : ¬ (p.x = 8 ∧ p.y = 0)) :
    Calls Try.prog 14 #[.string s] w fun e w' => e = .returned (.tuple #[fr0, .int .i64 13]) ∧ Below w.heap.size w w' := by
  obtain ⟨hz, hl, hh, ho, ht⟩ := h
  have HO := Lib.hid (open_yes s p.txt (p.d.length + 15) (by omega) (by omega) ho ht); clear ho ht
  have h1 : 64 ≤ s.size := by omega
  have h2 : s.size ≤ 1518 := by omega
  replace HE := Lib.hid HE
  obtain ⟨T, HT⟩ : ∃ T, Hid (T = p.txt) := ⟨_, rfl⟩
  have hT1 : T.size = p.d.length + 15 := by rw [HT.out, Pt.txt_size]
  obtain ⟨RB, HRB⟩ : ∃ T : ByteArray, Hid (T = ⟨p.behind.toArray⟩) := ⟨_, rfl⟩
  have hTx : T.extract 12 T.size = RB := by rw [HT.out, HRB.out, Pt.back]
  have hT2 : 12 ≤ T.size := by omega
  have hT3 : T.size ≤ 1518 := by omega
  rw [← HT.out] at HO HE
  have HR := Lib.hid (read_step p.behind RB HRB.out)
  have HRA := Lib.hid (rd_new p.behind RB HRB.out)
  have HU := Lib.hid (fun r w h => ru16_ok r [p.x, p.y] (p.d ++ [p.q]) w h rfl (by simp; omega))
  have HPB : Hid (p.behind = [p.x, p.y] ++ (p.d ++ [p.q])) := rfl
  obtain ⟨K, HK⟩ : ∃ K, Hid (K = PitotMath.num [p.x, p.y]) := ⟨_, rfl⟩
  rw [← HK.out] at HU
  have hK1 : K < 65536 := by rw [HK.out, num2]; have := p.x.toNat_lt; have := p.y.toNat_lt; omega
  have hK2 : ¬ K = 2048 := by
    rw [HK.out, num2]
    intro e
    apply hk
    have := p.x.toNat_lt
    have := p.y.toNat_lt
    exact ⟨UInt8.toNat.inj (show p.x.toNat = 8 by omega), UInt8.toNat.inj (show p.y.toNat = 0 by omega)⟩
  have hK : ((K : Int) != 2048) = true := by simp; omega
  clear hz hl hh hT1 hk hK2
  go_enter Try.func14, Try.ntmps14
  go_wp2_with (first
    | (go_at_call 30; (with_reducible refine (HO.out _).mono ?_); rintro e w1 ⟨rfl, hb1⟩
       (have L1 := Lib.hid (lies_below (heap_alloc_new w fr0C) hb1 (by simp))))
    | (go_at_call 31; (with_reducible refine (HE.out _).mono ?_); rintro e w2 ⟨rfl, hb2⟩
       (have L2 := Lib.hid (lies_below L1.out hb2 (lies_lt L1.out))))
    | (go_at_call 32; (with_reducible refine (HR.out _).mono ?_); rintro e w3 ⟨rfl, hw3⟩
       (have HRD := Lib.hid (HRA.out (w2.alloc (endC hst net))))
       (have L3 := Lib.hid (lies_alloc (lies_alloc L2.out (endC hst net)) (.cells #[.string RB, .int .i64 0] 84)))
       (have HNE := Lib.hid (show w.heap.size ≠ (w2.alloc (endC hst net)).heap.size by have := lies_lt L2.out; simp; omega))
       (rw [← hw3, HPB.out] at HRD)
       (rw [← hw3] at L3)
       (have k3 := Lib.hid hw3)
       (clear hw3)
       (simp at HRD)
       (simp at HNE))
    | (go_at_call 33; (with_reducible refine (HU.out _ _ HRD.out).mono ?_); rintro e w4 ⟨rfl, h4, hg4⟩
       (have L4 := lies_grown L3.out hg4 HNE.out)
       (obtain ⟨r0, r1, r2, r3, r4⟩ := five L4)
       (have f0 := lies_frozen L4 0)
       (have f1 := lies_frozen L4 1)
       (have f2 := lies_frozen L4 2)
       (have f3 := lies_frozen L4 3)
       (have f4 := lies_frozen L4 4)
       (have L4 := Lib.hid L4)))
  (try simp only [Exit.inBlock, Exit.then])
  obtain ⟨q0, q1, q2, q3, q4⟩ := read_five (y0 := .int .i64 0) (y1 := .int .i64 0) (y2 := .int .i64 0) (y3 := .int .i64 0) (y4 := .string ⟨#[]⟩) L4.out
  refine bodyPost_ret (by simp [results, Try.results14, go_sem, q0, q1, q2, q3, q4]; try rfl) rfl ?_
  have k1 : Below w.heap.size w w1 := ((Below.refl _ w).alloc (Nat.le_refl _) _).trans (hb1.mono (by simp))
  have k2 := k1.trans (hb2.mono k1.size)
  have k3' := k2.alloc k2.size (endC hst net)
  have k4 := k3'.alloc k3'.size (.cells #[.string RB, .int .i64 0] 84)
  rw [← k3.out] at k4
  have k5 := k4.grown hg4 k4.size (fun k e => by cases e; have := k2.size; omega)
  exact ⟨rfl, below_five k5 (Nat.le_refl _) _ _ _ _ _⟩

end Go.Proofs.Ythlpehiloabfiaa
