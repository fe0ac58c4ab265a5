/- Contracts of VL: the program's and the document's. -/
import Derived.Test.YthlpehiloabfiaaAdRa
namespace Go.Proofs.Ythlpehiloabfiaa.Ad
open Go.RowKit Go.Proofs.PitotAddr

/-- An address as a value. -/
abbrev mac (a b c d e f : UInt8) : Value := .agg #[.int .u8 a.toNat, .int .u8 b.toNat, .int .u8 c.toNat, .int .u8 d.toNat, .int .u8 e.toNat, .int .u8 f.toNat]

theorem int_beq (a b : UInt8) : ((a.toNat : Int) == (b.toNat : Int)) = (a == b) := by
  rw [Bool.eq_iff_iff, beq_iff_eq, beq_iff_eq, Int.ofNat_inj, UInt8.toNat_inj]

section
variable {w w' : World} {g B : Nat} {cs : Array Value} {t : TypeId}
theorem lies_lt (h : w.heap[g]? = some (.cells cs t)) : g < w.heap.size := by
  rcases Nat.lt_or_ge g w.heap.size with h1 | h1
  · exact h1
  · simp [Array.getElem?_eq_none h1] at h
theorem lies_cell (h : w.heap[g]? = some (.cells cs t)) (i : Nat) : w.cell? ⟨g, i, none⟩ = cs[i]? := by simp [World.cell?, h]
theorem lies_frozen (h : w.heap[g]? = some (.cells cs t)) (i : Nat) : w.frozen? ⟨g, i, none⟩ = false := by simp [World.frozen?, h]
theorem lies_alloc (h : w.heap[g]? = some (.cells cs t)) (o : Obj) : (w.alloc o).heap[g]? = some (.cells cs t) := (Below.heap_alloc w o g (lies_lt h)).trans h
theorem lies_below (h : w.heap[g]? = some (.cells cs t)) (hb : Below B w w') (hg : g < B) : w'.heap[g]? = some (.cells cs t) := (hb.block g hg).trans h
theorem six {x0 x1 x2 x3 x4 x5 : Value} (h : w.heap[g]? = some (.cells #[x0, x1, x2, x3, x4, x5] t)) :
    (w.cell? ⟨g, 0, none⟩ = some x0) ∧ (w.cell? ⟨g, 1, none⟩ = some x1) ∧ (w.cell? ⟨g, 2, none⟩ = some x2) ∧ (w.cell? ⟨g, 3, none⟩ = some x3) ∧ (w.cell? ⟨g, 4, none⟩ = some x4) ∧ (w.cell? ⟨g, 5, none⟩ = some x5) :=
  ⟨lies_cell h 0, lies_cell h 1, lies_cell h 2, lies_cell h 3, lies_cell h 4, lies_cell h 5⟩
theorem four {x0 x1 x2 x3 : Value} (h : w.heap[g]? = some (.cells #[x0, x1, x2, x3] t)) :
    (w.cell? ⟨g, 0, none⟩ = some x0) ∧ (w.cell? ⟨g, 1, none⟩ = some x1) ∧ (w.cell? ⟨g, 2, none⟩ = some x2) ∧ (w.cell? ⟨g, 3, none⟩ = some x3) :=
  ⟨lies_cell h 0, lies_cell h 1, lies_cell h 2, lies_cell h 3⟩
theorem forall_and6 {α : Type} {p0 p1 p2 p3 p4 p5 : α → Prop} (h : ∀ o, p0 o ∧ p1 o ∧ p2 o ∧ p3 o ∧ p4 o ∧ p5 o) : (∀ o, p0 o) ∧ (∀ o, p1 o) ∧ (∀ o, p2 o) ∧ (∀ o, p3 o) ∧ (∀ o, p4 o) ∧ (∀ o, p5 o) :=
  ⟨fun o => (h o).1, fun o => (h o).2.1, fun o => (h o).2.2.1, fun o => (h o).2.2.2.1, fun o => (h o).2.2.2.2.1, fun o => (h o).2.2.2.2.2⟩
theorem forall_and4 {α : Type} {p0 p1 p2 p3 : α → Prop} (h : ∀ o, p0 o ∧ p1 o ∧ p2 o ∧ p3 o) : (∀ o, p0 o) ∧ (∀ o, p1 o) ∧ (∀ o, p2 o) ∧ (∀ o, p3 o) :=
  ⟨fun o => (h o).1, fun o => (h o).2.1, fun o => (h o).2.2.1, fun o => (h o).2.2.2⟩
theorem two {x0 x1 : Value} (h : w.heap[g]? = some (.cells #[x0, x1] t)) :
    (w.cell? ⟨g, 0, none⟩ = some x0) ∧ (w.cell? ⟨g, 1, none⟩ = some x1) :=
  ⟨lies_cell h 0, lies_cell h 1⟩
end

theorem int_beq3 (b : UInt8) : ((3 : Int) == (b.toNat : Int)) = (b == 3) := by
  rw [show (3 : Int) = ((3 : UInt8).toNat : Int) from rfl, int_beq, Bool.beq_comm]
theorem int_beq2 (b : UInt8) : ((2 : Int) == (b.toNat : Int)) = (b == 2) := by
  rw [show (2 : Int) = ((2 : UInt8).toNat : Int) from rfl, int_beq, Bool.beq_comm]
theorem int_beq0 (b : UInt8) : ((0 : Int) == (b.toNat : Int)) = (b == 0) := by
  rw [show (0 : Int) = ((0 : UInt8).toNat : Int) from rfl, int_beq, Bool.beq_comm]

set_option maxRecDepth 100000 in
set_option maxHeartbeats 1000000 in
theorem vl_any (a b c d e f : UInt8) (w : World) :
    Calls Try.prog 51 #[mac a b c d e f] w fun r w' =>
      r = .returned (if (M6.mk a b c d e f).isVL = true then .tuple #[.int .i64 (num e f : Nat), .int .i64 0] else .tuple #[.int .i64 0, .int .i64 14]) ∧ Below w.heap.size w w' := by
  obtain ⟨B, HB⟩ : ∃ B, Hid (B = (M6.mk a b c d e f).isVL) := ⟨_, rfl⟩
  rw [← HB.out]
  have hn := num_lt e f
  obtain ⟨n, Hn⟩ : ∃ n, Hid (n = num e f) := ⟨_, rfl⟩
  rw [← Hn.out] at hn ⊢
  have hnum := fun w => number_any e f w
  rw [← Hn.out] at hnum
  have HN := Lib.hid hnum; clear hnum
  by_cases h0 : 1 ≤ n
  · have heq : ∀ w, (Go.Op.equalIn 10000 39 (.agg #[.int .u8 3, .int .u8 0, .int .u8 0, .int .u8 0, .int .u8 (hi n).toNat, .int .u8 (lo n).toNat]) (mac a b c d e f)).run Try.prog w = .ok B w := fun w => by
      rw [eq6, HB.out]
      unfold M6.isVL
      rw [int_beq3, int_beq0, int_beq0, int_beq0, int_beq, int_beq, Hn.out, hi_num, lo_num, ← Hn.out, decide_eq_true h0]
      simp
    have hl := fun w => link_ok n w h0 (by omega)
    have HL := Lib.hid hl; clear hl
    cases B
    all_goals
      go_enter Try.func51, Try.ntmps51
      go_wp2_with (first
        | (go_at_call 69; (with_reducible refine (HN.out _).mono ?_); rintro e w1 ⟨rfl, rfl⟩)
        | (go_at_call 18; (with_reducible refine (HL.out _).mono ?_); rintro e w2 ⟨rfl, hb2⟩; (have L := fun o => six (lies_alloc (lies_below (heap_alloc_new w _) hb2 (by simp)) o)); (obtain ⟨k0, k1, k2, k3, k4, k5⟩ := forall_and6 L)))
      go_returns
      exact ⟨rfl, below_new (((Below.refl _ _).alloc (Nat.le_refl _) _).trans (hb2.mono (by simp))) _⟩
  · have hb : ¬ (1 ≤ (n : Int) ∧ (n : Int) ≤ 65535) := by omega
    have hl := fun w => link_bad n w hb
    have HL := Lib.hid hl; clear hl hb
    have hB : B = false := by rw [HB.out]; unfold M6.isVL; rw [← Hn.out, decide_eq_false h0]; simp
    subst hB
    go_enter Try.func51, Try.ntmps51
    go_wp2_with (first
      | (go_at_call 69; (with_reducible refine (HN.out _).mono ?_); rintro e w1 ⟨rfl, rfl⟩)
      | (go_at_call 18; (with_reducible refine (HL.out _).mono ?_); rintro e w2 ⟨rfl, hb2⟩))
    go_returns
    exact ⟨rfl, below_new (((Below.refl _ _).alloc (Nat.le_refl _) _).trans (hb2.mono (by simp))) _⟩

theorem str_beq6 (a b c d e f a' b' c' d' e' f' : UInt8) : ([a, b, c, d, e, f] == (⟨#[a', b', c', d', e', f']⟩ : ByteArray).toList) = (a == a' && b == b' && c == c' && d == d' && e == e' && f == f') := by
  rw [ByteArray.toList_eq]
  show ([a, b, c, d, e, f] == [a', b', c', d', e', f']) = _
  rw [Bool.eq_iff_iff]
  simp only [beq_iff_eq, Bool.and_eq_true, List.cons.injEq, and_true, and_assoc]
theorem str_beq4 (a b c d a' b' c' d' : UInt8) : ([a, b, c, d] == (⟨#[a', b', c', d']⟩ : ByteArray).toList) = (a == a' && b == b' && c == c' && d == d') := by
  rw [ByteArray.toList_eq]
  show ([a, b, c, d] == [a', b', c', d']) = _
  rw [Bool.eq_iff_iff]
  simp only [beq_iff_eq, Bool.and_eq_true, List.cons.injEq, and_true, and_assoc]

set_option maxRecDepth 100000 in
set_option maxHeartbeats 1000000 in
theorem refVl_any (a b c d e f : UInt8) (w : World) :
    Calls Try.prog 38 #[.string ⟨#[a, b, c, d, e, f]⟩] w fun r w' =>
      r = .returned (if (M6.mk a b c d e f).isVL = true then .tuple #[.int .i64 (num e f : Nat), .int .i64 0] else .tuple #[.int .i64 0, .int .i64 14]) ∧ Below w.heap.size w w' := by
  obtain ⟨B, HB⟩ : ∃ B, Hid (B = (M6.mk a b c d e f).isVL) := ⟨_, rfl⟩
  rw [← HB.out]
  have hn := num_lt e f
  obtain ⟨n, Hn⟩ : ∃ n, Hid (n = num e f) := ⟨_, rfl⟩
  rw [← Hn.out] at hn ⊢
  have hnum := fun w => refnum_any ⟨#[e, f]⟩ e f w (by show 2 ≤ 2; omega) rfl rfl
  rw [← Hn.out] at hnum
  have HN := Lib.hid hnum; clear hnum
  obtain ⟨S, HS⟩ : ∃ S : ByteArray, Hid (S = ⟨#[a, b, c, d, e, f]⟩) := ⟨_, rfl⟩
  have hsz : S.size = 6 := by rw [HS.out]; rfl
  have hex : S.extract 4 6 = ⟨#[e, f]⟩ := by rw [HS.out]; rfl
  rw [← HS.out]
  by_cases h0 : 1 ≤ n
  · have heq : ([3, 0, 0, 0, hi n, lo n] == S.toList) = B := by
      rw [HB.out, HS.out, str_beq6]
      unfold M6.isVL
      rw [Hn.out, hi_num, lo_num, ← Hn.out, decide_eq_true h0, Bool.beq_comm (a := 3), Bool.beq_comm (a := 0), Bool.beq_comm (a := 0), Bool.beq_comm (a := 0)]
      simp
    have hl := fun w => refLink_ok n w h0 (by omega)
    have HL := Lib.hid hl; clear hl
    cases B
    all_goals
      go_enter Try.func38, Try.ntmps38
      go_wp2_with (first
        | (go_at_call 55; (with_reducible refine (HN.out _).mono ?_); rintro e w1 ⟨rfl, hb1⟩)
        | (go_at_call 26; (with_reducible refine (HL.out _).mono ?_); rintro e w2 ⟨rfl, hb2⟩))
      go_returns
      exact ⟨rfl, hb1.trans (hb2.mono hb1.size)⟩
  · have hb : ¬ (1 ≤ (n : Int) ∧ (n : Int) ≤ 65535) := by omega
    have hl := fun w => refLink_bad n w hb
    have HL := Lib.hid hl; clear hl hb
    have hB : B = false := by rw [HB.out]; unfold M6.isVL; rw [← Hn.out, decide_eq_false h0]; simp
    subst hB
    go_enter Try.func38, Try.ntmps38
    go_wp2_with (first
      | (go_at_call 55; (with_reducible refine (HN.out _).mono ?_); rintro e w1 ⟨rfl, hb1⟩)
      | (go_at_call 26; (with_reducible refine (HL.out _).mono ?_); rintro e w2 ⟨rfl, rfl⟩))
    go_returns
    exact ⟨rfl, hb1⟩
end Go.Proofs.Ythlpehiloabfiaa.Ad
