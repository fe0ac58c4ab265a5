/- Contracts of Of: the program's and the document's. -/
import Derived.Test.YthlpehiloabfiaaAdVl
import Derived.Test.YthlpehiloabfiaaAdLs
namespace Go.Proofs.Ythlpehiloabfiaa.Ad
open Go.RowKit Go.Proofs.PitotAddr

theorem forall_and2 {α : Type} {p0 p1 : α → Prop} (h : ∀ o, p0 o ∧ p1 o) : (∀ o, p0 o) ∧ (∀ o, p1 o) := ⟨fun o => (h o).1, fun o => (h o).2⟩

/-- A struct of two cells, just written, is read as it was written. -/
theorem read_two {W : World} {g : Nat} {x0 x1 y0 y1 : Value} (r0 : W.cell? ⟨g, 0, none⟩ = some x0) (r1 : W.cell? ⟨g, 1, none⟩ = some x1) :
    (W.setCell ⟨g, 0, none⟩ y0).cell? ⟨g, 0, none⟩ = some y0 ∧ ((W.setCell ⟨g, 0, none⟩ y0).setCell ⟨g, 1, none⟩ y1).cell? ⟨g, 1, none⟩ = some y1 :=
  ⟨World.cell?_setCell_same _ _ _ r0, World.cell?_setCell_same _ _ _ (u := x1) ((World.cell?_setCell_other _ _ _ _ (by simp)).trans r1)⟩

theorem lo32 (k : Nat) (hk : k ≤ 1) (f : UInt8) : (f == lo (32 * (k + 1))) = decide (f.toNat = 32 * (k + 1)) := by
  rw [Bool.eq_iff_iff, beq_iff_eq, decide_eq_true_iff, ← UInt8.toNat_inj, lo_nat]
  constructor <;> intro h <;> omega

theorem end_eq (a b c d e f : UInt8) (n k : Nat) (hn : n = num d e) (h4 : n ≤ 4095) (hk : k ≤ 1) :
    (2 == a && 0 == b && 0 == c && hi n == d && lo n == e && lo (32 * (k + 1)) == f) = (M6.mk a b c d e f).isEnd k := by
  unfold M6.isEnd
  rw [hn, hi_num, lo_num, ← hn, decide_eq_true h4, ← lo32 k hk, Bool.beq_comm (a := 2), Bool.beq_comm (a := 0), Bool.beq_comm (a := 0), Bool.beq_comm (a := lo _)]
  simp

/-- What Of answers. -/
def ofA (m : M6) : Value := if m.isEnd 0 = true then .tuple #[.agg #[.int .i64 (num m.d m.e : Nat), .int .i64 0], .int .i64 0] else if m.isEnd 1 = true then .tuple #[.agg #[.int .i64 (num m.d m.e : Nat), .int .i64 1], .int .i64 0] else .tuple #[.agg #[.int .i64 0, .int .i64 0], .int .i64 14]
theorem ofA_hit (m : M6) (k : Nat) (hk : k ≤ 1) (hn : ∀ j, j < k → m.isEnd j = false) (h : m.isEnd k = true) : ofA m = .tuple #[.agg #[.int .i64 (num m.d m.e : Nat), .int .i64 k], .int .i64 0] := by
  have : k = 0 ∨ k = 1 := by omega
  unfold ofA
  rcases this with rfl | rfl
  · rw [if_pos h]; rfl
  · rw [if_neg (by rw [hn 0 (by omega)]; simp), if_pos h]; rfl
theorem ofA_miss (m : M6) (hn : ∀ j, j < 2 → m.isEnd j = false) : ofA m = .tuple #[.agg #[.int .i64 0, .int .i64 0], .int .i64 14] := by
  unfold ofA
  rw [if_neg (by rw [hn 0 (by omega)]; simp), if_neg (by rw [hn 1 (by omega)]; simp)]

theorem lt_succ_no {m : M6} {k : Nat} (h : ∀ j, j < k → m.isEnd j = false) (hk : m.isEnd k = false) : ∀ j, j < k + 1 → m.isEnd j = false := by
  intro j hj
  by_cases e : j = k
  · subst e; exact hk
  · exact h j (by omega)

set_option maxRecDepth 100000 in
set_option maxHeartbeats 2000000 in
theorem of_any (a b c d e f : UInt8) (w : World) :
    Calls Try.prog 52 #[mac a b c d e f] w fun r w' => Hid (r = .returned (ofA ⟨a, b, c, d, e, f⟩)) ∧ Below w.heap.size w w' := by
  have hn := num_lt d e
  obtain ⟨n, Hn⟩ : ∃ n, Hid (n = num d e) := ⟨_, rfl⟩
  have hnum := fun w => number_any d e w
  rw [← Hn.out] at hnum hn
  have HN := Lib.hid hnum; clear hnum
  go_enter Try.func52, Try.ntmps52
  go_wp2_with (first
        | (go_at_call 69; (with_reducible refine (HN.out _).mono ?_); rintro e w1 ⟨rfl, rfl⟩))
  go_loopw [14] (fun v wr => ∃ k : Nat, k ≤ 2 ∧ v = .int .i64 k ∧ Hid (wr.heap[w.heap.size]? = some (.cells #[.int .u8 a.toNat, .int .u8 b.toNat, .int .u8 c.toNat, .int .u8 d.toNat, .int .u8 e.toNat, .int .u8 f.toNat] 39)) ∧ Hid (wr.heap[w.heap.size + 1]? = some (.cells #[.int .i64 0, .int .i64 0] 44)) ∧ Below w.heap.size w wr ∧ Hid (∀ j, j < k → (M6.mk a b c d e f).isEnd j = false)) (fun v _ => 2 - (intOf v).toNat)
  case atStart =>
    refine ⟨0, Nat.zero_le _, rfl, ?_, ?_, below_new (below_new (Below.refl _ _) _) _, fun j hj => by omega⟩
    · exact lies_alloc (heap_alloc_new w _) _
    · have := heap_alloc_new (w.alloc (.cells #[.int .u8 a.toNat, .int .u8 b.toNat, .int .u8 c.toNat, .int .u8 d.toNat, .int .u8 e.toNat, .int .u8 f.toNat] 39)) (.cells #[.int .i64 0, .int .i64 0] 44)
      rwa [show (w.alloc (.cells #[.int .u8 a.toNat, .int .u8 b.toNat, .int .u8 c.toNat, .int .u8 d.toNat, .int .u8 e.toNat, .int .u8 f.toNat] 39)).heap.size = w.heap.size + 1 by simp] at this
  case round =>
    obtain ⟨k, hk, rfl, Lm, Lr, hb, Hno⟩ := hrel
    have hwr : w.heap.size + 1 < wr.heap.size := lies_lt Lr.out
    have Hwr := Lib.hid hwr; clear hwr
    by_cases hlt : k < 2
    · by_cases h4 : n ≤ 4095
      · have hs := fun w => source_ok n k w h4 (by omega)
        have HS := Lib.hid hs; clear hs
        obtain ⟨B, HB⟩ : ∃ B, Hid (B = (M6.mk a b c d e f).isEnd k) := ⟨_, rfl⟩
        have heq : ∀ w, (Go.Op.equalIn 10000 39 (.agg #[.int .u8 2, .int .u8 0, .int .u8 0, .int .u8 (hi n).toNat, .int .u8 (lo n).toNat, .int .u8 (lo (32 * (k + 1))).toNat]) (mac a b c d e f)).run Try.prog w = .ok B w := fun w => by
          rw [eq6, HB.out, ← end_eq a b c d e f n k Hn.out h4 (by omega), int_beq, int_beq, int_beq]
          rw [show (2 : Int) = ((2 : UInt8).toNat : Int) from rfl, show (0 : Int) = ((0 : UInt8).toNat : Int) from rfl, int_beq, int_beq, int_beq]
        cases B
        · go_wp2_with (first
            | (go_at_call 19; (with_reducible refine (HS.out _).mono ?_); rintro e w2 ⟨rfl, hb2⟩
               (have L1 := fun o => six (lies_alloc (lies_below (lies_alloc Lm.out _) hb2 (by have := Hwr.out; simp; omega)) o))
               (obtain ⟨k0, k1, k2, k3, k4, k5⟩ := forall_and6 L1)))
          go_roundw
          case rel =>
            have hbb : Below w.heap.size w w2 := (below_new hb _).trans (hb2.mono (by have := Hwr.out; simp; omega))
            exact ⟨k + 1, by omega, by go_num, lies_alloc (lies_below (lies_alloc Lm.out _) hb2 (by have := Hwr.out; simp; omega)) _, lies_alloc (lies_below (lies_alloc Lr.out _) hb2 (by have := Hwr.out; simp; omega)) _, below_new hbb _, lt_succ_no Hno.out HB.out.symm⟩
          case measure => simp [intOf]; omega
        · go_wp2_with (first
            | (go_at_call 19; (with_reducible refine (HS.out _).mono ?_); rintro e w2 ⟨rfl, hb2⟩
               (have L1 := fun o => six (lies_alloc (lies_below (lies_alloc Lm.out _) hb2 (by have := Hwr.out; simp; omega)) o))
               (have L2 := fun o => lies_alloc (lies_below (heap_alloc_new wr _) hb2 (by simp)) o)
               (have L3 := fun o => lies_alloc (lies_below (lies_alloc Lr.out _) hb2 (by have := Hwr.out; simp; omega)) o)
               (obtain ⟨e0, e1⟩ := forall_and2 fun o => two (L2 o))
               (obtain ⟨r0, r1⟩ := forall_and2 fun o => two (L3 o))
               (have q0 := fun o y => World.cell?_setCell_same (w2.alloc o) ⟨w.heap.size + 1, 0, none⟩ y (r0 o))
               (have q1 := fun o y z => (read_two (y0 := y) (y1 := z) (r0 o) (r1 o)).2)
               (have f0 := fun o => lies_frozen (L3 o) 0)
               (have f1 := fun o => lies_frozen (L3 o) 1)
               (have L2 := Lib.hid L2)
               (have L3 := Lib.hid L3)
               (obtain ⟨k0, k1, k2, k3, k4, k5⟩ := forall_and6 L1)))
          (try simp only [Exit.inBlock, Exit.then])
          refine bodyPost_ret (by simp [results, Try.results52, go_sem, q0, q1]; try rfl) rfl ?_
          refine ⟨?_, ?_⟩
          · show _ = _
            rw [ofA_hit _ k (by omega) Hno.out HB.out.symm, ← Hn.out]
          · have hbb : Below w.heap.size w w2 := (below_new hb _).trans (hb2.mono (by have := Hwr.out; simp; omega))
            exact ((below_new hbb _).setCell (by simp) _).setCell (by simp) _
      · have hs := fun w => source_bad n k w (by omega)
        have HS := Lib.hid hs; clear hs
        have Hbk : Hid ((M6.mk a b c d e f).isEnd k = false) := by
          show _ = _
          unfold M6.isEnd
          rw [decide_eq_false (p := num d e ≤ 4095) (by rw [← Hn.out]; exact h4)]
          simp
        go_wp2_with (first
            | (go_at_call 19; (with_reducible refine (HS.out _).mono ?_); rintro e w2 ⟨rfl, hb2⟩))
        go_roundw
        case rel =>
          have hbb : Below w.heap.size w w2 := (below_new hb _).trans (hb2.mono (by have := Hwr.out; simp; omega))
          exact ⟨k + 1, by omega, by go_num, lies_alloc (lies_below (lies_alloc Lm.out _) hb2 (by have := Hwr.out; simp; omega)) _, lies_alloc (lies_below (lies_alloc Lr.out _) hb2 (by have := Hwr.out; simp; omega)) _, below_new hbb _, lt_succ_no Hno.out Hbk.out⟩
        case measure => simp [intOf]; omega
    · obtain ⟨r0, r1⟩ := two Lr.out
      have f0 := lies_frozen Lr.out 0
      have f1 := lies_frozen Lr.out 1
      have h2 : k = 2 := by omega
      have H2 := Lib.hid h2; clear h2
      obtain ⟨q0, q1⟩ := read_two (y0 := .int .i64 0) (y1 := .int .i64 0) r0 r1
      go_wp2
      (try simp only [Exit.inBlock, Exit.then])
      refine bodyPost_ret (by simp [results, Try.results52, go_sem, q0, q1]; try rfl) rfl ?_
      refine ⟨?_, ?_⟩
      · show _ = _
        rw [ofA_miss _ (H2.out ▸ Hno.out)]
      · exact (hb.setCell (by simp) _).setCell (by simp) _
end Go.Proofs.Ythlpehiloabfiaa.Ad
