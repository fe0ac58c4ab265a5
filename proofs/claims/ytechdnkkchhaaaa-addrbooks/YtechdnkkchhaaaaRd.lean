/- Contract of Drop of the document's book. -/
import Derived.Test.YtechdnkkchhaaaaRb
set_option maxRecDepth 100000
namespace Go.Proofs.Ytechdnkkchhaaaa
open Go.RowKit Go.Proofs.PitotAddr Go.Maps

theorem ownsRow_base {w : World} {base base' : Nat} {e : TypeId} {size : Nat} {v : Value} {n : Nat} {xs : List Value} (h : w.ownsRow base' e size v n xs) (hb : base ≤ base') : w.ownsRow base e size v n xs := by
  refine ⟨h.1, ?_⟩
  rcases h.2 with h | ⟨g, cap, cur, h1, h2, h3⟩
  · exact .inl h
  · exact .inr ⟨g, cap, cur, h1, Nat.le_trans hb h2, h3⟩

def rdrop (rs : List (M6 × Int)) (m : M6) : List (M6 × Int) := rs.filter fun r => decide (r.1 ≠ m)

theorem oneR (r : M6 × Int) : ∀ u ∈ encR r, u.oneCell' = true := by intro u hu; simp [encR] at hu; rcases hu with rfl | rfl <;> rfl

theorem slice_of {w : World} {base n : Nat} {v : Value} {xs : List Value} (h : w.ownsRow base 79 2 v n xs) : ∃ A cap, v = .slice A n cap := by
  rcases h.2 with ⟨rfl, h0⟩ | ⟨g, cap, cur, rfl, _⟩
  · exact ⟨none, 0, by rw [h0]⟩
  · exact ⟨_, cap, rfl⟩

/-- A row of the list. -/
theorem row_at {w : World} {base : Nat} {A : Option Addr} {cap : Nat} {rs : List (M6 × Int)} (h : w.ownsRow base 79 2 (.slice A rs.length cap) rs.length (flatR rs)) (k : Nat) (hk : k < rs.length) :
    ∃ g, A = some ⟨g, 0, none⟩ ∧ g < w.heap.size ∧ w.cell? ⟨g, k * 2, none⟩ = some (.string rs[k].1.txt) ∧ w.cell? ⟨g, k * 2 + 1, none⟩ = some (.int .i64 rs[k].2) := by
  obtain ⟨g, cap', e, hbg, hgl⟩ := h.form (by omega)
  obtain ⟨rfl, rfl⟩ : A = some ⟨g, 0, none⟩ ∧ cap = cap' := by simpa using e
  obtain ⟨g0, g1⟩ := flatR_get rs k hk
  exact ⟨g, rfl, hgl, (h.cellAt _ (by omega)).trans g0, (h.cellAt _ (by omega)).trans g1⟩

theorem some_iff (rs : List (M6 × Int)) (m : M6) : decide ((rdrop rs m).length < rs.length) = (rget rs m).isSome := by
  unfold rdrop rget
  rw [Bool.eq_iff_iff]
  simp only [decide_eq_true_eq, Option.isSome_map, List.find?_isSome]
  constructor
  · intro h
    rcases Classical.em (∃ x, x ∈ rs ∧ x.1 = m) with h1 | h1
    · exact h1
    · exfalso
      have : rs.filter (fun r => decide (r.1 ≠ m)) = rs := List.filter_eq_self.2 fun r hr => by
        rcases Classical.em (r.1 = m) with e | e
        · exact absurd ⟨r, hr, e⟩ h1
        · simp [e]
      rw [this] at h; omega
  · rintro ⟨x, hx, he⟩
    exact (List.length_filter_lt_length_iff_exists (p := fun r : M6 × Int => decide (r.1 ≠ m))).2 ⟨x, hx, by simp [he]⟩

set_option maxHeartbeats 4000000 in
theorem refDrop_any {base : Nat} {w : World} {p : Nat} {rs : List (M6 × Int)} (h : RefAt base w p rs) (hl : rs.length ≤ 1000) (m : M6) :
    Calls Try.prog 37 #[.pointer (some ⟨p, 0, none⟩), .string m.txt] w fun r w' => r = .returned (.bool (rget rs m).isSome) ∧ RefAt base w' p (rdrop rs m) ∧ w.grownBy w' (some p) := by
  obtain ⟨hbp, v, hp, hown⟩ := h
  have hpl := lies_lt hp
  have hbase : base ≤ w.heap.size := by omega
  obtain ⟨A, cap, rfl⟩ := slice_of hown
  obtain ⟨T, HT⟩ : ∃ T, Hid (T = m.txt) := ⟨_, rfl⟩
  rw [← HT.out]
  obtain ⟨R, HR⟩ : ∃ R, Hid (R = (rget rs m).isSome) := ⟨_, rfl⟩
  rw [← HR.out]
  have Hown := Lib.hid hown; clear hown
  have Hp := Lib.hid hp; clear hp
  have hc : w.cell? ⟨p, 0, none⟩ = some (.slice A rs.length cap) := lies_cell Hp.out 0
  obtain ⟨i0, hi, hz0, hz1, hz2⟩ := info_parts (show (Try.prog.info? 79).map (fun i => (i.zero, i.size, i.bytes)) = some (some (.agg #[.string ⟨#[]⟩, .int .i64 0]), 2, 24) by kernel_rfl)
  go_enter Try.func37, Try.ntmps37
  go_wp2
  clear hc
  go_loopw [5, 6] (fun v5 v6 wr => ∃ k : Nat, k ≤ rs.length ∧ v6 = .int .i64 k ∧ wr.ownsRow w.heap.size 79 2 v5 (rdrop (rs.take k) m).length (flatR (rdrop (rs.take k) m)) ∧ Below w.heap.size w wr) (fun _ v6 _ => rs.length - (intOf v6).toNat)
  case atStart => exact ⟨0, Nat.zero_le _, rfl, World.ownsRow_nil _ _ _ _, Below.refl _ _⟩
  case round =>
    obtain ⟨k, hk, rfl, hrow, hb⟩ := hrel
    have hc : wr.cell? ⟨p, 0, none⟩ = some (.slice A rs.length cap) := (hb.cell (p := ⟨p, 0, none⟩) hpl).trans (lies_cell Hp.out 0)
    have hkl : (rdrop (rs.take k) m).length ≤ k := by unfold rdrop; refine Nat.le_trans (List.length_filter_le _ _) ?_; simp; omega
    by_cases hlt : k < rs.length
    · obtain ⟨g, rfl, hgl, c0, c1⟩ := row_at Hown.out k hlt
      have c0 := (hb.cell (p := ⟨g, k * 2, none⟩) hgl).trans c0
      have c1 := (hb.cell (p := ⟨g, k * 2 + 1, none⟩) hgl).trans c1
      obtain ⟨x, Hx⟩ : ∃ x, Hid (x = rs[k].1) := ⟨rs[k].1, rfl⟩
      obtain ⟨y, Hy⟩ : ∃ y, Hid (y = rs[k].2) := ⟨rs[k].2, rfl⟩
      obtain ⟨X, HX⟩ : ∃ X, Hid (X = x.txt) := ⟨_, rfl⟩
      rw [← Hx.out, ← HX.out] at c0
      rw [← Hy.out] at c1
      have heq : (X.toList == T.toList) = decide (x = m) := by rw [HX.out, HT.out, txt_eq]
      have HTK : Hid (rs.take (k + 1) = rs.take k ++ [(x, y)]) := by show _ = _; rw [List.take_succ_eq_append_getElem hlt, Hx.out, Hy.out]
      by_cases he : x = m
      · rw [decide_eq_true he] at heq
        have HS : Hid (rdrop (rs.take (k + 1)) m = rdrop (rs.take k) m) := by show _ = _; unfold rdrop; rw [HTK.out, List.filter_append]; simp [he]
        have He := Lib.hid he; clear he
        go_wp2
        go_roundw
        case rel => exact ⟨k + 1, by omega, by go_num, by rw [HS.out]; exact hrow, hb⟩
        case measure => simp [intOf]; omega
      · rw [decide_eq_false he] at heq
        have HS : Hid (rdrop (rs.take (k + 1)) m = rdrop (rs.take k) m ++ [(x, y)]) := by show _ = _; unfold rdrop; rw [HTK.out, List.filter_append]; simp [he]
        have He := Lib.hid he; clear he
        have hbs := hb.size
        have Hone : Hid (∀ u ∈ [Value.string X, .int .i64 y], u.oneCell' = true) := by show ∀ u ∈ _, _; rw [HX.out]; exact oneR (x, y)
        go_wp2_with (first
          | (at_builtin; refine wpList_append_lies _ rfl _ _ 65 (by rfl) w.heap.size 79 i0 (.agg #[.string ⟨#[]⟩, .int .i64 0]) 2 24 Try.underlying65 hi hz0 hz1 hz2 rfl (by decide) _ _ _ (by rfl) (hrow.alloc _) ⟨wr.heap.size, 0, none⟩ 1 1 [.string X, .int .i64 y] (by rfl) rfl (World.news_of_block (heap_alloc_new wr _)) Hone.out (by omega) (by unfold maxLen; omega) (by omega) (by simp; omega) _ rfl ?_; intro gg cap2 w2 hown2 hgrow2 hat2 hlt2))
        have HBe : Below w.heap.size w w2 := (hb.alloc hb.size (.cells #[.string X, .int .i64 y] 79)).grown hgrow2 (by simp; omega) (fun j hj => (hrow.lt j hj).1)
        go_roundw
        case rel =>
          refine ⟨k + 1, by omega, by go_num, ?_, HBe⟩
          rw [HS.out, List.length_append, flatR_snoc]
          rw [HX.out] at hown2
          exact hown2
        case measure => simp [intOf]; omega
    · have hkk : k = rs.length := by omega
      subst hkk
      rw [List.take_length] at hrow hkl
      obtain ⟨A2, cap2, rfl⟩ := slice_of hrow
      have hf : wr.frozen? ⟨p, 0, none⟩ = false := lies_frozen (lies_below Hp.out hb hpl) 0
      have HF := Lib.hid (some_iff rs m)
      have hR : decide ((rdrop rs m).length < rs.length) = R := by rw [HF.out, HR.out]
      have HROW := Lib.hid hrow; clear hrow
      go_wp2
      go_returns
      have LP := lies_set (lies_below Hp.out hb hpl) 0 (.slice A2 (rdrop rs m).length cap2)
      refine ⟨?_, ⟨hbp, .slice A2 (rdrop rs m).length cap2, LP, ?_⟩, ?_⟩
      · first | rfl | (rw [← hR]; rfl)
      · refine ownsRow_base (base' := w.heap.size) ?_ hbase
        refine HROW.out.kept (row := some p) ⟨rfl, rfl, rfl, by simp, fun i _ hi => RowKit.Below.heap_setCell _ _ _ _ (fun e => hi (by rw [e]))⟩ ?_
        right
        intro e
        have := (HROW.out.lt p e).1
        omega
      · exact ⟨hb.os, hb.tape, hb.output, by have := hb.size; simp; exact this, fun i hi hne => (RowKit.Below.heap_setCell _ _ _ _ (fun e => hne (by rw [e]))).trans (hb.block i hi)⟩
end Go.Proofs.Ytechdnkkchhaaaa
