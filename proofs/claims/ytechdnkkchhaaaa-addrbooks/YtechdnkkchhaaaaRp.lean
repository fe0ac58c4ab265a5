/- Contract of Put of the document's book. -/
import Derived.Test.YtechdnkkchhaaaaRd
import Derived.Deep.Cut
set_option maxRecDepth 100000
namespace Go.Proofs.Ytechdnkkchhaaaa
open Go.RowKit Go.Proofs.PitotAddr Go.Maps

/-- Rows with one row put ahead of the first that is greater. -/
def rins (m : M6) (n : Int) : List (M6 × Int) → List (M6 × Int)
  | [] => [(m, n)]
  | r :: t => if m.bytes < r.1.bytes then (m, n) :: r :: t else r :: rins m n t
/-- .. as far as k rows: the rows so far, and whether it is in. -/
def insS (m : M6) (n : Int) (s : List (M6 × Int) × Bool) (r : M6 × Int) : List (M6 × Int) × Bool :=
  if s.2 = false ∧ m.bytes < r.1.bytes then (s.1 ++ [(m, n)] ++ [r], true) else (s.1 ++ [r], s.2)
def insT (m : M6) (n : Int) (rs : List (M6 × Int)) : List (M6 × Int) × Bool := rs.foldl (insS m n) ([], false)
theorem insT_snoc (m : M6) (n : Int) (rs : List (M6 × Int)) (r : M6 × Int) : insT m n (rs ++ [r]) = insS m n (insT m n rs) r := by simp [insT]
theorem insS_true (m : M6) (n : Int) : ∀ (rs o : List (M6 × Int)), rs.foldl (insS m n) (o, true) = (o ++ rs, true)
  | [], o => by simp
  | r :: t, o => by simp [insS, insS_true m n t]
theorem ins_fin (m : M6) (n : Int) : ∀ (rs o : List (M6 × Int)), (if (rs.foldl (insS m n) (o, false)).2 then (rs.foldl (insS m n) (o, false)).1 else (rs.foldl (insS m n) (o, false)).1 ++ [(m, n)]) = o ++ rins m n rs
  | [], o => by simp [rins]
  | r :: t, o => by
    by_cases h : m.bytes < r.1.bytes
    · have e : insS m n (o, false) r = (o ++ [(m, n)] ++ [r], true) := by simp [insS, h]
      rw [List.foldl_cons, e, insS_true]
      simp [rins, h]
    · have e : insS m n (o, false) r = (o ++ [r], false) := by simp [insS, h]
      rw [List.foldl_cons, e, ins_fin m n t]
      simp [rins, h]
theorem insT_len (m : M6) (n : Int) : ∀ (rs : List (M6 × Int)) (s : List (M6 × Int) × Bool), (rs.foldl (insS m n) s).1.length ≤ s.1.length + 2 * rs.length
  | [], s => by simp
  | r :: t, s => by
    have := insT_len m n t (insS m n s r)
    rw [List.foldl_cons]
    have h2 : (insS m n s r).1.length ≤ s.1.length + 2 := by unfold insS; split <;> simp
    simp only [List.length_cons]
    omega

theorem bytesLess_lt : ∀ x y : List UInt8, Op.bytesLess x y = decide (x < y)
  | [], [] => by simp [Op.bytesLess]
  | _ :: _, [] => by simp [Op.bytesLess]
  | [], _ :: _ => by simp [Op.bytesLess]
  | a :: x, b :: y => by
    rw [Op.bytesLess, bytesLess_lt x y, Bool.eq_iff_iff]
    simp [List.cons_lt_cons_iff]

theorem less_txt (x y : M6) : Op.bytesLess x.txt.toList y.txt.toList = decide (x.bytes < y.bytes) := by
  rw [ByteArray.toList_eq, ByteArray.toList_eq]
  exact bytesLess_lt x.bytes y.bytes

/-- The list has been made: it is laid into the book. -/
theorem ref_end {base : Nat} {w w1 wr : World} {p : Nat} {v u : Value} {rs : List (M6 × Int)} (hbp : base ≤ p) (hp : w1.heap[p]? = some (.cells #[u] 67)) (hb : Below w1.heap.size w1 wr) (hpl : p < w1.heap.size) (hbase : base ≤ w1.heap.size) (hg : w.grownBy w1 (some p))
    (hrow : wr.ownsRow w1.heap.size 79 2 v rs.length (flatR rs)) : RefAt base (wr.setCell ⟨p, 0, none⟩ v) p rs ∧ w.grownBy (wr.setCell ⟨p, 0, none⟩ v) (some p) := by
  have LP := lies_set (lies_below hp hb hpl) 0 v
  refine ⟨⟨hbp, v, LP, ?_⟩, ?_⟩
  · refine ownsRow_base (base' := w1.heap.size) ?_ hbase
    refine hrow.kept (row := some p) ⟨rfl, rfl, rfl, by simp, fun i _ hi => RowKit.Below.heap_setCell _ _ _ _ (fun e => hi (by rw [e]))⟩ ?_
    right
    intro e
    have := (hrow.lt p e).1
    omega
  · have h2 : w1.grownBy (wr.setCell ⟨p, 0, none⟩ v) (some p) := ⟨hb.os, hb.tape, hb.output, by have := hb.size; simp; exact this, fun i hi hne => (RowKit.Below.heap_setCell _ _ _ _ (fun e => hne (by rw [e]))).trans (hb.block i hi)⟩
    exact hg.trans h2

set_option maxHeartbeats 8000000 in
theorem refPut_any {base : Nat} {w : World} {p : Nat} {rs : List (M6 × Int)} (h : RefAt base w p rs) (hl : rs.length ≤ 1000) (m : M6) (n : Int) :
    Calls Try.prog 33 #[.pointer (some ⟨p, 0, none⟩), .string m.txt, .int .i64 n] w fun r w' => r = .returned (.tuple #[.int .i64 ((rget rs m).getD 0), .bool (rget rs m).isSome]) ∧ RefAt base w' p (rins m n (rdrop rs m)) ∧ w.grownBy w' (some p) := by
  have hget := refGet_any h hl m
  have hdrop := refDrop_any h hl m
  have hbp := h.1
  have hpl : p < w.heap.size := by obtain ⟨_, v, hp, _⟩ := h; exact lies_lt hp
  have hbase : base ≤ w.heap.size := by omega
  obtain ⟨T, HT⟩ : ∃ T, Hid (T = m.txt) := ⟨_, rfl⟩
  rw [← HT.out] at hget hdrop ⊢
  obtain ⟨R, HR⟩ : ∃ R, Hid (R = (rget rs m).getD 0) := ⟨_, rfl⟩
  obtain ⟨S, HS⟩ : ∃ S, Hid (S = (rget rs m).isSome) := ⟨_, rfl⟩
  rw [← HR.out, ← HS.out] at hget ⊢
  rw [← HS.out] at hdrop
  have hl1 : (rdrop rs m).length ≤ 1000 := Nat.le_trans (List.length_filter_le _ _) hl
  obtain ⟨qs, Hqs⟩ : ∃ qs, Hid (qs = rdrop rs m) := ⟨_, rfl⟩
  rw [← Hqs.out] at hdrop hl1 ⊢
  have HG := Lib.hid hget; clear hget
  have HD := Lib.hid hdrop; clear hdrop h
  obtain ⟨i0, hi, hz0, hz1, hz2⟩ := info_parts (show (Try.prog.info? 79).map (fun i => (i.zero, i.size, i.bytes)) = some (some (.agg #[.string ⟨#[]⟩, .int .i64 0]), 2, 24) by kernel_rfl)
  go_enter Try.func33, Try.ntmps33
  go_wp2_with (first
    | (go_at_call 35; (with_reducible refine (HG.out).mono ?_); rintro r w1 ⟨rfl, rfl⟩)
    | (go_at_call 37; (with_reducible refine (HD.out).mono ?_); rintro r w1 ⟨rfl, hR1, hg1⟩))
  obtain ⟨_, v, hp, hown⟩ := hR1
  obtain ⟨A, cap, rfl⟩ := slice_of hown
  have Hown := Lib.hid hown; clear hown
  have Hp := Lib.hid hp; clear hp
  have Hg1 := Lib.hid hg1; clear hg1
  have hpl1 : p < w1.heap.size := lies_lt Hp.out
  have hbase1 : base ≤ w1.heap.size := by omega
  go_loopw [10, 11, 12] (fun v10 v11 v12 wr => ∃ (k : Nat) (dn : Bool), k ≤ qs.length ∧ v12 = .int .i64 k ∧ v11 = .bool dn ∧ Hid (dn = (insT m n (qs.take k)).2) ∧ wr.ownsRow w1.heap.size 79 2 v10 (insT m n (qs.take k)).1.length (flatR (insT m n (qs.take k)).1) ∧ Below w1.heap.size w1 wr) (fun _ _ v12 _ => qs.length - (intOf v12).toNat)
  case atStart => exact ⟨0, false, Nat.zero_le _, rfl, rfl, rfl, World.ownsRow_nil _ _ _ _, Below.refl _ _⟩
  case round =>
    obtain ⟨k, dn, hk, rfl, rfl, Hdn, hrow, hb⟩ := hrel
    have hc : wr.cell? ⟨p, 0, none⟩ = some (.slice A qs.length cap) := (hb.cell (p := ⟨p, 0, none⟩) hpl1).trans (lies_cell Hp.out 0)
    have hkl : (insT m n (qs.take k)).1.length ≤ 2 * k := by have := insT_len m n (qs.take k) ([], false); simp at this; unfold insT; omega
    by_cases hlt : k < qs.length
    · obtain ⟨g, rfl, hgl, c0, c1⟩ := row_at Hown.out k hlt
      have c0 := (hb.cell (p := ⟨g, k * 2, none⟩) hgl).trans c0
      have c1 := (hb.cell (p := ⟨g, k * 2 + 1, none⟩) hgl).trans c1
      obtain ⟨x, Hx⟩ : ∃ x, Hid (x = qs[k].1) := ⟨qs[k].1, rfl⟩
      obtain ⟨y, Hy⟩ : ∃ y, Hid (y = qs[k].2) := ⟨qs[k].2, rfl⟩
      obtain ⟨X, HX⟩ : ∃ X, Hid (X = x.txt) := ⟨_, rfl⟩
      rw [← Hx.out, ← HX.out] at c0
      rw [← Hy.out] at c1
      have HTK : Hid (qs.take (k + 1) = qs.take k ++ [(x, y)]) := by show _ = _; rw [List.take_succ_eq_append_getElem hlt, Hx.out, Hy.out]
      have hbs := hb.size
      have Hone : Hid (∀ u ∈ [Value.string X, .int .i64 y], u.oneCell' = true) := by show ∀ u ∈ _, _; rw [HX.out]; exact oneR (x, y)
      have HoneT : Hid (∀ u ∈ [Value.string T, .int .i64 n], u.oneCell' = true) := by show ∀ u ∈ _, _; rw [HT.out]; exact oneR (m, n)
      have HINS : Hid (insT m n (qs.take (k + 1)) = insS m n (insT m n (qs.take k)) (x, y)) := by show _ = _; rw [HTK.out, insT_snoc]
      cases dn
      · obtain ⟨B1, HB1⟩ : ∃ B1, Hid (B1 = Op.bytesLess X.toList T.toList) := ⟨_, rfl⟩
        obtain ⟨B2, HB2⟩ : ∃ B2 : Bool, Hid (B2 = (X.toList == T.toList)) := ⟨_, rfl⟩
        have hB1 : Op.bytesLess X.toList T.toList = B1 := HB1.out.symm
        have hB2 : (X.toList == T.toList) = B2 := HB2.out.symm
        have HGT : Hid ((B1 = false ∧ B2 = false) ↔ m.bytes < x.bytes) := by
          show _ ↔ _
          rw [HB1.out, HB2.out, HX.out, HT.out, less_txt, txt_eq]
          simp only [decide_eq_false_iff_not]
          constructor
          · rintro ⟨h1, h2⟩
            by_cases h : m.bytes < x.bytes
            · exact h
            · exact absurd (M6.bytes_inj (List.le_antisymm (List.not_lt.1 h) (List.not_lt.1 h1))) h2
          · intro h
            exact ⟨fun h' => List.lt_irrefl _ (List.lt_trans h h'), fun e => by rw [e] at h; exact List.lt_irrefl _ h⟩
        clear HB1 HB2
        cases B1 <;> cases B2
        · have HSt : Hid (insT m n (qs.take (k + 1)) = ((insT m n (qs.take k)).1 ++ [(m, n)] ++ [(x, y)], true)) := by
            show _ = _
            rw [HINS.out]; unfold insS
            rw [if_pos ⟨Hdn.out.symm, HGT.out.1 ⟨rfl, rfl⟩⟩]
          go_wp2_with (first
            | (at_builtin; refine wpList_append_lies _ rfl _ _ 65 (by rfl) w1.heap.size 79 i0 (.agg #[.string ⟨#[]⟩, .int .i64 0]) 2 24 Try.underlying65 hi hz0 hz1 hz2 rfl (by decide) _ _ _ (by rfl) (hrow.alloc _) ⟨wr.heap.size, 0, none⟩ 1 1 [.string T, .int .i64 n] (by rfl) rfl (World.news_of_block (heap_alloc_new wr _)) HoneT.out (by omega) (by unfold maxLen; omega) (by omega) (by simp; omega) _ rfl ?_; intro gg cap2 w2 hown2 hgrow2 hat2 hlt2
               (have HB2 : Below w1.heap.size w1 w2 := (hb.alloc hb.size (.cells #[.string T, .int .i64 n] 79)).grown hgrow2 (by simp; omega) (fun j hj => (hrow.lt j hj).1))
               (have k0 := (HB2.cell (p := ⟨g, k * 2, none⟩) hgl).trans ((hb.cell (p := ⟨g, k * 2, none⟩) hgl).symm.trans c0))
               (have k1 := (HB2.cell (p := ⟨g, k * 2 + 1, none⟩) hgl).trans ((hb.cell (p := ⟨g, k * 2 + 1, none⟩) hgl).symm.trans c1))
               (have kc := (HB2.cell (p := ⟨p, 0, none⟩) hpl1).trans ((hb.cell (p := ⟨p, 0, none⟩) hpl1).symm.trans hc))
               (have hbs2 := HB2.size))
            | (at_builtin; refine wpList_append_lies _ rfl _ _ 65 (by rfl) w1.heap.size 79 i0 (.agg #[.string ⟨#[]⟩, .int .i64 0]) 2 24 Try.underlying65 hi hz0 hz1 hz2 rfl (by decide) _ _ _ (by rfl) (hown2.alloc _) ⟨w2.heap.size, 0, none⟩ 1 1 [.string X, .int .i64 y] (by rfl) rfl (World.news_of_block (heap_alloc_new w2 _)) Hone.out (by omega) (by unfold maxLen; omega) (by omega) (by simp; omega) _ rfl ?_; intro gg3 cap3 w3 hown3 hgrow3 hat3 hlt3))
          have HBe : Below w1.heap.size w1 w3 := (HB2.alloc HB2.size (.cells #[.string X, .int .i64 y] 79)).grown hgrow3 (by simp; omega) (fun j hj => (hown2.lt j hj).1)
          go_roundw
          case rel =>
            refine ⟨k + 1, true, by omega, by go_num, rfl, ?_, ?_, HBe⟩
            · show _ = _; rw [HSt.out]
            · rw [HSt.out, List.length_append, List.length_append, flatR_snoc, flatR_snoc]
              rw [HX.out, HT.out] at hown3
              exact hown3
          case measure => simp [intOf]; omega
        all_goals
          have HSt : Hid (insT m n (qs.take (k + 1)) = ((insT m n (qs.take k)).1 ++ [(x, y)], false)) := by
            show _ = _
            rw [HINS.out]; unfold insS
            rw [if_neg (fun h => by have := HGT.out.2 h.2; simp at this), ← Hdn.out]
          go_wp2_with (first
            | (at_builtin; refine wpList_append_lies _ rfl _ _ 65 (by rfl) w1.heap.size 79 i0 (.agg #[.string ⟨#[]⟩, .int .i64 0]) 2 24 Try.underlying65 hi hz0 hz1 hz2 rfl (by decide) _ _ _ (by rfl) (hrow.alloc _) ⟨wr.heap.size, 0, none⟩ 1 1 [.string X, .int .i64 y] (by rfl) rfl (World.news_of_block (heap_alloc_new wr _)) Hone.out (by omega) (by unfold maxLen; omega) (by omega) (by simp; omega) _ rfl ?_; intro gg cap2 w2 hown2 hgrow2 hat2 hlt2))
          have HBe : Below w1.heap.size w1 w2 := (hb.alloc hb.size (.cells #[.string X, .int .i64 y] 79)).grown hgrow2 (by simp; omega) (fun j hj => (hrow.lt j hj).1)
          go_roundw
          case rel =>
            refine ⟨k + 1, false, by omega, by go_num, rfl, ?_, ?_, HBe⟩
            · show _ = _; rw [HSt.out]
            · rw [HSt.out, List.length_append, flatR_snoc]
              rw [HX.out] at hown2
              exact hown2
          case measure => simp [intOf]; omega
      · have HSt : Hid (insT m n (qs.take (k + 1)) = ((insT m n (qs.take k)).1 ++ [(x, y)], true)) := by
          show _ = _
          rw [HINS.out]; unfold insS
          rw [if_neg (fun h => by rw [← Hdn.out] at h; cases h.1), ← Hdn.out]
        go_wp2_with (first
          | (at_builtin; refine wpList_append_lies _ rfl _ _ 65 (by rfl) w1.heap.size 79 i0 (.agg #[.string ⟨#[]⟩, .int .i64 0]) 2 24 Try.underlying65 hi hz0 hz1 hz2 rfl (by decide) _ _ _ (by rfl) (hrow.alloc _) ⟨wr.heap.size, 0, none⟩ 1 1 [.string X, .int .i64 y] (by rfl) rfl (World.news_of_block (heap_alloc_new wr _)) Hone.out (by omega) (by unfold maxLen; omega) (by omega) (by simp; omega) _ rfl ?_; intro gg cap2 w2 hown2 hgrow2 hat2 hlt2))
        have HBe : Below w1.heap.size w1 w2 := (hb.alloc hb.size (.cells #[.string X, .int .i64 y] 79)).grown hgrow2 (by simp; omega) (fun j hj => (hrow.lt j hj).1)
        go_roundw
        case rel =>
          refine ⟨k + 1, true, by omega, by go_num, rfl, ?_, ?_, HBe⟩
          · show _ = _; rw [HSt.out]
          · rw [HSt.out, List.length_append, flatR_snoc]
            rw [HX.out] at hown2
            exact hown2
        case measure => simp [intOf]; omega
    · have hkk : k = qs.length := by omega
      subst hkk
      rw [List.take_length] at hrow hkl Hdn
      have hf : wr.frozen? ⟨p, 0, none⟩ = false := lies_frozen (lies_below Hp.out hb hpl1) 0
      have hbs := hb.size
      have HoneT : Hid (∀ u ∈ [Value.string T, .int .i64 n], u.oneCell' = true) := by show ∀ u ∈ _, _; rw [HT.out]; exact oneR (m, n)
      have HFIN := ins_fin m n qs []
      rw [List.nil_append] at HFIN
      replace HFIN : (if (insT m n qs).2 then (insT m n qs).1 else (insT m n qs).1 ++ [(m, n)]) = rins m n qs := HFIN
      have HFIN := Lib.hid HFIN
      cases dn
      · have HL : Hid (rins m n qs = (insT m n qs).1 ++ [(m, n)]) := by show _ = _; rw [← HFIN.out, ← Hdn.out]; rfl
        go_wp2_with (first
          | (at_builtin; refine wpList_append_lies _ rfl _ _ 65 (by rfl) w1.heap.size 79 i0 (.agg #[.string ⟨#[]⟩, .int .i64 0]) 2 24 Try.underlying65 hi hz0 hz1 hz2 rfl (by decide) _ _ _ (by rfl) (hrow.alloc _) ⟨wr.heap.size, 0, none⟩ 1 1 [.string T, .int .i64 n] (by rfl) rfl (World.news_of_block (heap_alloc_new wr _)) HoneT.out (by omega) (by unfold maxLen; omega) (by omega) (by simp; omega) _ rfl ?_; intro gg cap2 w2 hown2 hgrow2 hat2 hlt2
             (have HB2 : Below w1.heap.size w1 w2 := (hb.alloc hb.size (.cells #[.string T, .int .i64 n] 79)).grown hgrow2 (by simp; omega) (fun j hj => (hrow.lt j hj).1))
             (have kc := (HB2.cell (p := ⟨p, 0, none⟩) hpl1).trans ((hb.cell (p := ⟨p, 0, none⟩) hpl1).symm.trans hc))
             (have kf : w2.frozen? ⟨p, 0, none⟩ = false := lies_frozen (lies_below Hp.out HB2 hpl1) 0)))
        go_returns
        refine ⟨rfl, ?_⟩
        rw [HL.out]
        refine ref_end hbp Hp.out HB2 hpl1 hbase1 Hg1.out ?_
        rw [List.length_append, flatR_snoc]
        rw [HT.out] at hown2
        exact hown2
      · have HL : Hid (rins m n qs = (insT m n qs).1) := by show _ = _; rw [← HFIN.out, ← Hdn.out]; rfl
        obtain ⟨A2, cap2, rfl⟩ := slice_of hrow
        have HROW := Lib.hid hrow; clear hrow
        go_wp2
        go_returns
        refine ⟨rfl, ?_⟩
        rw [HL.out]
        exact ref_end hbp Hp.out hb hpl1 hbase1 Hg1.out HROW.out
end Go.Proofs.Ytechdnkkchhaaaa
