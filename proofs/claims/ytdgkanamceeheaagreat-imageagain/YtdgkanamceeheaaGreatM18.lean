/- The program's rises and mayVL. -/
import Derived.Test.YtdgkanamceeheaaGreatM17
import Derived.BigQuiet
import Derived.WalkSmall
set_option linter.unusedVariables false
set_option maxRecDepth 100000
namespace Go.Proofs.YtdgkanamceeheaaGreat
open Go.RowKit

theorem val_int {k : IntKind} {a b : Int} (h : a = b) : Value.int k a = .int k b := by rw [h]
set_option maxHeartbeats 2000000 in
theorem rises_any (A : Option Addr) (cap : Nat) (l : List Int) (w : World) (hx : IntsAt w A l) (hl : l.length ≤ maxLen) : Calls Tryz.prog 103 #[.slice A l.length cap] w fun e w' => e = .returned (.bool (PitotConf.rises l)) ∧ Below w.heap.size w w' := by
  unfold maxLen at hl
  obtain ⟨m, Hm⟩ : ∃ m, Hid (l.length = m) := ⟨_, rfl⟩
  obtain ⟨R, HR⟩ : ∃ R, Hid (PitotConf.rises l = R) := ⟨_, rfl⟩
  rw [HR.out]
  rw [Hm.out] at hl ⊢
  have HX := Lib.hid hx; clear hx
  go_enter Tryz.func103, Tryz.ntmps103
  go_wp2
  go_loopw [3] (fun v3 wr => ∃ k : Nat, k ≤ m ∧ v3 = .int .i64 ((k + 1 : Nat) : Int) ∧ Hid (PitotConf.rises (l.drop k) = R) ∧ Below w.heap.size w wr) (fun v3 _ => m + 1 - (intOf v3).toNat)
  case atStart => exact ⟨0, Nat.zero_le _, rfl, HR, Below.refl _ _⟩
  case round =>
    obtain ⟨k, hk, rfl, ht, hB⟩ := hrel
    have HB := Lib.hid hB; clear hB
    obtain ⟨p, Hp⟩ : ∃ p : Int, Hid (((k + 1 : Nat) : Int) = p) := ⟨_, rfl⟩
    have hp := Hp.out
    rw [hp]
    by_cases hkm : k + 1 < m
    · have hk1 : k < l.length := by rw [Hm.out]; omega
      have hk2 : k + 1 < l.length := by rw [Hm.out]; omega
      have e1 : decide (p < (m : Int)) = true := decide_eq_true (by omega)
      have p0 : 0 ≤ p := by omega
      have p1 : p < (m : Int) := by omega
      have p2 : p.toNat = k + 1 := by omega
      have q0 : 0 ≤ p - 1 := by omega
      have q1 : p - 1 < (m : Int) := by omega
      have q2 : (p - 1).toNat = k := by omega
      have q3 : IntKind.i64.wrap (p - 1) = p - 1 := IntWalk.i64_in _ (by omega)
      have q4 : IntKind.i64.wrap (p + 1) = p + 1 := IntWalk.i64_in _ (by omega)
      obtain ⟨b, off, rfl, hb, hat1⟩ := HX.out.get hk1
      obtain ⟨b2, off2, e2, hb2, hat2⟩ := HX.out.get hk2
      injection e2 with e2; injection e2 with e2 e3 _; subst e2; subst e3
      have hat1 : wr.cell? ⟨b, off + k, none⟩ = some (.int .i64 l[k]) := (HB.out.cell hb).trans hat1
      have hat2 : wr.cell? ⟨b, off + (k + 1), none⟩ = some (.int .i64 l[k + 1]) := (HB.out.cell hb).trans hat2
      have hs : PitotConf.rises (l.drop k) = (decide (l[k] < l[k + 1]) && PitotConf.rises (l.drop (k + 1))) := by
        rw [List.drop_eq_getElem_cons hk1, List.drop_eq_getElem_cons hk2, PitotConf.rises, ← List.drop_eq_getElem_cons hk2]
      generalize l[k] = x at hat1 hs
      generalize l[k + 1] = y at hat2 hs
      by_cases hxy : x < y
      · have f1 : decide (y ≤ x) = false := decide_eq_false (by omega)
        have HT : Hid (PitotConf.rises (l.drop (k + 1)) = R) := by
          show _ = _
          rw [← ht.out, hs, decide_eq_true hxy]; rfl
        clear hs hxy ht
        go_wp2
        go_quiet (fail)
        go_wp2
        go_roundw
        case rel => exact ⟨k + 1, by omega, val_int (by omega), HT, below_drewN HB.out nq⟩
        case measure => simp [intOf]; omega
      · have f1 : decide (y ≤ x) = true := decide_eq_true (by omega)
        have HT : Hid (R = false) := by
          show _ = _
          rw [← ht.out, hs, decide_eq_false hxy]; rfl
        clear hs hxy ht
        go_wp2
        go_quiet (fail)
        go_wp2
        go_returns
        rw [HT.out]
        exact ⟨rfl, below_drewN HB.out nq⟩
    · have e1 : decide (p < (m : Int)) = false := decide_eq_false (by omega)
      have HT : Hid (R = true) := by
        show _ = _
        rw [← ht.out]
        have h2 : (l.drop k).length ≤ 1 := by rw [List.length_drop, Hm.out]; omega
        match l.drop k, h2 with
        | [], _ => rfl
        | [_], _ => rfl
      clear ht
      go_wp2
      go_returns
      rw [HT.out]
      exact ⟨rfl, HB.out⟩

/-- May a link be, whatever the others are and wherever it goes? -/
def mayV (hosts vid vhost vbag vsmax vsubs vskew : Int) (tl : Nat) : Bool :=
  (decide (1 ≤ vid) && decide (vid ≤ 65535)) && (PitotConf.isHost hosts vhost && ((decide (0 ≤ vbag) && decide (vbag ≤ 7)) && ((decide (64 ≤ vsmax) && decide (vsmax ≤ 1518)) && ((decide (1 ≤ vsubs) && decide (vsubs ≤ 4)) && ((decide (0 ≤ vskew) && decide (vskew ≤ 1073741824)) && decide (0 < (tl : Int)))))))
set_option maxHeartbeats 4000000 in
theorem mayVL_any (hosts major : Int) (pA wA vA qA : Option Addr) (pl pc wl wk vl vc ql qc : Nat) (vid vhost vbag vsmax vsubs vskew : Int) (vhigh : Bool) (tA : Option Addr) (tl tc : Nat) (w : World) (h0 : -9223372036854775807 ≤ hosts) (h1 : hosts ≤ 9223372036854775807) : Calls Tryz.prog 102 #[.agg #[.int .i64 hosts, .slice pA pl pc, .int .i64 major, .slice wA wl wk, .slice vA vl vc, .slice qA ql qc], .agg #[.int .i64 vid, .int .i64 vhost, .int .i64 vbag, .int .i64 vsmax, .bool vhigh, .int .i64 vsubs, .int .i64 vskew, .slice tA tl tc]] w fun e w' => e = .returned (.bool (mayV hosts vid vhost vbag vsmax vsubs vskew tl)) ∧ Below w.heap.size w w' := by
  have H1 := fun w => within_any vid 1 65535 w
  have H2 := fun w => isHost_any hosts major pA wA vA qA pl pc wl wk vl vc ql qc vhost w h0 h1
  have H3 := fun w => within_any vbag 0 7 w
  have H4 := fun w => within_any vsmax 64 1518 w
  have H5 := fun w => within_any vsubs 1 4 w
  have H6 := fun w => within_any vskew 0 1073741824 w
  unfold mayV
  generalize (decide (1 ≤ vid) && decide (vid ≤ 65535)) = b1 at H1 ⊢
  generalize PitotConf.isHost hosts vhost = b2 at H2 ⊢
  generalize (decide (0 ≤ vbag) && decide (vbag ≤ 7)) = b3 at H3 ⊢
  generalize (decide (64 ≤ vsmax) && decide (vsmax ≤ 1518)) = b4 at H4 ⊢
  generalize (decide (1 ≤ vsubs) && decide (vsubs ≤ 4)) = b5 at H5 ⊢
  generalize (decide (0 ≤ vskew) && decide (vskew ≤ 1073741824)) = b6 at H6 ⊢
  obtain ⟨b7, hb7⟩ : ∃ b7, decide (0 < (tl : Int)) = b7 := ⟨_, rfl⟩
  have hb7' : decide (0 < tl) = b7 := by rw [← hb7]; exact decide_eq_decide.2 ⟨fun h => by omega, fun h => by omega⟩
  rw [hb7]
  have H1 := Lib.hid H1; have H2 := Lib.hid H2; have H3 := Lib.hid H3; have H4 := Lib.hid H4; have H5 := Lib.hid H5; have H6 := Lib.hid H6
  clear h0 h1
  go_enter Tryz.func102, Tryz.ntmps102
  go_upto_region 1 with (fail)
  have CB : Hid (((w.alloc (.cells #[.int .i64 hosts, .slice pA pl pc, .int .i64 major, .slice wA wl wk, .slice vA vl vc, .slice qA ql qc] 28)).alloc (.cells #[.int .i64 vid, .int .i64 vhost, .int .i64 vbag, .int .i64 vsmax, .bool vhigh, .int .i64 vsubs, .int .i64 vskew, .slice tA tl tc] 60)).heap[w.heap.size]? = some (.cells #[.int .i64 hosts, .slice pA pl pc, .int .i64 major, .slice wA wl wk, .slice vA vl vc, .slice qA ql qc] 28)) := lies_alloc (heap_alloc_new w _) _
  have XB : Hid (((w.alloc (.cells #[.int .i64 hosts, .slice pA pl pc, .int .i64 major, .slice wA wl wk, .slice vA vl vc, .slice qA ql qc] 28)).alloc (.cells #[.int .i64 vid, .int .i64 vhost, .int .i64 vbag, .int .i64 vsmax, .bool vhigh, .int .i64 vsubs, .int .i64 vskew, .slice tA tl tc] 60)).heap[w.heap.size + 1]? = some (.cells #[.int .i64 vid, .int .i64 vhost, .int .i64 vbag, .int .i64 vsmax, .bool vhigh, .int .i64 vsubs, .int .i64 vskew, .slice tA tl tc] 60)) := by
    have := heap_alloc_new (w.alloc (.cells #[.int .i64 hosts, .slice pA pl pc, .int .i64 major, .slice wA wl wk, .slice vA vl vc, .slice qA ql qc] 28)) (.cells #[.int .i64 vid, .int .i64 vhost, .int .i64 vbag, .int .i64 vsmax, .bool vhigh, .int .i64 vsubs, .int .i64 vskew, .slice tA tl tc] 60)
    rw [World.size_alloc] at this
    exact this
  have BB : Hid (Below w.heap.size w ((w.alloc (.cells #[.int .i64 hosts, .slice pA pl pc, .int .i64 major, .slice wA wl wk, .slice vA vl vc, .slice qA ql qc] 28)).alloc (.cells #[.int .i64 vid, .int .i64 vhost, .int .i64 vbag, .int .i64 vsmax, .bool vhigh, .int .i64 vsubs, .int .i64 vskew, .slice tA tl tc] 60))) := (((Below.refl _ w).alloc (Nat.le_refl _) _)).alloc (((Below.refl _ w).alloc (Nat.le_refl _) _)).size _
  generalize (w.alloc (.cells #[.int .i64 hosts, .slice pA pl pc, .int .i64 major, .slice wA wl wk, .slice vA vl vc, .slice qA ql qc] 28)).alloc (.cells #[.int .i64 vid, .int .i64 vhost, .int .i64 vbag, .int .i64 vsmax, .bool vhigh, .int .i64 vsubs, .int .i64 vskew, .slice tA tl tc] 60) = W1 at CB XB BB ⊢
  obtain ⟨c0, c1, c2, c3, c4, c5⟩ := cells_6 CB.out
  obtain ⟨x0, x1, x2, x3, x4, x5, x6, x7⟩ := cells_8 XB.out
  cases b1
  · go_wp2_with (first
      | (go_at_call 75; (with_reducible refine (H1.out _).mono ?_); rintro e w3 ⟨rfl, rfl⟩))
    go_returns
    exact ⟨rfl, BB.out⟩
  · skip
    cases b2
    · go_wp2_with (first
        | (go_at_call 75; (with_reducible refine (H1.out _).mono ?_); rintro e w3 ⟨rfl, rfl⟩)
        | (go_at_call 76; (with_reducible refine (H2.out _).mono ?_); rintro e w2 ⟨rfl, hb2⟩
           (have C2 := Lib.hid (lies_below CB.out hb2 (lies_lt CB.out)))
           (have X2 := Lib.hid (lies_below XB.out hb2 (lies_lt XB.out)))
           (have B2 := Lib.hid (BB.out.trans (hb2.mono BB.out.size)))
           (clear hb2 c0 c1 c2 c3 c4 c5 x0 x1 x2 x3 x4 x5 x6 x7)
           (obtain ⟨c0, c1, c2, c3, c4, c5⟩ := cells_6 C2.out)
           (obtain ⟨x0, x1, x2, x3, x4, x5, x6, x7⟩ := cells_8 X2.out)))
      go_returns
      exact ⟨rfl, B2.out⟩
    · skip
      cases b3
      · go_wp2_with (first
          | (go_at_call 75; (with_reducible refine (H1.out _).mono ?_); rintro e w3 ⟨rfl, rfl⟩)
          | (go_at_call 76; (with_reducible refine (H2.out _).mono ?_); rintro e w2 ⟨rfl, hb2⟩
             (have C2 := Lib.hid (lies_below CB.out hb2 (lies_lt CB.out)))
             (have X2 := Lib.hid (lies_below XB.out hb2 (lies_lt XB.out)))
             (have B2 := Lib.hid (BB.out.trans (hb2.mono BB.out.size)))
             (clear hb2 c0 c1 c2 c3 c4 c5 x0 x1 x2 x3 x4 x5 x6 x7)
             (obtain ⟨c0, c1, c2, c3, c4, c5⟩ := cells_6 C2.out)
             (obtain ⟨x0, x1, x2, x3, x4, x5, x6, x7⟩ := cells_8 X2.out))
          | (go_at_call 75; (with_reducible refine (H3.out _).mono ?_); rintro e w3 ⟨rfl, rfl⟩))
        go_returns
        exact ⟨rfl, B2.out⟩
      · skip
        cases b4
        · go_wp2_with (first
            | (go_at_call 75; (with_reducible refine (H1.out _).mono ?_); rintro e w3 ⟨rfl, rfl⟩)
            | (go_at_call 76; (with_reducible refine (H2.out _).mono ?_); rintro e w2 ⟨rfl, hb2⟩
               (have C2 := Lib.hid (lies_below CB.out hb2 (lies_lt CB.out)))
               (have X2 := Lib.hid (lies_below XB.out hb2 (lies_lt XB.out)))
               (have B2 := Lib.hid (BB.out.trans (hb2.mono BB.out.size)))
               (clear hb2 c0 c1 c2 c3 c4 c5 x0 x1 x2 x3 x4 x5 x6 x7)
               (obtain ⟨c0, c1, c2, c3, c4, c5⟩ := cells_6 C2.out)
               (obtain ⟨x0, x1, x2, x3, x4, x5, x6, x7⟩ := cells_8 X2.out))
            | (go_at_call 75; (with_reducible refine (H3.out _).mono ?_); rintro e w3 ⟨rfl, rfl⟩)
            | (go_at_call 75; (with_reducible refine (H4.out _).mono ?_); rintro e w3 ⟨rfl, rfl⟩))
          go_returns
          exact ⟨rfl, B2.out⟩
        · skip
          cases b5
          · go_wp2_with (first
              | (go_at_call 75; (with_reducible refine (H1.out _).mono ?_); rintro e w3 ⟨rfl, rfl⟩)
              | (go_at_call 76; (with_reducible refine (H2.out _).mono ?_); rintro e w2 ⟨rfl, hb2⟩
                 (have C2 := Lib.hid (lies_below CB.out hb2 (lies_lt CB.out)))
                 (have X2 := Lib.hid (lies_below XB.out hb2 (lies_lt XB.out)))
                 (have B2 := Lib.hid (BB.out.trans (hb2.mono BB.out.size)))
                 (clear hb2 c0 c1 c2 c3 c4 c5 x0 x1 x2 x3 x4 x5 x6 x7)
                 (obtain ⟨c0, c1, c2, c3, c4, c5⟩ := cells_6 C2.out)
                 (obtain ⟨x0, x1, x2, x3, x4, x5, x6, x7⟩ := cells_8 X2.out))
              | (go_at_call 75; (with_reducible refine (H3.out _).mono ?_); rintro e w3 ⟨rfl, rfl⟩)
              | (go_at_call 75; (with_reducible refine (H4.out _).mono ?_); rintro e w3 ⟨rfl, rfl⟩)
              | (go_at_call 75; (with_reducible refine (H5.out _).mono ?_); rintro e w3 ⟨rfl, rfl⟩))
            go_returns
            exact ⟨rfl, B2.out⟩
          · skip
            cases b6
            · go_wp2_with (first
                | (go_at_call 75; (with_reducible refine (H1.out _).mono ?_); rintro e w3 ⟨rfl, rfl⟩)
                | (go_at_call 76; (with_reducible refine (H2.out _).mono ?_); rintro e w2 ⟨rfl, hb2⟩
                   (have C2 := Lib.hid (lies_below CB.out hb2 (lies_lt CB.out)))
                   (have X2 := Lib.hid (lies_below XB.out hb2 (lies_lt XB.out)))
                   (have B2 := Lib.hid (BB.out.trans (hb2.mono BB.out.size)))
                   (clear hb2 c0 c1 c2 c3 c4 c5 x0 x1 x2 x3 x4 x5 x6 x7)
                   (obtain ⟨c0, c1, c2, c3, c4, c5⟩ := cells_6 C2.out)
                   (obtain ⟨x0, x1, x2, x3, x4, x5, x6, x7⟩ := cells_8 X2.out))
                | (go_at_call 75; (with_reducible refine (H3.out _).mono ?_); rintro e w3 ⟨rfl, rfl⟩)
                | (go_at_call 75; (with_reducible refine (H4.out _).mono ?_); rintro e w3 ⟨rfl, rfl⟩)
                | (go_at_call 75; (with_reducible refine (H5.out _).mono ?_); rintro e w3 ⟨rfl, rfl⟩)
                | (go_at_call 75; (with_reducible refine (H6.out _).mono ?_); rintro e w3 ⟨rfl, rfl⟩))
              go_returns
              exact ⟨rfl, B2.out⟩
            · skip
              cases b7
              · go_wp2_with (first
                  | (go_at_call 75; (with_reducible refine (H1.out _).mono ?_); rintro e w3 ⟨rfl, rfl⟩)
                  | (go_at_call 76; (with_reducible refine (H2.out _).mono ?_); rintro e w2 ⟨rfl, hb2⟩
                     (have C2 := Lib.hid (lies_below CB.out hb2 (lies_lt CB.out)))
                     (have X2 := Lib.hid (lies_below XB.out hb2 (lies_lt XB.out)))
                     (have B2 := Lib.hid (BB.out.trans (hb2.mono BB.out.size)))
                     (clear hb2 c0 c1 c2 c3 c4 c5 x0 x1 x2 x3 x4 x5 x6 x7)
                     (obtain ⟨c0, c1, c2, c3, c4, c5⟩ := cells_6 C2.out)
                     (obtain ⟨x0, x1, x2, x3, x4, x5, x6, x7⟩ := cells_8 X2.out))
                  | (go_at_call 75; (with_reducible refine (H3.out _).mono ?_); rintro e w3 ⟨rfl, rfl⟩)
                  | (go_at_call 75; (with_reducible refine (H4.out _).mono ?_); rintro e w3 ⟨rfl, rfl⟩)
                  | (go_at_call 75; (with_reducible refine (H5.out _).mono ?_); rintro e w3 ⟨rfl, rfl⟩)
                  | (go_at_call 75; (with_reducible refine (H6.out _).mono ?_); rintro e w3 ⟨rfl, rfl⟩))
                go_returns
                exact ⟨rfl, B2.out⟩
              · go_wp2_with (first
                  | (go_at_call 75; (with_reducible refine (H1.out _).mono ?_); rintro e w3 ⟨rfl, rfl⟩)
                  | (go_at_call 76; (with_reducible refine (H2.out _).mono ?_); rintro e w2 ⟨rfl, hb2⟩
                     (have C2 := Lib.hid (lies_below CB.out hb2 (lies_lt CB.out)))
                     (have X2 := Lib.hid (lies_below XB.out hb2 (lies_lt XB.out)))
                     (have B2 := Lib.hid (BB.out.trans (hb2.mono BB.out.size)))
                     (clear hb2 c0 c1 c2 c3 c4 c5 x0 x1 x2 x3 x4 x5 x6 x7)
                     (obtain ⟨c0, c1, c2, c3, c4, c5⟩ := cells_6 C2.out)
                     (obtain ⟨x0, x1, x2, x3, x4, x5, x6, x7⟩ := cells_8 X2.out))
                  | (go_at_call 75; (with_reducible refine (H3.out _).mono ?_); rintro e w3 ⟨rfl, rfl⟩)
                  | (go_at_call 75; (with_reducible refine (H4.out _).mono ?_); rintro e w3 ⟨rfl, rfl⟩)
                  | (go_at_call 75; (with_reducible refine (H5.out _).mono ?_); rintro e w3 ⟨rfl, rfl⟩)
                  | (go_at_call 75; (with_reducible refine (H6.out _).mono ?_); rintro e w3 ⟨rfl, rfl⟩))
                go_returns
                exact ⟨rfl, B2.out⟩
end Go.Proofs.YtdgkanamceeheaaGreat
