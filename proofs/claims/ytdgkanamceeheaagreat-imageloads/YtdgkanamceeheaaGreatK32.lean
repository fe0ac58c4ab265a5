/- The document's link: the first condition (trial). -/
import Derived.Test.YtdgkanamceeheaaGreatK14
set_option linter.unusedVariables false
set_option maxRecDepth 100000
namespace Go.Proofs.YtdgkanamceeheaaGreat
open Go.RowKit
set_option maxHeartbeats 4000000 in
theorem link_bad (c : Cx) (i : Nat) (x : Vx) (w : World) (hc : c.Held w) (hi : i < c.vls.length) (hx : c.vls[i] = x)
    (h : 256 ≤ i ∨ x.id < 1 ∨ 65535 < x.id ∨ PitotConf.isHost c.hosts x.host = false ∨ x.bag < 0 ∨ 7 < x.bag ∨ x.smax < 64 ∨ 1518 < x.smax ∨ x.subs < 1 ∨ 4 < x.subs ∨ x.skew < 0 ∨ 1073741824 < x.skew ∨ x.to = []) : Calls Tryz.prog 56 #[c.val,.int .i64 i] w fun e w' => e = .returned (.int .i64 1) ∧ Below w.heap.size w w' := by
  obtain ⟨hosts,pA,pc,parts,major,wA,wk,wins,vA,vc,vls,qA,qc,ports⟩ := c
  obtain ⟨n,Hn⟩ : ∃ n,Hid (vls.length = n) := ⟨_,rfl⟩
  simp only at hc hi hx h ⊢
  have HV : Hid (VxsAt w vA vls) := hc.2.2.1
  clear hc
  show Calls Tryz.prog 56 #[.agg #[.int .i64 hosts,.slice pA parts.length pc,.int .i64 major,.slice wA wins.length wk,.slice vA vls.length vc,.slice qA ports.length qc],.int .i64 i] w _
  rw [Hn.out] at hi ⊢
  have hil : i < vls.length := by rw [Hn.out];exact hi
  obtain ⟨b,off,rfl,hb,hat,hxh⟩ := HV.out.get hil
  rw [hx] at hat hxh
  have HXH := Lib.hid hxh;clear hxh
  have HXI := Lib.hid hx;clear hx
  have k1 : Below w.heap.size w (w.alloc (.cells #[.int .i64 hosts,.slice pA parts.length pc,.int .i64 major,.slice wA wins.length wk,.slice (some ⟨b,off,none⟩) n vc,.slice qA ports.length qc] 28)) := (Below.refl _ w).alloc (Nat.le_refl _) _
  have hat := hat.below k1 hb
  obtain ⟨tl,Htl⟩ : ∃ tl,Hid (x.to.length = tl) := ⟨_,rfl⟩
  unfold VxAt at hat
  rw [Htl.out] at hat
  obtain ⟨a0,a1,a2,a3,a4,a5,a6,a7⟩ := hat
  have hiI : (i : Int) < (n : Int) := by omega
  have hH := fun w => host_any ⟨hosts,pA,pc,parts,major,wA,wk,wins,some ⟨b,off,none⟩,vc,vls,qA,qc,ports⟩ x.host w
  obtain ⟨P,HPP⟩ : ∃ P,Hid (PitotConf.isHost hosts x.host = P) := ⟨_,rfl⟩
  have hP : ∀ w,Calls Tryz.prog 54 #[.agg #[.int .i64 hosts,.slice pA parts.length pc,.int .i64 major,.slice wA wins.length wk,.slice (some ⟨b,off,none⟩) n vc,.slice qA ports.length qc],.int .i64 x.host] w fun e w' => e = .returned (.bool P) ∧ Below w.heap.size w w' := fun w => by
    have := hH w
    rw [show PitotConf.isHost hosts x.host = P from HPP.out] at this
    rw [← Hn.out]
    exact this
  have HP := Lib.hid hP
  clear hP hH
  rw [show PitotConf.isHost hosts x.host = P from HPP.out] at h
  have h := Lib.hid h
  go_enter Tryz.func56,Tryz.ntmps56
  go_upto_region 2 with (fail)
  have CB : Hid (((w.alloc (.cells #[.int .i64 hosts,.slice pA parts.length pc,.int .i64 major,.slice wA wins.length wk,.slice (some ⟨b,off,none⟩) n vc,.slice qA ports.length qc] 28)).alloc (.cells #[.int .i64 x.id,.int .i64 x.host,.int .i64 x.bag,.int .i64 x.smax,.bool x.high,.int .i64 x.subs,.int .i64 x.skew,.slice x.toA tl x.toc] 60)).heap[w.heap.size]? = some (.cells #[.int .i64 hosts,.slice pA parts.length pc,.int .i64 major,.slice wA wins.length wk,.slice (some ⟨b,off,none⟩) n vc,.slice qA ports.length qc] 28)) := lies_alloc (heap_alloc_new w _) _
  have XB : Hid (((w.alloc (.cells #[.int .i64 hosts,.slice pA parts.length pc,.int .i64 major,.slice wA wins.length wk,.slice (some ⟨b,off,none⟩) n vc,.slice qA ports.length qc] 28)).alloc (.cells #[.int .i64 x.id,.int .i64 x.host,.int .i64 x.bag,.int .i64 x.smax,.bool x.high,.int .i64 x.subs,.int .i64 x.skew,.slice x.toA tl x.toc] 60)).heap[w.heap.size + 1]? = some (.cells #[.int .i64 x.id,.int .i64 x.host,.int .i64 x.bag,.int .i64 x.smax,.bool x.high,.int .i64 x.subs,.int .i64 x.skew,.slice x.toA tl x.toc] 60)) := by
    have := heap_alloc_new (w.alloc (.cells #[.int .i64 hosts,.slice pA parts.length pc,.int .i64 major,.slice wA wins.length wk,.slice (some ⟨b,off,none⟩) n vc,.slice qA ports.length qc] 28)) (.cells #[.int .i64 x.id,.int .i64 x.host,.int .i64 x.bag,.int .i64 x.smax,.bool x.high,.int .i64 x.subs,.int .i64 x.skew,.slice x.toA tl x.toc] 60)
    rw [World.size_alloc] at this
    exact this
  have BB : Hid (Below w.heap.size w ((w.alloc (.cells #[.int .i64 hosts,.slice pA parts.length pc,.int .i64 major,.slice wA wins.length wk,.slice (some ⟨b,off,none⟩) n vc,.slice qA ports.length qc] 28)).alloc (.cells #[.int .i64 x.id,.int .i64 x.host,.int .i64 x.bag,.int .i64 x.smax,.bool x.high,.int .i64 x.subs,.int .i64 x.skew,.slice x.toA tl x.toc] 60))) := k1.alloc k1.size _
  clear a0 a1 a2 a3 a4 a5 a6 a7 k1
  generalize (w.alloc (.cells #[.int .i64 hosts,.slice pA parts.length pc,.int .i64 major,.slice wA wins.length wk,.slice (some ⟨b,off,none⟩) n vc,.slice qA ports.length qc] 28)).alloc (.cells #[.int .i64 x.id,.int .i64 x.host,.int .i64 x.bag,.int .i64 x.smax,.bool x.high,.int .i64 x.subs,.int .i64 x.skew,.slice x.toA tl x.toc] 60) = W1 at CB XB BB ⊢
  obtain ⟨c0,c1,c2,c3,c4,c5⟩ := cells_6 CB.out
  obtain ⟨x0,x1,x2,x3,x4,x5,x6,x7⟩ := cells_8 XB.out
  by_cases g0 : 256 ≤ i
  · have f0 : decide (256 ≤ (i : Int)) = true := decide_eq_true (by omega)
    have f0' : decide (256 ≤ i) = true := decide_eq_true g0
    go_wp2
    go_returns
    exact ⟨rfl,BB.out⟩
  · have f0 : decide (256 ≤ (i : Int)) = false := decide_eq_false (by omega)
    have f0' : decide (256 ≤ i) = false := decide_eq_false g0
    by_cases g1 : x.id < 1
    · have f1 : decide (x.id < 1) = true := decide_eq_true g1
      go_wp2
      go_returns
      exact ⟨rfl,BB.out⟩
    · have f1 : decide (x.id < 1) = false := decide_eq_false g1
      by_cases g2 : 65535 < x.id
      · have f2 : decide (65535 < x.id) = true := decide_eq_true g2
        go_wp2
        go_returns
        exact ⟨rfl,BB.out⟩
      · have f2 : decide (65535 < x.id) = false := decide_eq_false g2
        cases P
        · go_wp2_with (first
            | (go_at_call 54;(with_reducible refine (HP.out _).mono ?_);rintro e w2 ⟨rfl,hb2⟩
               (have C2 := Lib.hid (lies_below CB.out hb2 (lies_lt CB.out)))
               (have X2 := Lib.hid (lies_below XB.out hb2 (lies_lt XB.out)))
               (have B2 := Lib.hid (BB.out.trans (hb2.mono BB.out.size)))
               (clear hb2 c0 c1 c2 c3 c4 c5 x0 x1 x2 x3 x4 x5 x6 x7)
               (obtain ⟨c0,c1,c2,c3,c4,c5⟩ := cells_6 C2.out)
               (obtain ⟨x0,x1,x2,x3,x4,x5,x6,x7⟩ := cells_8 X2.out)))
          go_returns
          exact ⟨rfl,B2.out⟩
        · skip
          by_cases g4 : x.bag < 0
          · have f4 : decide (x.bag < 0) = true := decide_eq_true g4
            go_wp2_with (first
              | (go_at_call 54;(with_reducible refine (HP.out _).mono ?_);rintro e w2 ⟨rfl,hb2⟩
                 (have C2 := Lib.hid (lies_below CB.out hb2 (lies_lt CB.out)))
                 (have X2 := Lib.hid (lies_below XB.out hb2 (lies_lt XB.out)))
                 (have B2 := Lib.hid (BB.out.trans (hb2.mono BB.out.size)))
                 (clear hb2 c0 c1 c2 c3 c4 c5 x0 x1 x2 x3 x4 x5 x6 x7)
                 (obtain ⟨c0,c1,c2,c3,c4,c5⟩ := cells_6 C2.out)
                 (obtain ⟨x0,x1,x2,x3,x4,x5,x6,x7⟩ := cells_8 X2.out)))
            go_returns
            exact ⟨rfl,B2.out⟩
          · have f4 : decide (x.bag < 0) = false := decide_eq_false g4
            by_cases g5 : 7 < x.bag
            · have f5 : decide (7 < x.bag) = true := decide_eq_true g5
              go_wp2_with (first
                | (go_at_call 54;(with_reducible refine (HP.out _).mono ?_);rintro e w2 ⟨rfl,hb2⟩
                   (have C2 := Lib.hid (lies_below CB.out hb2 (lies_lt CB.out)))
                   (have X2 := Lib.hid (lies_below XB.out hb2 (lies_lt XB.out)))
                   (have B2 := Lib.hid (BB.out.trans (hb2.mono BB.out.size)))
                   (clear hb2 c0 c1 c2 c3 c4 c5 x0 x1 x2 x3 x4 x5 x6 x7)
                   (obtain ⟨c0,c1,c2,c3,c4,c5⟩ := cells_6 C2.out)
                   (obtain ⟨x0,x1,x2,x3,x4,x5,x6,x7⟩ := cells_8 X2.out)))
              go_returns
              exact ⟨rfl,B2.out⟩
            · have f5 : decide (7 < x.bag) = false := decide_eq_false g5
              by_cases g6 : x.smax < 64
              · have f6 : decide (x.smax < 64) = true := decide_eq_true g6
                go_wp2_with (first
                  | (go_at_call 54;(with_reducible refine (HP.out _).mono ?_);rintro e w2 ⟨rfl,hb2⟩
                     (have C2 := Lib.hid (lies_below CB.out hb2 (lies_lt CB.out)))
                     (have X2 := Lib.hid (lies_below XB.out hb2 (lies_lt XB.out)))
                     (have B2 := Lib.hid (BB.out.trans (hb2.mono BB.out.size)))
                     (clear hb2 c0 c1 c2 c3 c4 c5 x0 x1 x2 x3 x4 x5 x6 x7)
                     (obtain ⟨c0,c1,c2,c3,c4,c5⟩ := cells_6 C2.out)
                     (obtain ⟨x0,x1,x2,x3,x4,x5,x6,x7⟩ := cells_8 X2.out)))
                go_returns
                exact ⟨rfl,B2.out⟩
              · have f6 : decide (x.smax < 64) = false := decide_eq_false g6
                by_cases g7 : 1518 < x.smax
                · have f7 : decide (1518 < x.smax) = true := decide_eq_true g7
                  go_wp2_with (first
                    | (go_at_call 54;(with_reducible refine (HP.out _).mono ?_);rintro e w2 ⟨rfl,hb2⟩
                       (have C2 := Lib.hid (lies_below CB.out hb2 (lies_lt CB.out)))
                       (have X2 := Lib.hid (lies_below XB.out hb2 (lies_lt XB.out)))
                       (have B2 := Lib.hid (BB.out.trans (hb2.mono BB.out.size)))
                       (clear hb2 c0 c1 c2 c3 c4 c5 x0 x1 x2 x3 x4 x5 x6 x7)
                       (obtain ⟨c0,c1,c2,c3,c4,c5⟩ := cells_6 C2.out)
                       (obtain ⟨x0,x1,x2,x3,x4,x5,x6,x7⟩ := cells_8 X2.out)))
                  go_returns
                  exact ⟨rfl,B2.out⟩
                · have f7 : decide (1518 < x.smax) = false := decide_eq_false g7
                  by_cases g8 : x.subs < 1
                  · have f8 : decide (x.subs < 1) = true := decide_eq_true g8
                    go_wp2_with (first
                      | (go_at_call 54;(with_reducible refine (HP.out _).mono ?_);rintro e w2 ⟨rfl,hb2⟩
                         (have C2 := Lib.hid (lies_below CB.out hb2 (lies_lt CB.out)))
                         (have X2 := Lib.hid (lies_below XB.out hb2 (lies_lt XB.out)))
                         (have B2 := Lib.hid (BB.out.trans (hb2.mono BB.out.size)))
                         (clear hb2 c0 c1 c2 c3 c4 c5 x0 x1 x2 x3 x4 x5 x6 x7)
                         (obtain ⟨c0,c1,c2,c3,c4,c5⟩ := cells_6 C2.out)
                         (obtain ⟨x0,x1,x2,x3,x4,x5,x6,x7⟩ := cells_8 X2.out)))
                    go_returns
                    exact ⟨rfl,B2.out⟩
                  · have f8 : decide (x.subs < 1) = false := decide_eq_false g8
                    by_cases g9 : 4 < x.subs
                    · have f9 : decide (4 < x.subs) = true := decide_eq_true g9
                      go_wp2_with (first
                        | (go_at_call 54;(with_reducible refine (HP.out _).mono ?_);rintro e w2 ⟨rfl,hb2⟩
                           (have C2 := Lib.hid (lies_below CB.out hb2 (lies_lt CB.out)))
                           (have X2 := Lib.hid (lies_below XB.out hb2 (lies_lt XB.out)))
                           (have B2 := Lib.hid (BB.out.trans (hb2.mono BB.out.size)))
                           (clear hb2 c0 c1 c2 c3 c4 c5 x0 x1 x2 x3 x4 x5 x6 x7)
                           (obtain ⟨c0,c1,c2,c3,c4,c5⟩ := cells_6 C2.out)
                           (obtain ⟨x0,x1,x2,x3,x4,x5,x6,x7⟩ := cells_8 X2.out)))
                      go_returns
                      exact ⟨rfl,B2.out⟩
                    · have f9 : decide (4 < x.subs) = false := decide_eq_false g9
                      by_cases g10 : x.skew < 0
                      · have f10 : decide (x.skew < 0) = true := decide_eq_true g10
                        go_wp2_with (first
                          | (go_at_call 54;(with_reducible refine (HP.out _).mono ?_);rintro e w2 ⟨rfl,hb2⟩
                             (have C2 := Lib.hid (lies_below CB.out hb2 (lies_lt CB.out)))
                             (have X2 := Lib.hid (lies_below XB.out hb2 (lies_lt XB.out)))
                             (have B2 := Lib.hid (BB.out.trans (hb2.mono BB.out.size)))
                             (clear hb2 c0 c1 c2 c3 c4 c5 x0 x1 x2 x3 x4 x5 x6 x7)
                             (obtain ⟨c0,c1,c2,c3,c4,c5⟩ := cells_6 C2.out)
                             (obtain ⟨x0,x1,x2,x3,x4,x5,x6,x7⟩ := cells_8 X2.out)))
                        go_returns
                        exact ⟨rfl,B2.out⟩
                      · have f10 : decide (x.skew < 0) = false := decide_eq_false g10
                        by_cases g11 : 1073741824 < x.skew
                        · have f11 : decide (1073741824 < x.skew) = true := decide_eq_true g11
                          go_wp2_with (first
                            | (go_at_call 54;(with_reducible refine (HP.out _).mono ?_);rintro e w2 ⟨rfl,hb2⟩
                               (have C2 := Lib.hid (lies_below CB.out hb2 (lies_lt CB.out)))
                               (have X2 := Lib.hid (lies_below XB.out hb2 (lies_lt XB.out)))
                               (have B2 := Lib.hid (BB.out.trans (hb2.mono BB.out.size)))
                               (clear hb2 c0 c1 c2 c3 c4 c5 x0 x1 x2 x3 x4 x5 x6 x7)
                               (obtain ⟨c0,c1,c2,c3,c4,c5⟩ := cells_6 C2.out)
                               (obtain ⟨x0,x1,x2,x3,x4,x5,x6,x7⟩ := cells_8 X2.out)))
                          go_returns
                          exact ⟨rfl,B2.out⟩
                        · have f11 : decide (1073741824 < x.skew) = false := decide_eq_false g11
                          have ht0 : tl = 0 := by
                            rcases h.out with h | h | h | h | h | h | h | h | h | h | h | h | h <;> first | omega | (cases h) | (rw [← Htl.out,h];rfl)
                          subst ht0
                          go_wp2_with (first
                            | (go_at_call 54;(with_reducible refine (HP.out _).mono ?_);rintro e w2 ⟨rfl,hb2⟩
                               (have C2 := Lib.hid (lies_below CB.out hb2 (lies_lt CB.out)))
                               (have X2 := Lib.hid (lies_below XB.out hb2 (lies_lt XB.out)))
                               (have B2 := Lib.hid (BB.out.trans (hb2.mono BB.out.size)))
                               (clear hb2 c0 c1 c2 c3 c4 c5 x0 x1 x2 x3 x4 x5 x6 x7)
                               (obtain ⟨c0,c1,c2,c3,c4,c5⟩ := cells_6 C2.out)
                               (obtain ⟨x0,x1,x2,x3,x4,x5,x6,x7⟩ := cells_8 X2.out)))
                          go_returns
                          exact ⟨rfl,B2.out⟩
end Go.Proofs.YtdgkanamceeheaaGreat
