/- The program's rises and mayVL. The program's judgeVL. -/
import Derived.Test.YtdgkanamceeheaaGreatK15
import Derived.Test.YtdgkanamceeheaaGreatK17
import Derived.BigQuiet
import Derived.WalkSmall
set_option linter.unusedVariables false
set_option maxRecDepth 100000
namespace Go.Proofs.YtdgkanamceeheaaGreat
open Go.RowKit
theorem val_int {k : IntKind} {a b : Int} (h : a = b) : Value.int k a = .int k b := by rw [h]
set_option maxHeartbeats 2000000 in
theorem rises_any (A : Option Addr) (cap : Nat) (l : List Int) (w : World) (hx : IntsAt w A l) (hl : l.length ≤ maxLen) : Calls Tryz.prog 103 #[.slice A l.length cap] w fun e w' => e = .returned (.bool (PitotConf.rises l)) ∧ Below w.heap.size w w' := by
  unfold maxLen at hl
  obtain ⟨m,Hm⟩ : ∃ m,Hid (l.length = m) := ⟨_,rfl⟩
  obtain ⟨R,HR⟩ : ∃ R,Hid (PitotConf.rises l = R) := ⟨_,rfl⟩
  rw [HR.out]
  rw [Hm.out] at hl ⊢
  have HX := Lib.hid hx;clear hx
  go_enter Tryz.func103,Tryz.ntmps103
  go_wp2
  go_loopw [3] (fun v3 wr => ∃ k : Nat,k ≤ m ∧ v3 = .int .i64 ((k + 1 : Nat) : Int) ∧ Hid (PitotConf.rises (l.drop k) = R) ∧ Below w.heap.size w wr) (fun v3 _ => m + 1 - (intOf v3).toNat)
  case atStart => exact ⟨0,Nat.zero_le _,rfl,HR,Below.refl _ _⟩
  case round =>
    obtain ⟨k,hk,rfl,ht,hB⟩ := hrel
    have HB := Lib.hid hB;clear hB
    obtain ⟨p,Hp⟩ : ∃ p : Int,Hid (((k + 1 : Nat) : Int) = p) := ⟨_,rfl⟩
    have hp := Hp.out
    rw [hp]
    by_cases hkm : k + 1 < m
    · have hk1 : k < l.length := by rw [Hm.out];omega
      have hk2 : k + 1 < l.length := by rw [Hm.out];omega
      have e1 : decide (p < (m : Int)) = true := decide_eq_true (by omega)
      have p0 : 0 ≤ p := by omega
      have p1 : p < (m : Int) := by omega
      have p2 : p.toNat = k + 1 := by omega
      have q0 : 0 ≤ p - 1 := by omega
      have q1 : p - 1 < (m : Int) := by omega
      have q2 : (p - 1).toNat = k := by omega
      have q3 : IntKind.i64.wrap (p - 1) = p - 1 := IntWalk.i64_in _ (by omega)
      have q4 : IntKind.i64.wrap (p + 1) = p + 1 := IntWalk.i64_in _ (by omega)
      obtain ⟨b,off,rfl,hb,hat1⟩ := HX.out.get hk1
      obtain ⟨b2,off2,e2,hb2,hat2⟩ := HX.out.get hk2
      injection e2 with e2;injection e2 with e2 e3 _;subst e2;subst e3
      have hat1 : wr.cell? ⟨b,off + k,none⟩ = some (.int .i64 l[k]) := (HB.out.cell hb).trans hat1
      have hat2 : wr.cell? ⟨b,off + (k + 1),none⟩ = some (.int .i64 l[k + 1]) := (HB.out.cell hb).trans hat2
      have hs : PitotConf.rises (l.drop k) = (decide (l[k] < l[k + 1]) && PitotConf.rises (l.drop (k + 1))) := by
        rw [List.drop_eq_getElem_cons hk1,List.drop_eq_getElem_cons hk2,PitotConf.rises,← List.drop_eq_getElem_cons hk2]
      generalize l[k] = x at hat1 hs
      generalize l[k + 1] = y at hat2 hs
      by_cases hxy : x < y
      · have f1 : decide (y ≤ x) = false := decide_eq_false (by omega)
        have HT : Hid (PitotConf.rises (l.drop (k + 1)) = R) := by
          show _ = _
          rw [← ht.out,hs,decide_eq_true hxy];rfl
        clear hs hxy ht
        go_wp2
        go_quiet (fail)
        go_wp2
        go_roundw
        case rel => exact ⟨k + 1,by omega,val_int (by omega),HT,below_drewN HB.out nq⟩
        case measure => simp [intOf];omega
      · have f1 : decide (y ≤ x) = true := decide_eq_true (by omega)
        have HT : Hid (R = false) := by
          show _ = _
          rw [← ht.out,hs,decide_eq_false hxy];rfl
        clear hs hxy ht
        go_wp2
        go_quiet (fail)
        go_wp2
        go_returns
        rw [HT.out]
        exact ⟨rfl,below_drewN HB.out nq⟩
    · have e1 : decide (p < (m : Int)) = false := decide_eq_false (by omega)
      have HT : Hid (R = true) := by
        show _ = _
        rw [← ht.out]
        have h2 : (l.drop k).length ≤ 1 := by rw [List.length_drop,Hm.out];omega
        match l.drop k,h2 with
        | [],_ => rfl
        | [_],_ => rfl
      clear ht
      go_wp2
      go_returns
      rw [HT.out]
      exact ⟨rfl,HB.out⟩
def mayV (hosts vid vhost vbag vsmax vsubs vskew : Int) (tl : Nat) : Bool :=
  (decide (1 ≤ vid) && decide (vid ≤ 65535)) && (PitotConf.isHost hosts vhost && ((decide (0 ≤ vbag) && decide (vbag ≤ 7)) && ((decide (64 ≤ vsmax) && decide (vsmax ≤ 1518)) && ((decide (1 ≤ vsubs) && decide (vsubs ≤ 4)) && ((decide (0 ≤ vskew) && decide (vskew ≤ 1073741824)) && decide (0 < (tl : Int)))))))
set_option maxHeartbeats 4000000 in
theorem mayVL_any (hosts major : Int) (pA wA vA qA : Option Addr) (pl pc wl wk vl vc ql qc : Nat) (vid vhost vbag vsmax vsubs vskew : Int) (vhigh : Bool) (tA : Option Addr) (tl tc : Nat) (w : World) (h0 : -9223372036854775807 ≤ hosts) (h1 : hosts ≤ 9223372036854775807) : Calls Tryz.prog 102 #[.agg #[.int .i64 hosts,.slice pA pl pc,.int .i64 major,.slice wA wl wk,.slice vA vl vc,.slice qA ql qc],.agg #[.int .i64 vid,.int .i64 vhost,.int .i64 vbag,.int .i64 vsmax,.bool vhigh,.int .i64 vsubs,.int .i64 vskew,.slice tA tl tc]] w fun e w' => e = .returned (.bool (mayV hosts vid vhost vbag vsmax vsubs vskew tl)) ∧ Below w.heap.size w w' := by
  have H1 := fun w => within_any vid 1 65535 w
  have H2 := fun w => isHost_any hosts major pA wA vA qA pl pc wl wk vl vc ql qc vhost w h0 h1
  have H3 := fun w => within_any vbag 0 7 w
  have H4 := fun w => within_any vsmax 64 1518 w
  have H5 := fun w => within_any vsubs 1 4 w
  have H6 := fun w => within_any vskew 0 1073741824 w
  unfold mayV
  generalize (decide (1 ≤ vid) && decide (vid ≤ 65535)) = b1 at H1 ⊢
  generalize PitotConf.isHost hosts vhost = b2 at H2 ⊢
  generalize (decide (0 ≤ vbag) && decide (vbag ≤ 7)) = b3 at H3 ⊢
  generalize (decide (64 ≤ vsmax) && decide (vsmax ≤ 1518)) = b4 at H4 ⊢
  generalize (decide (1 ≤ vsubs) && decide (vsubs ≤ 4)) = b5 at H5 ⊢
  generalize (decide (0 ≤ vskew) && decide (vskew ≤ 1073741824)) = b6 at H6 ⊢
  obtain ⟨b7,hb7⟩ : ∃ b7,decide (0 < (tl : Int)) = b7 := ⟨_,rfl⟩
  have hb7' : decide (0 < tl) = b7 := by rw [← hb7];exact decide_eq_decide.2 ⟨fun h => by omega,fun h => by omega⟩
  rw [hb7]
  have H1 := Lib.hid H1;have H2 := Lib.hid H2;have H3 := Lib.hid H3;have H4 := Lib.hid H4;have H5 := Lib.hid H5;have H6 := Lib.hid H6
  clear h0 h1
  go_enter Tryz.func102,Tryz.ntmps102
  go_upto_region 1 with (fail)
  have CB : Hid (((w.alloc (.cells #[.int .i64 hosts,.slice pA pl pc,.int .i64 major,.slice wA wl wk,.slice vA vl vc,.slice qA ql qc] 28)).alloc (.cells #[.int .i64 vid,.int .i64 vhost,.int .i64 vbag,.int .i64 vsmax,.bool vhigh,.int .i64 vsubs,.int .i64 vskew,.slice tA tl tc] 60)).heap[w.heap.size]? = some (.cells #[.int .i64 hosts,.slice pA pl pc,.int .i64 major,.slice wA wl wk,.slice vA vl vc,.slice qA ql qc] 28)) := lies_alloc (heap_alloc_new w _) _
  have XB : Hid (((w.alloc (.cells #[.int .i64 hosts,.slice pA pl pc,.int .i64 major,.slice wA wl wk,.slice vA vl vc,.slice qA ql qc] 28)).alloc (.cells #[.int .i64 vid,.int .i64 vhost,.int .i64 vbag,.int .i64 vsmax,.bool vhigh,.int .i64 vsubs,.int .i64 vskew,.slice tA tl tc] 60)).heap[w.heap.size + 1]? = some (.cells #[.int .i64 vid,.int .i64 vhost,.int .i64 vbag,.int .i64 vsmax,.bool vhigh,.int .i64 vsubs,.int .i64 vskew,.slice tA tl tc] 60)) := by
    have := heap_alloc_new (w.alloc (.cells #[.int .i64 hosts,.slice pA pl pc,.int .i64 major,.slice wA wl wk,.slice vA vl vc,.slice qA ql qc] 28)) (.cells #[.int .i64 vid,.int .i64 vhost,.int .i64 vbag,.int .i64 vsmax,.bool vhigh,.int .i64 vsubs,.int .i64 vskew,.slice tA tl tc] 60)
    rw [World.size_alloc] at this
    exact this
  have BB : Hid (Below w.heap.size w ((w.alloc (.cells #[.int .i64 hosts,.slice pA pl pc,.int .i64 major,.slice wA wl wk,.slice vA vl vc,.slice qA ql qc] 28)).alloc (.cells #[.int .i64 vid,.int .i64 vhost,.int .i64 vbag,.int .i64 vsmax,.bool vhigh,.int .i64 vsubs,.int .i64 vskew,.slice tA tl tc] 60))) := (((Below.refl _ w).alloc (Nat.le_refl _) _)).alloc (((Below.refl _ w).alloc (Nat.le_refl _) _)).size _
  generalize (w.alloc (.cells #[.int .i64 hosts,.slice pA pl pc,.int .i64 major,.slice wA wl wk,.slice vA vl vc,.slice qA ql qc] 28)).alloc (.cells #[.int .i64 vid,.int .i64 vhost,.int .i64 vbag,.int .i64 vsmax,.bool vhigh,.int .i64 vsubs,.int .i64 vskew,.slice tA tl tc] 60) = W1 at CB XB BB ⊢
  obtain ⟨c0,c1,c2,c3,c4,c5⟩ := cells_6 CB.out
  obtain ⟨x0,x1,x2,x3,x4,x5,x6,x7⟩ := cells_8 XB.out
  cases b1
  · go_wp2_with (first
      | (go_at_call 75;(with_reducible refine (H1.out _).mono ?_);rintro e w3 ⟨rfl,rfl⟩))
    go_returns
    exact ⟨rfl,BB.out⟩
  · skip
    cases b2
    · go_wp2_with (first
        | (go_at_call 75;(with_reducible refine (H1.out _).mono ?_);rintro e w3 ⟨rfl,rfl⟩)
        | (go_at_call 76;(with_reducible refine (H2.out _).mono ?_);rintro e w2 ⟨rfl,hb2⟩
           (have C2 := Lib.hid (lies_below CB.out hb2 (lies_lt CB.out)))
           (have X2 := Lib.hid (lies_below XB.out hb2 (lies_lt XB.out)))
           (have B2 := Lib.hid (BB.out.trans (hb2.mono BB.out.size)))
           (clear hb2 c0 c1 c2 c3 c4 c5 x0 x1 x2 x3 x4 x5 x6 x7)
           (obtain ⟨c0,c1,c2,c3,c4,c5⟩ := cells_6 C2.out)
           (obtain ⟨x0,x1,x2,x3,x4,x5,x6,x7⟩ := cells_8 X2.out)))
      go_returns
      exact ⟨rfl,B2.out⟩
    · skip
      cases b3
      · go_wp2_with (first
          | (go_at_call 75;(with_reducible refine (H1.out _).mono ?_);rintro e w3 ⟨rfl,rfl⟩)
          | (go_at_call 76;(with_reducible refine (H2.out _).mono ?_);rintro e w2 ⟨rfl,hb2⟩
             (have C2 := Lib.hid (lies_below CB.out hb2 (lies_lt CB.out)))
             (have X2 := Lib.hid (lies_below XB.out hb2 (lies_lt XB.out)))
             (have B2 := Lib.hid (BB.out.trans (hb2.mono BB.out.size)))
             (clear hb2 c0 c1 c2 c3 c4 c5 x0 x1 x2 x3 x4 x5 x6 x7)
             (obtain ⟨c0,c1,c2,c3,c4,c5⟩ := cells_6 C2.out)
             (obtain ⟨x0,x1,x2,x3,x4,x5,x6,x7⟩ := cells_8 X2.out))
          | (go_at_call 75;(with_reducible refine (H3.out _).mono ?_);rintro e w3 ⟨rfl,rfl⟩))
        go_returns
        exact ⟨rfl,B2.out⟩
      · skip
        cases b4
        · go_wp2_with (first
            | (go_at_call 75;(with_reducible refine (H1.out _).mono ?_);rintro e w3 ⟨rfl,rfl⟩)
            | (go_at_call 76;(with_reducible refine (H2.out _).mono ?_);rintro e w2 ⟨rfl,hb2⟩
               (have C2 := Lib.hid (lies_below CB.out hb2 (lies_lt CB.out)))
               (have X2 := Lib.hid (lies_below XB.out hb2 (lies_lt XB.out)))
               (have B2 := Lib.hid (BB.out.trans (hb2.mono BB.out.size)))
               (clear hb2 c0 c1 c2 c3 c4 c5 x0 x1 x2 x3 x4 x5 x6 x7)
               (obtain ⟨c0,c1,c2,c3,c4,c5⟩ := cells_6 C2.out)
               (obtain ⟨x0,x1,x2,x3,x4,x5,x6,x7⟩ := cells_8 X2.out))
            | (go_at_call 75;(with_reducible refine (H3.out _).mono ?_);rintro e w3 ⟨rfl,rfl⟩)
            | (go_at_call 75;(with_reducible refine (H4.out _).mono ?_);rintro e w3 ⟨rfl,rfl⟩))
          go_returns
          exact ⟨rfl,B2.out⟩
        · skip
          cases b5
          · go_wp2_with (first
              | (go_at_call 75;(with_reducible refine (H1.out _).mono ?_);rintro e w3 ⟨rfl,rfl⟩)
              | (go_at_call 76;(with_reducible refine (H2.out _).mono ?_);rintro e w2 ⟨rfl,hb2⟩
                 (have C2 := Lib.hid (lies_below CB.out hb2 (lies_lt CB.out)))
                 (have X2 := Lib.hid (lies_below XB.out hb2 (lies_lt XB.out)))
                 (have B2 := Lib.hid (BB.out.trans (hb2.mono BB.out.size)))
                 (clear hb2 c0 c1 c2 c3 c4 c5 x0 x1 x2 x3 x4 x5 x6 x7)
                 (obtain ⟨c0,c1,c2,c3,c4,c5⟩ := cells_6 C2.out)
                 (obtain ⟨x0,x1,x2,x3,x4,x5,x6,x7⟩ := cells_8 X2.out))
              | (go_at_call 75;(with_reducible refine (H3.out _).mono ?_);rintro e w3 ⟨rfl,rfl⟩)
              | (go_at_call 75;(with_reducible refine (H4.out _).mono ?_);rintro e w3 ⟨rfl,rfl⟩)
              | (go_at_call 75;(with_reducible refine (H5.out _).mono ?_);rintro e w3 ⟨rfl,rfl⟩))
            go_returns
            exact ⟨rfl,B2.out⟩
          · skip
            cases b6
            · go_wp2_with (first
                | (go_at_call 75;(with_reducible refine (H1.out _).mono ?_);rintro e w3 ⟨rfl,rfl⟩)
                | (go_at_call 76;(with_reducible refine (H2.out _).mono ?_);rintro e w2 ⟨rfl,hb2⟩
                   (have C2 := Lib.hid (lies_below CB.out hb2 (lies_lt CB.out)))
                   (have X2 := Lib.hid (lies_below XB.out hb2 (lies_lt XB.out)))
                   (have B2 := Lib.hid (BB.out.trans (hb2.mono BB.out.size)))
                   (clear hb2 c0 c1 c2 c3 c4 c5 x0 x1 x2 x3 x4 x5 x6 x7)
                   (obtain ⟨c0,c1,c2,c3,c4,c5⟩ := cells_6 C2.out)
                   (obtain ⟨x0,x1,x2,x3,x4,x5,x6,x7⟩ := cells_8 X2.out))
                | (go_at_call 75;(with_reducible refine (H3.out _).mono ?_);rintro e w3 ⟨rfl,rfl⟩)
                | (go_at_call 75;(with_reducible refine (H4.out _).mono ?_);rintro e w3 ⟨rfl,rfl⟩)
                | (go_at_call 75;(with_reducible refine (H5.out _).mono ?_);rintro e w3 ⟨rfl,rfl⟩)
                | (go_at_call 75;(with_reducible refine (H6.out _).mono ?_);rintro e w3 ⟨rfl,rfl⟩))
              go_returns
              exact ⟨rfl,B2.out⟩
            · skip
              cases b7
              · go_wp2_with (first
                  | (go_at_call 75;(with_reducible refine (H1.out _).mono ?_);rintro e w3 ⟨rfl,rfl⟩)
                  | (go_at_call 76;(with_reducible refine (H2.out _).mono ?_);rintro e w2 ⟨rfl,hb2⟩
                     (have C2 := Lib.hid (lies_below CB.out hb2 (lies_lt CB.out)))
                     (have X2 := Lib.hid (lies_below XB.out hb2 (lies_lt XB.out)))
                     (have B2 := Lib.hid (BB.out.trans (hb2.mono BB.out.size)))
                     (clear hb2 c0 c1 c2 c3 c4 c5 x0 x1 x2 x3 x4 x5 x6 x7)
                     (obtain ⟨c0,c1,c2,c3,c4,c5⟩ := cells_6 C2.out)
                     (obtain ⟨x0,x1,x2,x3,x4,x5,x6,x7⟩ := cells_8 X2.out))
                  | (go_at_call 75;(with_reducible refine (H3.out _).mono ?_);rintro e w3 ⟨rfl,rfl⟩)
                  | (go_at_call 75;(with_reducible refine (H4.out _).mono ?_);rintro e w3 ⟨rfl,rfl⟩)
                  | (go_at_call 75;(with_reducible refine (H5.out _).mono ?_);rintro e w3 ⟨rfl,rfl⟩)
                  | (go_at_call 75;(with_reducible refine (H6.out _).mono ?_);rintro e w3 ⟨rfl,rfl⟩))
                go_returns
                exact ⟨rfl,B2.out⟩
              · go_wp2_with (first
                  | (go_at_call 75;(with_reducible refine (H1.out _).mono ?_);rintro e w3 ⟨rfl,rfl⟩)
                  | (go_at_call 76;(with_reducible refine (H2.out _).mono ?_);rintro e w2 ⟨rfl,hb2⟩
                     (have C2 := Lib.hid (lies_below CB.out hb2 (lies_lt CB.out)))
                     (have X2 := Lib.hid (lies_below XB.out hb2 (lies_lt XB.out)))
                     (have B2 := Lib.hid (BB.out.trans (hb2.mono BB.out.size)))
                     (clear hb2 c0 c1 c2 c3 c4 c5 x0 x1 x2 x3 x4 x5 x6 x7)
                     (obtain ⟨c0,c1,c2,c3,c4,c5⟩ := cells_6 C2.out)
                     (obtain ⟨x0,x1,x2,x3,x4,x5,x6,x7⟩ := cells_8 X2.out))
                  | (go_at_call 75;(with_reducible refine (H3.out _).mono ?_);rintro e w3 ⟨rfl,rfl⟩)
                  | (go_at_call 75;(with_reducible refine (H4.out _).mono ?_);rintro e w3 ⟨rfl,rfl⟩)
                  | (go_at_call 75;(with_reducible refine (H5.out _).mono ?_);rintro e w3 ⟨rfl,rfl⟩)
                  | (go_at_call 75;(with_reducible refine (H6.out _).mono ?_);rintro e w3 ⟨rfl,rfl⟩))
                go_returns
                exact ⟨rfl,B2.out⟩
end Go.Proofs.YtdgkanamceeheaaGreat
set_option maxRecDepth 100000
namespace Go.Proofs.YtdgkanamceeheaaGreat
open Go.RowKit
theorem none_any (hosts major : Int) (pA wA vA qA : Option Addr) (pl pc wl wk vl vc ql qc : Nat) (vid vhost vbag vsmax vsubs vskew : Int) (vhigh : Bool) (tA : Option Addr) (tl tc : Nat) (cb xb : Nat) (n : Int) (W : World) (h0 : -9223372036854775807 ≤ hosts) (h1 : hosts ≤ 9223372036854775807) (hC : W.heap[cb]? = some (.cells #[.int .i64 hosts,.slice pA pl pc,.int .i64 major,.slice wA wl wk,.slice vA vl vc,.slice qA ql qc] 28)) (hX : W.heap[xb]? = some (.cells #[.int .i64 vid,.int .i64 vhost,.int .i64 vbag,.int .i64 vsmax,.bool vhigh,.int .i64 vsubs,.int .i64 vskew,.slice tA tl tc] 60)) : Calls Tryz.prog 105 #[.int .i64 n,.pointer (some ⟨cb,0,none⟩),.pointer (some ⟨xb,0,none⟩)] W fun e w' => e = .returned (.bool (!PitotConf.isHost hosts n || decide (n = vhost))) ∧ Below W.heap.size W w' := by
  have HH := fun w => isHost_any hosts major pA wA vA qA pl pc wl wk vl vc ql qc n w h0 h1
  obtain ⟨c0,c1,c2,c3,c4,c5⟩ := cells_6 hC
  obtain ⟨P,HP⟩ : ∃ P,Hid (PitotConf.isHost hosts n = P) := ⟨_,rfl⟩
  rw [HP.out] at HH ⊢
  have HX := Lib.hid hX
  clear hX hC
  cases P
  · have HH := Lib.hid HH
    go_enter Tryz.func105,Tryz.ntmps105
    go_wp2_with (go_at_call 76;(with_reducible refine (HH.out _).mono ?_);rintro e w2 ⟨rfl,hb2⟩)
    go_returns
    exact ⟨rfl,hb2⟩
  · have HH := Lib.hid HH
    obtain ⟨E,hE⟩ : ∃ E,decide (n = vhost) = E := ⟨_,rfl⟩
    have hE' : (n == vhost) = E := by rw [← hE];rfl
    rw [hE]
    go_enter Tryz.func105,Tryz.ntmps105
    go_wp2_with (go_at_call 76;(with_reducible refine (HH.out _).mono ?_);rintro e w2 ⟨rfl,hb2⟩;(have X2 := Lib.hid (lies_below HX.out hb2 (lies_lt HX.out)));obtain ⟨x0,x1,x2,x3,x4,x5,x6,x7⟩ := cells_8 X2.out)
    go_returns
    exact ⟨rfl,hb2⟩
set_option maxHeartbeats 2000000 in
theorem index_any (hosts major : Int) (pA wA vA qA : Option Addr) (pl pc wl wk vl vc ql qc : Nat) (vid vhost vbag vsmax vsubs vskew : Int) (vhigh : Bool) (tA : Option Addr) (tl tc : Nat) (tol : List Int) (cb xb : Nat) (W : World) (h0 : -9223372036854775807 ≤ hosts) (h1 : hosts ≤ 9223372036854775807) (hC : W.heap[cb]? = some (.cells #[.int .i64 hosts,.slice pA pl pc,.int .i64 major,.slice wA wl wk,.slice vA vl vc,.slice qA ql qc] 28)) (hX : W.heap[xb]? = some (.cells #[.int .i64 vid,.int .i64 vhost,.int .i64 vbag,.int .i64 vsmax,.bool vhigh,.int .i64 vsubs,.int .i64 vskew,.slice tA tl tc] 60)) (hT : IntsAt W tA tol) (htl : tol.length = tl) (hl : tl ≤ maxLen) : Calls Tryz.prog 120 #[.slice tA tl tc,.func (.func 105) #[] #[.pointer (some ⟨cb,0,none⟩),.pointer (some ⟨xb,0,none⟩)]] W fun e w' => (∃ r : Int,e = .returned (.int .i64 r) ∧ decide (0 ≤ r) = tol.any (fun n => !PitotConf.isHost hosts n || decide (n = vhost))) ∧ Below W.heap.size W w' := by
  unfold maxLen at hl
  have HQ : Hid (∀ (n : Int) (w' : World),Below W.heap.size W w' → Calls Tryz.prog 105 #[.int .i64 n,.pointer (some ⟨cb,0,none⟩),.pointer (some ⟨xb,0,none⟩)] w' fun e w'' => e = .returned (.bool (!PitotConf.isHost hosts n || decide (n = vhost))) ∧ Below w'.heap.size w' w'') := fun n w' hb => none_any hosts major pA wA vA qA pl pc wl wk vl vc ql qc vid vhost vbag vsmax vsubs vskew vhigh tA tl tc cb xb n w' h0 h1 (lies_below hC hb (lies_lt hC)) (lies_below hX hb (lies_lt hX))
  have HT := Lib.hid hT
  obtain ⟨R,HR⟩ : ∃ R,Hid (tol.any (fun n => !PitotConf.isHost hosts n || decide (n = vhost)) = R) := ⟨_,rfl⟩
  rw [HR.out]
  have Hl := Lib.hid htl
  clear hC hX hT htl
  generalize hq : (fun n => !PitotConf.isHost hosts n || decide (n = vhost)) = q at HR
  have HQ : Hid (∀ (n : Int) (w' : World),Below W.heap.size W w' → Calls Tryz.prog 105 #[.int .i64 n,.pointer (some ⟨cb,0,none⟩),.pointer (some ⟨xb,0,none⟩)] w' fun e w'' => e = .returned (.bool (q n)) ∧ Below w'.heap.size w' w'') := by rw [← hq];exact HQ
  clear hq
  go_enter Tryz.func120,Tryz.ntmps120
  go_wp2
  go_loopw [8] (fun v8 wr => ∃ k : Nat,k ≤ tl ∧ v8 = .int .i64 k ∧ Hid ((tol.drop k).any q = R) ∧ Below W.heap.size W wr) (fun v8 _ => tl - (intOf v8).toNat)
  case atStart => exact ⟨0,Nat.zero_le _,rfl,HR,Below.refl _ _⟩
  case round =>
    obtain ⟨k,hk,rfl,ht,hB⟩ := hrel
    have HB := Lib.hid hB;clear hB
    by_cases hkm : k < tl
    · have hkl : k < tol.length := by rw [Hl.out];exact hkm
      have e1 : decide ((k : Int) < (tl : Int)) = true := decide_eq_true (by omega)
      have e1' : decide (k < tl) = true := decide_eq_true hkm
      obtain ⟨b,off,rfl,hb,hat⟩ := HT.out.get hkl
      have hat : wr.cell? ⟨b,off + k,none⟩ = some (.int .i64 tol[k]) := (HB.out.cell hb).trans hat
      have hs : (tol.drop k).any q = (q tol[k] || (tol.drop (k + 1)).any q) := by rw [List.drop_eq_getElem_cons hkl,List.any_cons]
      have HC := HQ.out tol[k] wr HB.out
      generalize tol[k] = x at hat hs HC
      cases hx : q x
      · rw [hx] at HC
        have HC := Lib.hid HC
        have HT2 : Hid ((tol.drop (k + 1)).any q = R) := by show _ = _;rw [← ht.out,hs,hx];rfl
        clear hs hx ht
        go_wp2_with (go_at_call 105;(with_reducible refine (HC.out).mono ?_);rintro e w2 ⟨rfl,hb2⟩)
        have HB2 := Lib.hid (HB.out.trans (hb2.mono HB.out.size))
        clear hb2
        go_roundw
        case rel => exact ⟨k + 1,by omega,by go_num,HT2,HB2.out⟩
        case measure => simp [intOf];omega
      · rw [hx] at HC
        have HC := Lib.hid HC
        have HT2 : Hid (R = true) := by show _ = _;rw [← ht.out,hs,hx];rfl
        clear hs hx ht
        go_wp2_with (go_at_call 105;(with_reducible refine (HC.out).mono ?_);rintro e w2 ⟨rfl,hb2⟩)
        go_returns
        rw [HT2.out]
        exact ⟨⟨_,rfl,decide_eq_true (by omega)⟩,HB.out.trans (hb2.mono HB.out.size)⟩
    · have e1 : decide ((k : Int) < (tl : Int)) = false := decide_eq_false (by omega)
      have e1' : decide (k < tl) = false := decide_eq_false hkm
      have HT2 : Hid (R = false) := by show _ = _;rw [← ht.out,List.drop_of_length_le (by rw [Hl.out];omega)];rfl
      clear ht
      go_wp2
      go_returns
      rw [HT2.out]
      exact ⟨⟨_,rfl,by decide⟩,HB.out⟩
theorem contains_any (hosts major : Int) (pA wA vA qA : Option Addr) (pl pc wl wk vl vc ql qc : Nat) (vid vhost vbag vsmax vsubs vskew : Int) (vhigh : Bool) (tA : Option Addr) (tl tc : Nat) (tol : List Int) (cb xb : Nat) (W : World) (h0 : -9223372036854775807 ≤ hosts) (h1 : hosts ≤ 9223372036854775807) (hC : W.heap[cb]? = some (.cells #[.int .i64 hosts,.slice pA pl pc,.int .i64 major,.slice wA wl wk,.slice vA vl vc,.slice qA ql qc] 28)) (hX : W.heap[xb]? = some (.cells #[.int .i64 vid,.int .i64 vhost,.int .i64 vbag,.int .i64 vsmax,.bool vhigh,.int .i64 vsubs,.int .i64 vskew,.slice tA tl tc] 60)) (hT : IntsAt W tA tol) (htl : tol.length = tl) (hl : tl ≤ maxLen) : Calls Tryz.prog 104 #[.slice tA tl tc,.func (.func 105) #[] #[.pointer (some ⟨cb,0,none⟩),.pointer (some ⟨xb,0,none⟩)]] W fun e w' => e = .returned (.bool (tol.any (fun n => !PitotConf.isHost hosts n || decide (n = vhost)))) ∧ Below W.heap.size W w' := by
  have HQ := Lib.hid (index_any hosts major pA wA vA qA pl pc wl wk vl vc ql qc vid vhost vbag vsmax vsubs vskew vhigh tA tl tc tol cb xb W h0 h1 hC hX hT htl hl)
  obtain ⟨R,HR⟩ : ∃ R,Hid (tol.any (fun n => !PitotConf.isHost hosts n || decide (n = vhost)) = R) := ⟨_,rfl⟩
  rw [HR.out] at HQ ⊢
  clear hC hX hT htl hl
  go_enter Tryz.func104,Tryz.ntmps104
  go_wp2_with (go_at_call 120;(with_reducible refine (HQ.out).mono ?_);rintro e w2 ⟨⟨r,rfl,hr⟩,hb2⟩)
  go_returns
  exact ⟨rfl,hb2⟩
def linkP (hosts ahead : Int) (v : Vx) : Int :=
  if mayV hosts v.id v.host v.bag v.smax v.subs v.skew v.to.length = false then 1 else if decide (v.id ≤ ahead) = true then 25 else if PitotConf.rises v.to = false then 25 else if v.to.any (fun n => !PitotConf.isHost hosts n || decide (n = v.host)) = true then 20 else 0
set_option maxHeartbeats 4000000 in
theorem judgeVL_any (hosts major : Int) (pA wA vA qA : Option Addr) (pl pc wl wk vl vc ql qc : Nat) (vid vhost vbag vsmax vsubs vskew : Int) (vhigh : Bool) (tA : Option Addr) (tl tc : Nat) (tol : List Int) (ahead : Int) (w : World) (h0 : -9223372036854775807 ≤ hosts) (h1 : hosts ≤ 9223372036854775807) (hT : IntsAt w tA tol) (htl : tol.length = tl) (hl : tl ≤ maxLen) : Calls Tryz.prog 78 #[.agg #[.int .i64 hosts,.slice pA pl pc,.int .i64 major,.slice wA wl wk,.slice vA vl vc,.slice qA ql qc],.agg #[.int .i64 vid,.int .i64 vhost,.int .i64 vbag,.int .i64 vsmax,.bool vhigh,.int .i64 vsubs,.int .i64 vskew,.slice tA tl tc],.int .i64 ahead] w fun e w' => e = .returned (.int .i64 (linkP hosts ahead ⟨vid,vhost,vbag,vsmax,vhigh,vsubs,vskew,tA,tc,tol⟩)) ∧ Below w.heap.size w w' := by
  have HM := Lib.hid (fun w => mayVL_any hosts major pA wA vA qA pl pc wl wk vl vc ql qc vid vhost vbag vsmax vsubs vskew vhigh tA tl tc w h0 h1)
  have HR := Lib.hid (fun (w' : World) (hb : Below w.heap.size w w') => rises_any tA tc tol w' (hT.below hb) (by rw [htl];exact hl))
  have HA := Lib.hid (fun (w' : World) (hb : Below w.heap.size w w') (hC : w'.heap[w.heap.size]? = some (.cells #[.int .i64 hosts,.slice pA pl pc,.int .i64 major,.slice wA wl wk,.slice vA vl vc,.slice qA ql qc] 28)) (hX : w'.heap[w.heap.size + 1]? = some (.cells #[.int .i64 vid,.int .i64 vhost,.int .i64 vbag,.int .i64 vsmax,.bool vhigh,.int .i64 vsubs,.int .i64 vskew,.slice tA tl tc] 60)) => contains_any hosts major pA wA vA qA pl pc wl wk vl vc ql qc vid vhost vbag vsmax vsubs vskew vhigh tA tl tc tol _ _ w' h0 h1 hC hX (hT.below hb) htl hl)
  rw [htl] at HR
  have HE : linkP hosts ahead ⟨vid,vhost,vbag,vsmax,vhigh,vsubs,vskew,tA,tc,tol⟩ = if mayV hosts vid vhost vbag vsmax vsubs vskew tl = false then 1 else if decide (vid ≤ ahead) = true then 25 else if PitotConf.rises tol = false then 25 else if tol.any (fun n => !PitotConf.isHost hosts n || decide (n = vhost)) = true then 20 else 0 := by rw [linkP,← htl]
  rw [HE]
  generalize mayV hosts vid vhost vbag vsmax vsubs vskew tl = b1 at HM ⊢
  generalize PitotConf.rises tol = b2 at HR ⊢
  generalize tol.any (fun n => !PitotConf.isHost hosts n || decide (n = vhost)) = b3 at HA ⊢
  generalize hb4 : decide (vid ≤ ahead) = b4
  clear HE hT htl hl h0 h1
  go_enter Tryz.func78,Tryz.ntmps78
  go_upto_region 1 with (fail)
  have CB : Hid (((w.alloc (.cells #[.int .i64 hosts,.slice pA pl pc,.int .i64 major,.slice wA wl wk,.slice vA vl vc,.slice qA ql qc] 28)).alloc (.cells #[.int .i64 vid,.int .i64 vhost,.int .i64 vbag,.int .i64 vsmax,.bool vhigh,.int .i64 vsubs,.int .i64 vskew,.slice tA tl tc] 60)).heap[w.heap.size]? = some (.cells #[.int .i64 hosts,.slice pA pl pc,.int .i64 major,.slice wA wl wk,.slice vA vl vc,.slice qA ql qc] 28)) := lies_alloc (heap_alloc_new w _) _
  have XB : Hid (((w.alloc (.cells #[.int .i64 hosts,.slice pA pl pc,.int .i64 major,.slice wA wl wk,.slice vA vl vc,.slice qA ql qc] 28)).alloc (.cells #[.int .i64 vid,.int .i64 vhost,.int .i64 vbag,.int .i64 vsmax,.bool vhigh,.int .i64 vsubs,.int .i64 vskew,.slice tA tl tc] 60)).heap[w.heap.size + 1]? = some (.cells #[.int .i64 vid,.int .i64 vhost,.int .i64 vbag,.int .i64 vsmax,.bool vhigh,.int .i64 vsubs,.int .i64 vskew,.slice tA tl tc] 60)) := by
    have := heap_alloc_new (w.alloc (.cells #[.int .i64 hosts,.slice pA pl pc,.int .i64 major,.slice wA wl wk,.slice vA vl vc,.slice qA ql qc] 28)) (.cells #[.int .i64 vid,.int .i64 vhost,.int .i64 vbag,.int .i64 vsmax,.bool vhigh,.int .i64 vsubs,.int .i64 vskew,.slice tA tl tc] 60)
    rw [World.size_alloc] at this
    exact this
  have BB : Hid (Below w.heap.size w ((w.alloc (.cells #[.int .i64 hosts,.slice pA pl pc,.int .i64 major,.slice wA wl wk,.slice vA vl vc,.slice qA ql qc] 28)).alloc (.cells #[.int .i64 vid,.int .i64 vhost,.int .i64 vbag,.int .i64 vsmax,.bool vhigh,.int .i64 vsubs,.int .i64 vskew,.slice tA tl tc] 60))) := (((Below.refl _ w).alloc (Nat.le_refl _) _)).alloc (((Below.refl _ w).alloc (Nat.le_refl _) _)).size _
  generalize (w.alloc (.cells #[.int .i64 hosts,.slice pA pl pc,.int .i64 major,.slice wA wl wk,.slice vA vl vc,.slice qA ql qc] 28)).alloc (.cells #[.int .i64 vid,.int .i64 vhost,.int .i64 vbag,.int .i64 vsmax,.bool vhigh,.int .i64 vsubs,.int .i64 vskew,.slice tA tl tc] 60) = W1 at CB XB BB ⊢
  obtain ⟨c0,c1,c2,c3,c4,c5⟩ := cells_6 CB.out
  obtain ⟨x0,x1,x2,x3,x4,x5,x6,x7⟩ := cells_8 XB.out
  cases b1
  · go_wp2_with (first
      | (go_at_call 102;(with_reducible refine (HM.out _).mono ?_);rintro e w2 ⟨rfl,hb2⟩
         (have C2 := Lib.hid (lies_below CB.out hb2 (lies_lt CB.out)))
         (have X2 := Lib.hid (lies_below XB.out hb2 (lies_lt XB.out)))
         (have B2 := Lib.hid (BB.out.trans (hb2.mono BB.out.size)))
         (clear hb2 CB XB BB c0 c1 c2 c3 c4 c5 x0 x1 x2 x3 x4 x5 x6 x7)
         (have CB := C2)
         (have XB := X2)
         (have BB := B2)
         (clear C2 X2 B2)
         (obtain ⟨c0,c1,c2,c3,c4,c5⟩ := cells_6 CB.out)
         (obtain ⟨x0,x1,x2,x3,x4,x5,x6,x7⟩ := cells_8 XB.out)))
    go_returns
    exact ⟨rfl,BB.out⟩
  · cases b4
    · cases b2
      · go_wp2_with (first
          | (go_at_call 102;(with_reducible refine (HM.out _).mono ?_);rintro e w2 ⟨rfl,hb2⟩
             (have C2 := Lib.hid (lies_below CB.out hb2 (lies_lt CB.out)))
             (have X2 := Lib.hid (lies_below XB.out hb2 (lies_lt XB.out)))
             (have B2 := Lib.hid (BB.out.trans (hb2.mono BB.out.size)))
             (clear hb2 CB XB BB c0 c1 c2 c3 c4 c5 x0 x1 x2 x3 x4 x5 x6 x7)
             (have CB := C2)
             (have XB := X2)
             (have BB := B2)
             (clear C2 X2 B2)
             (obtain ⟨c0,c1,c2,c3,c4,c5⟩ := cells_6 CB.out)
             (obtain ⟨x0,x1,x2,x3,x4,x5,x6,x7⟩ := cells_8 XB.out))
          | (go_at_call 103;(with_reducible refine (HR.out _ BB.out).mono ?_);rintro e w3 ⟨rfl,hb2⟩
             (have C3 := Lib.hid (lies_below CB.out hb2 (lies_lt CB.out)))
             (have X3 := Lib.hid (lies_below XB.out hb2 (lies_lt XB.out)))
             (have B3 := Lib.hid (BB.out.trans (hb2.mono BB.out.size)))
             (clear hb2 CB XB BB c0 c1 c2 c3 c4 c5 x0 x1 x2 x3 x4 x5 x6 x7)
             (have CB := C3)
             (have XB := X3)
             (have BB := B3)
             (clear C3 X3 B3)
             (obtain ⟨c0,c1,c2,c3,c4,c5⟩ := cells_6 CB.out)
             (obtain ⟨x0,x1,x2,x3,x4,x5,x6,x7⟩ := cells_8 XB.out)))
        go_returns
        exact ⟨rfl,BB.out⟩
      · cases b3
        · go_wp2_with (first
            | (go_at_call 102;(with_reducible refine (HM.out _).mono ?_);rintro e w2 ⟨rfl,hb2⟩
               (have C2 := Lib.hid (lies_below CB.out hb2 (lies_lt CB.out)))
               (have X2 := Lib.hid (lies_below XB.out hb2 (lies_lt XB.out)))
               (have B2 := Lib.hid (BB.out.trans (hb2.mono BB.out.size)))
               (clear hb2 CB XB BB c0 c1 c2 c3 c4 c5 x0 x1 x2 x3 x4 x5 x6 x7)
               (have CB := C2)
               (have XB := X2)
               (have BB := B2)
               (clear C2 X2 B2)
               (obtain ⟨c0,c1,c2,c3,c4,c5⟩ := cells_6 CB.out)
               (obtain ⟨x0,x1,x2,x3,x4,x5,x6,x7⟩ := cells_8 XB.out))
            | (go_at_call 103;(with_reducible refine (HR.out _ BB.out).mono ?_);rintro e w3 ⟨rfl,hb2⟩
               (have C3 := Lib.hid (lies_below CB.out hb2 (lies_lt CB.out)))
               (have X3 := Lib.hid (lies_below XB.out hb2 (lies_lt XB.out)))
               (have B3 := Lib.hid (BB.out.trans (hb2.mono BB.out.size)))
               (clear hb2 CB XB BB c0 c1 c2 c3 c4 c5 x0 x1 x2 x3 x4 x5 x6 x7)
               (have CB := C3)
               (have XB := X3)
               (have BB := B3)
               (clear C3 X3 B3)
               (obtain ⟨c0,c1,c2,c3,c4,c5⟩ := cells_6 CB.out)
               (obtain ⟨x0,x1,x2,x3,x4,x5,x6,x7⟩ := cells_8 XB.out))
            | (go_at_call 104;(with_reducible refine (HA.out _ BB.out CB.out XB.out).mono ?_);rintro e w4 ⟨rfl,hb2⟩
               (have C4 := Lib.hid (lies_below CB.out hb2 (lies_lt CB.out)))
               (have X4 := Lib.hid (lies_below XB.out hb2 (lies_lt XB.out)))
               (have B4 := Lib.hid (BB.out.trans (hb2.mono BB.out.size)))
               (clear hb2 CB XB BB c0 c1 c2 c3 c4 c5 x0 x1 x2 x3 x4 x5 x6 x7)
               (have CB := C4)
               (have XB := X4)
               (have BB := B4)
               (clear C4 X4 B4)
               (obtain ⟨c0,c1,c2,c3,c4,c5⟩ := cells_6 CB.out)
               (obtain ⟨x0,x1,x2,x3,x4,x5,x6,x7⟩ := cells_8 XB.out)))
          go_returns
          exact ⟨rfl,BB.out⟩
        · go_wp2_with (first
            | (go_at_call 102;(with_reducible refine (HM.out _).mono ?_);rintro e w2 ⟨rfl,hb2⟩
               (have C2 := Lib.hid (lies_below CB.out hb2 (lies_lt CB.out)))
               (have X2 := Lib.hid (lies_below XB.out hb2 (lies_lt XB.out)))
               (have B2 := Lib.hid (BB.out.trans (hb2.mono BB.out.size)))
               (clear hb2 CB XB BB c0 c1 c2 c3 c4 c5 x0 x1 x2 x3 x4 x5 x6 x7)
               (have CB := C2)
               (have XB := X2)
               (have BB := B2)
               (clear C2 X2 B2)
               (obtain ⟨c0,c1,c2,c3,c4,c5⟩ := cells_6 CB.out)
               (obtain ⟨x0,x1,x2,x3,x4,x5,x6,x7⟩ := cells_8 XB.out))
            | (go_at_call 103;(with_reducible refine (HR.out _ BB.out).mono ?_);rintro e w3 ⟨rfl,hb2⟩
               (have C3 := Lib.hid (lies_below CB.out hb2 (lies_lt CB.out)))
               (have X3 := Lib.hid (lies_below XB.out hb2 (lies_lt XB.out)))
               (have B3 := Lib.hid (BB.out.trans (hb2.mono BB.out.size)))
               (clear hb2 CB XB BB c0 c1 c2 c3 c4 c5 x0 x1 x2 x3 x4 x5 x6 x7)
               (have CB := C3)
               (have XB := X3)
               (have BB := B3)
               (clear C3 X3 B3)
               (obtain ⟨c0,c1,c2,c3,c4,c5⟩ := cells_6 CB.out)
               (obtain ⟨x0,x1,x2,x3,x4,x5,x6,x7⟩ := cells_8 XB.out))
            | (go_at_call 104;(with_reducible refine (HA.out _ BB.out CB.out XB.out).mono ?_);rintro e w4 ⟨rfl,hb2⟩
               (have C4 := Lib.hid (lies_below CB.out hb2 (lies_lt CB.out)))
               (have X4 := Lib.hid (lies_below XB.out hb2 (lies_lt XB.out)))
               (have B4 := Lib.hid (BB.out.trans (hb2.mono BB.out.size)))
               (clear hb2 CB XB BB c0 c1 c2 c3 c4 c5 x0 x1 x2 x3 x4 x5 x6 x7)
               (have CB := C4)
               (have XB := X4)
               (have BB := B4)
               (clear C4 X4 B4)
               (obtain ⟨c0,c1,c2,c3,c4,c5⟩ := cells_6 CB.out)
               (obtain ⟨x0,x1,x2,x3,x4,x5,x6,x7⟩ := cells_8 XB.out)))
          go_returns
          exact ⟨rfl,BB.out⟩
    · go_wp2_with (first
        | (go_at_call 102;(with_reducible refine (HM.out _).mono ?_);rintro e w2 ⟨rfl,hb2⟩
           (have C2 := Lib.hid (lies_below CB.out hb2 (lies_lt CB.out)))
           (have X2 := Lib.hid (lies_below XB.out hb2 (lies_lt XB.out)))
           (have B2 := Lib.hid (BB.out.trans (hb2.mono BB.out.size)))
           (clear hb2 CB XB BB c0 c1 c2 c3 c4 c5 x0 x1 x2 x3 x4 x5 x6 x7)
           (have CB := C2)
           (have XB := X2)
           (have BB := B2)
           (clear C2 X2 B2)
           (obtain ⟨c0,c1,c2,c3,c4,c5⟩ := cells_6 CB.out)
           (obtain ⟨x0,x1,x2,x3,x4,x5,x6,x7⟩ := cells_8 XB.out)))
      go_returns
      exact ⟨rfl,BB.out⟩
end Go.Proofs.YtdgkanamceeheaaGreat
