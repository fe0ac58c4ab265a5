/- The program's questions about a port. -/
import Derived.Test.YtdgkanamceeheaaGreatK20
set_option linter.unusedVariables false
set_option maxRecDepth 100000
namespace Go.Proofs.YtdgkanamceeheaaGreat
open Go.RowKit
theorem largest_any (n : Int) (w : World) (h0 : -9223372036854775000 ≤ n) (h1 : n ≤ 9223372036854775807) : Calls Tryz.prog 126 #[.int .i64 n] w fun e w' => e = .returned (.int .i64 (n - 47)) ∧ w' = w := by
  have e : IntKind.i64.wrap (n - 47) = n - 47 := IntWalk.i64_in _ (by omega)
  go_enter Tryz.func126,Tryz.ntmps126
  go_wp2
  go_returns
  exact ⟨rfl,rfl⟩
def mayP (pl : Nat) (qid qpart qkind qudp qsize : Int) : Bool :=
  decide (1 ≤ qid) && (((qkind == 1) || (qkind == 2)) && ((decide (0 ≤ qpart) && decide (qpart < (pl : Int))) && ((decide (0 ≤ qudp) && decide (qudp ≤ 65535)) && (decide (1 ≤ qsize) && decide (qsize ≤ 8192)))))
set_option maxHeartbeats 4000000 in
theorem mayPort_any (hosts major : Int) (pA wA vA qA : Option Addr) (pl pc wl wk vl vc ql qc : Nat) (qid qhost qpart qkind qvl qsub qudp qsize qdepth qfresh : Int) (qout : Bool) (w : World) (htl : pl ≤ maxLen) : Calls Tryz.prog 106 #[.agg #[.int .i64 hosts,.slice pA pl pc,.int .i64 major,.slice wA wl wk,.slice vA vl vc,.slice qA ql qc],.agg #[.int .i64 qid,.int .i64 qhost,.int .i64 qpart,.int .i64 qkind,.bool qout,.int .i64 qvl,.int .i64 qsub,.int .i64 qudp,.int .i64 qsize,.int .i64 qdepth,.int .i64 qfresh]] w fun e w' => e = .returned (.bool (mayP pl qid qpart qkind qudp qsize)) ∧ Below w.heap.size w w' := by
  have H1 := fun w => isPart_any hosts major pA wA vA qA pl pc wl wk vl vc ql qc qpart w htl
  have H2 := fun w => within_any qudp 0 65535 w
  have H3 := fun w => within_any qsize 1 8192 w
  unfold mayP
  generalize (decide (0 ≤ qpart) && decide (qpart < (pl : Int))) = b1 at H1 ⊢
  generalize (decide (0 ≤ qudp) && decide (qudp ≤ 65535)) = b2 at H2 ⊢
  generalize (decide (1 ≤ qsize) && decide (qsize ≤ 8192)) = b3 at H3 ⊢
  generalize hb4 : decide (1 ≤ qid) = b4
  generalize hb5 : (qkind == 1) = b5
  generalize hb6 : (qkind == 2) = b6
  have H1 := Lib.hid H1;have H2 := Lib.hid H2;have H3 := Lib.hid H3
  clear htl
  go_enter Tryz.func106,Tryz.ntmps106
  go_upto_region 1 with (fail)
  have CB : Hid (((w.alloc (.cells #[.int .i64 hosts,.slice pA pl pc,.int .i64 major,.slice wA wl wk,.slice vA vl vc,.slice qA ql qc] 28)).alloc (.cells #[.int .i64 qid,.int .i64 qhost,.int .i64 qpart,.int .i64 qkind,.bool qout,.int .i64 qvl,.int .i64 qsub,.int .i64 qudp,.int .i64 qsize,.int .i64 qdepth,.int .i64 qfresh] 62)).heap[w.heap.size]? = some (.cells #[.int .i64 hosts,.slice pA pl pc,.int .i64 major,.slice wA wl wk,.slice vA vl vc,.slice qA ql qc] 28)) := lies_alloc (heap_alloc_new w _) _
  have XB : Hid (((w.alloc (.cells #[.int .i64 hosts,.slice pA pl pc,.int .i64 major,.slice wA wl wk,.slice vA vl vc,.slice qA ql qc] 28)).alloc (.cells #[.int .i64 qid,.int .i64 qhost,.int .i64 qpart,.int .i64 qkind,.bool qout,.int .i64 qvl,.int .i64 qsub,.int .i64 qudp,.int .i64 qsize,.int .i64 qdepth,.int .i64 qfresh] 62)).heap[w.heap.size + 1]? = some (.cells #[.int .i64 qid,.int .i64 qhost,.int .i64 qpart,.int .i64 qkind,.bool qout,.int .i64 qvl,.int .i64 qsub,.int .i64 qudp,.int .i64 qsize,.int .i64 qdepth,.int .i64 qfresh] 62)) := by
    have := heap_alloc_new (w.alloc (.cells #[.int .i64 hosts,.slice pA pl pc,.int .i64 major,.slice wA wl wk,.slice vA vl vc,.slice qA ql qc] 28)) (.cells #[.int .i64 qid,.int .i64 qhost,.int .i64 qpart,.int .i64 qkind,.bool qout,.int .i64 qvl,.int .i64 qsub,.int .i64 qudp,.int .i64 qsize,.int .i64 qdepth,.int .i64 qfresh] 62)
    rw [World.size_alloc] at this
    exact this
  have BB : Hid (Below w.heap.size w ((w.alloc (.cells #[.int .i64 hosts,.slice pA pl pc,.int .i64 major,.slice wA wl wk,.slice vA vl vc,.slice qA ql qc] 28)).alloc (.cells #[.int .i64 qid,.int .i64 qhost,.int .i64 qpart,.int .i64 qkind,.bool qout,.int .i64 qvl,.int .i64 qsub,.int .i64 qudp,.int .i64 qsize,.int .i64 qdepth,.int .i64 qfresh] 62))) := (((Below.refl _ w).alloc (Nat.le_refl _) _)).alloc (((Below.refl _ w).alloc (Nat.le_refl _) _)).size _
  generalize (w.alloc (.cells #[.int .i64 hosts,.slice pA pl pc,.int .i64 major,.slice wA wl wk,.slice vA vl vc,.slice qA ql qc] 28)).alloc (.cells #[.int .i64 qid,.int .i64 qhost,.int .i64 qpart,.int .i64 qkind,.bool qout,.int .i64 qvl,.int .i64 qsub,.int .i64 qudp,.int .i64 qsize,.int .i64 qdepth,.int .i64 qfresh] 62) = W1 at CB XB BB ⊢
  obtain ⟨c0,c1,c2,c3,c4,c5⟩ := cells_6 CB.out
  obtain ⟨p0,p1,p2,p3,p4,p5,p6,p7,p8,p9,p10⟩ := cells_11 XB.out
  cases b4
  · go_wp2
    go_returns
    exact ⟨rfl,BB.out⟩
  · cases b5
    · cases b6
      · go_wp2
        go_returns
        exact ⟨rfl,BB.out⟩
      · skip
        cases b1
        · go_wp2_with (first
            | (go_at_call 101;(with_reducible refine (H1.out _).mono ?_);rintro e w2 ⟨rfl,hb2⟩
               (have X2 := Lib.hid (lies_below XB.out hb2 (lies_lt XB.out)))
               (have B2 := Lib.hid (BB.out.trans (hb2.mono BB.out.size)))
               (clear hb2 c0 c1 c2 c3 c4 c5 p0 p1 p2 p3 p4 p5 p6 p7 p8 p9 p10)
               (obtain ⟨p0,p1,p2,p3,p4,p5,p6,p7,p8,p9,p10⟩ := cells_11 X2.out)))
          go_returns
          exact ⟨rfl,B2.out⟩
        · cases b2
          · go_wp2_with (first
              | (go_at_call 101;(with_reducible refine (H1.out _).mono ?_);rintro e w2 ⟨rfl,hb2⟩
                 (have X2 := Lib.hid (lies_below XB.out hb2 (lies_lt XB.out)))
                 (have B2 := Lib.hid (BB.out.trans (hb2.mono BB.out.size)))
                 (clear hb2 c0 c1 c2 c3 c4 c5 p0 p1 p2 p3 p4 p5 p6 p7 p8 p9 p10)
                 (obtain ⟨p0,p1,p2,p3,p4,p5,p6,p7,p8,p9,p10⟩ := cells_11 X2.out))
              | (go_at_call 75;(with_reducible refine (H2.out _).mono ?_);rintro e w3 ⟨rfl,rfl⟩))
            go_returns
            exact ⟨rfl,B2.out⟩
          · cases b3
            · go_wp2_with (first
                | (go_at_call 101;(with_reducible refine (H1.out _).mono ?_);rintro e w2 ⟨rfl,hb2⟩
                   (have X2 := Lib.hid (lies_below XB.out hb2 (lies_lt XB.out)))
                   (have B2 := Lib.hid (BB.out.trans (hb2.mono BB.out.size)))
                   (clear hb2 c0 c1 c2 c3 c4 c5 p0 p1 p2 p3 p4 p5 p6 p7 p8 p9 p10)
                   (obtain ⟨p0,p1,p2,p3,p4,p5,p6,p7,p8,p9,p10⟩ := cells_11 X2.out))
                | (go_at_call 75;(with_reducible refine (H2.out _).mono ?_);rintro e w3 ⟨rfl,rfl⟩)
                | (go_at_call 75;(with_reducible refine (H3.out _).mono ?_);rintro e w3 ⟨rfl,rfl⟩))
              go_returns
              exact ⟨rfl,B2.out⟩
            · go_wp2_with (first
                | (go_at_call 101;(with_reducible refine (H1.out _).mono ?_);rintro e w2 ⟨rfl,hb2⟩
                   (have X2 := Lib.hid (lies_below XB.out hb2 (lies_lt XB.out)))
                   (have B2 := Lib.hid (BB.out.trans (hb2.mono BB.out.size)))
                   (clear hb2 c0 c1 c2 c3 c4 c5 p0 p1 p2 p3 p4 p5 p6 p7 p8 p9 p10)
                   (obtain ⟨p0,p1,p2,p3,p4,p5,p6,p7,p8,p9,p10⟩ := cells_11 X2.out))
                | (go_at_call 75;(with_reducible refine (H2.out _).mono ?_);rintro e w3 ⟨rfl,rfl⟩)
                | (go_at_call 75;(with_reducible refine (H3.out _).mono ?_);rintro e w3 ⟨rfl,rfl⟩))
              go_returns
              exact ⟨rfl,B2.out⟩
    · skip
      cases b1
      · go_wp2_with (first
          | (go_at_call 101;(with_reducible refine (H1.out _).mono ?_);rintro e w2 ⟨rfl,hb2⟩
             (have X2 := Lib.hid (lies_below XB.out hb2 (lies_lt XB.out)))
             (have B2 := Lib.hid (BB.out.trans (hb2.mono BB.out.size)))
             (clear hb2 c0 c1 c2 c3 c4 c5 p0 p1 p2 p3 p4 p5 p6 p7 p8 p9 p10)
             (obtain ⟨p0,p1,p2,p3,p4,p5,p6,p7,p8,p9,p10⟩ := cells_11 X2.out)))
        go_returns
        exact ⟨rfl,B2.out⟩
      · cases b2
        · go_wp2_with (first
            | (go_at_call 101;(with_reducible refine (H1.out _).mono ?_);rintro e w2 ⟨rfl,hb2⟩
               (have X2 := Lib.hid (lies_below XB.out hb2 (lies_lt XB.out)))
               (have B2 := Lib.hid (BB.out.trans (hb2.mono BB.out.size)))
               (clear hb2 c0 c1 c2 c3 c4 c5 p0 p1 p2 p3 p4 p5 p6 p7 p8 p9 p10)
               (obtain ⟨p0,p1,p2,p3,p4,p5,p6,p7,p8,p9,p10⟩ := cells_11 X2.out))
            | (go_at_call 75;(with_reducible refine (H2.out _).mono ?_);rintro e w3 ⟨rfl,rfl⟩))
          go_returns
          exact ⟨rfl,B2.out⟩
        · cases b3
          · go_wp2_with (first
              | (go_at_call 101;(with_reducible refine (H1.out _).mono ?_);rintro e w2 ⟨rfl,hb2⟩
                 (have X2 := Lib.hid (lies_below XB.out hb2 (lies_lt XB.out)))
                 (have B2 := Lib.hid (BB.out.trans (hb2.mono BB.out.size)))
                 (clear hb2 c0 c1 c2 c3 c4 c5 p0 p1 p2 p3 p4 p5 p6 p7 p8 p9 p10)
                 (obtain ⟨p0,p1,p2,p3,p4,p5,p6,p7,p8,p9,p10⟩ := cells_11 X2.out))
              | (go_at_call 75;(with_reducible refine (H2.out _).mono ?_);rintro e w3 ⟨rfl,rfl⟩)
              | (go_at_call 75;(with_reducible refine (H3.out _).mono ?_);rintro e w3 ⟨rfl,rfl⟩))
            go_returns
            exact ⟨rfl,B2.out⟩
          · go_wp2_with (first
              | (go_at_call 101;(with_reducible refine (H1.out _).mono ?_);rintro e w2 ⟨rfl,hb2⟩
                 (have X2 := Lib.hid (lies_below XB.out hb2 (lies_lt XB.out)))
                 (have B2 := Lib.hid (BB.out.trans (hb2.mono BB.out.size)))
                 (clear hb2 c0 c1 c2 c3 c4 c5 p0 p1 p2 p3 p4 p5 p6 p7 p8 p9 p10)
                 (obtain ⟨p0,p1,p2,p3,p4,p5,p6,p7,p8,p9,p10⟩ := cells_11 X2.out))
              | (go_at_call 75;(with_reducible refine (H2.out _).mono ?_);rintro e w3 ⟨rfl,rfl⟩)
              | (go_at_call 75;(with_reducible refine (H3.out _).mono ?_);rintro e w3 ⟨rfl,rfl⟩))
            go_returns
            exact ⟨rfl,B2.out⟩
def freshOk (qout : Bool) (qfresh : Int) : Bool := if qout = true then (qfresh == 0) else (decide (1 ≤ qfresh) && decide (qfresh ≤ 1099511627776))
theorem mayFresh_any (qid qhost qpart qkind qvl qsub qudp qsize qdepth qfresh : Int) (qout : Bool) (w : World) : Calls Tryz.prog 125 #[.agg #[.int .i64 qid,.int .i64 qhost,.int .i64 qpart,.int .i64 qkind,.bool qout,.int .i64 qvl,.int .i64 qsub,.int .i64 qudp,.int .i64 qsize,.int .i64 qdepth,.int .i64 qfresh]] w fun e w' => e = .returned (.bool (freshOk qout qfresh)) ∧ Below w.heap.size w w' := by
  have BB : Hid (Below w.heap.size w (w.alloc (.cells #[.int .i64 qid,.int .i64 qhost,.int .i64 qpart,.int .i64 qkind,.bool qout,.int .i64 qvl,.int .i64 qsub,.int .i64 qudp,.int .i64 qsize,.int .i64 qdepth,.int .i64 qfresh] 62))) := (Below.refl _ w).alloc (Nat.le_refl _) _
  have H1 := Lib.hid (fun w => within_any qfresh 1 1099511627776 w)
  unfold freshOk
  cases qout
  · go_enter Tryz.func125,Tryz.ntmps125
    go_wp2_with (go_at_call 75;(with_reducible refine (H1.out _).mono ?_);rintro e w3 ⟨rfl,rfl⟩)
    go_returns
    exact ⟨rfl,BB.out⟩
  · generalize hb : (qfresh == 0) = b
    go_enter Tryz.func125,Tryz.ntmps125
    go_wp2
    go_returns
    exact ⟨rfl,BB.out⟩
def kindJ (qkind qdepth qfresh qsize : Int) (qout : Bool) (vsmax : Int) : Int :=
  if (qkind == 2) = true then (if (decide (1 ≤ qdepth) && decide (qdepth ≤ 64)) = false then 1 else if (qfresh == 0) = false then 1 else 0)
  else if (qdepth == 0) = false then 1 else if freshOk qout qfresh = false then 1 else if decide (vsmax - 47 < qsize) = true then 11 else 0
set_option maxHeartbeats 4000000 in
theorem judgeKind_any (qid qhost qpart qkind qvl qsub qudp qsize qdepth qfresh : Int) (qout : Bool) (vid vhost vbag vsmax vsubs vskew : Int) (vhigh : Bool) (tA : Option Addr) (tl tc : Nat) (w : World) (h0 : -9223372036854775000 ≤ vsmax) (h1 : vsmax ≤ 9223372036854775807) : Calls Tryz.prog 109 #[.agg #[.int .i64 qid,.int .i64 qhost,.int .i64 qpart,.int .i64 qkind,.bool qout,.int .i64 qvl,.int .i64 qsub,.int .i64 qudp,.int .i64 qsize,.int .i64 qdepth,.int .i64 qfresh],.agg #[.int .i64 vid,.int .i64 vhost,.int .i64 vbag,.int .i64 vsmax,.bool vhigh,.int .i64 vsubs,.int .i64 vskew,.slice tA tl tc]] w fun e w' => e = .returned (.int .i64 (kindJ qkind qdepth qfresh qsize qout vsmax)) ∧ Below w.heap.size w w' := by
  have H1 := fun w => within_any qdepth 1 64 w
  have H2 := fun w => mayFresh_any qid qhost qpart qkind qvl qsub qudp qsize qdepth qfresh qout w
  have H3 : ∀ (w : World) (n : Nat),Calls Tryz.prog 126 #[.int .i64 vsmax] (w.drewN n) fun e w'' => e = .returned (.int .i64 (vsmax - 47)) ∧ ∃ m,w'' = w.drewN m := fun w n => (largest_any vsmax (w.drewN n) h0 h1).mono fun e w' h => ⟨h.1,n,h.2⟩
  unfold kindJ
  generalize (decide (1 ≤ qdepth) && decide (qdepth ≤ 64)) = b1 at H1 ⊢
  generalize freshOk qout qfresh = b2 at H2 ⊢
  generalize vsmax - 47 = L at H3 ⊢
  generalize hb3 : decide (L < qsize) = b3
  generalize hb4 : (qkind == 2) = b4
  generalize hb5 : (qfresh == 0) = b5
  generalize hb6 : (qdepth == 0) = b6
  have hb6' : decide (qdepth = 0) = b6 := hb6
  have hb6'' : (qdepth != 0) = !b6 := by rw [← hb6];rfl
  have hb5' : decide (qfresh = 0) = b5 := hb5
  have hb5'' : (qfresh != 0) = !b5 := by rw [← hb5];rfl
  have H1 := Lib.hid H1;have H2 := Lib.hid H2;have H3 := Lib.hid H3
  clear h0 h1
  go_enter Tryz.func109,Tryz.ntmps109
  go_upto_region 1 with (fail)
  have XB : Hid (((w.alloc (.cells #[.int .i64 qid,.int .i64 qhost,.int .i64 qpart,.int .i64 qkind,.bool qout,.int .i64 qvl,.int .i64 qsub,.int .i64 qudp,.int .i64 qsize,.int .i64 qdepth,.int .i64 qfresh] 62)).alloc (.cells #[.int .i64 vid,.int .i64 vhost,.int .i64 vbag,.int .i64 vsmax,.bool vhigh,.int .i64 vsubs,.int .i64 vskew,.slice tA tl tc] 60)).heap[w.heap.size]? = some (.cells #[.int .i64 qid,.int .i64 qhost,.int .i64 qpart,.int .i64 qkind,.bool qout,.int .i64 qvl,.int .i64 qsub,.int .i64 qudp,.int .i64 qsize,.int .i64 qdepth,.int .i64 qfresh] 62)) := lies_alloc (heap_alloc_new w _) _
  have VB : Hid (((w.alloc (.cells #[.int .i64 qid,.int .i64 qhost,.int .i64 qpart,.int .i64 qkind,.bool qout,.int .i64 qvl,.int .i64 qsub,.int .i64 qudp,.int .i64 qsize,.int .i64 qdepth,.int .i64 qfresh] 62)).alloc (.cells #[.int .i64 vid,.int .i64 vhost,.int .i64 vbag,.int .i64 vsmax,.bool vhigh,.int .i64 vsubs,.int .i64 vskew,.slice tA tl tc] 60)).heap[w.heap.size + 1]? = some (.cells #[.int .i64 vid,.int .i64 vhost,.int .i64 vbag,.int .i64 vsmax,.bool vhigh,.int .i64 vsubs,.int .i64 vskew,.slice tA tl tc] 60)) := by
    have := heap_alloc_new (w.alloc (.cells #[.int .i64 qid,.int .i64 qhost,.int .i64 qpart,.int .i64 qkind,.bool qout,.int .i64 qvl,.int .i64 qsub,.int .i64 qudp,.int .i64 qsize,.int .i64 qdepth,.int .i64 qfresh] 62)) (.cells #[.int .i64 vid,.int .i64 vhost,.int .i64 vbag,.int .i64 vsmax,.bool vhigh,.int .i64 vsubs,.int .i64 vskew,.slice tA tl tc] 60)
    rw [World.size_alloc] at this
    exact this
  have BB : Hid (Below w.heap.size w ((w.alloc (.cells #[.int .i64 qid,.int .i64 qhost,.int .i64 qpart,.int .i64 qkind,.bool qout,.int .i64 qvl,.int .i64 qsub,.int .i64 qudp,.int .i64 qsize,.int .i64 qdepth,.int .i64 qfresh] 62)).alloc (.cells #[.int .i64 vid,.int .i64 vhost,.int .i64 vbag,.int .i64 vsmax,.bool vhigh,.int .i64 vsubs,.int .i64 vskew,.slice tA tl tc] 60))) := (((Below.refl _ w).alloc (Nat.le_refl _) _)).alloc (((Below.refl _ w).alloc (Nat.le_refl _) _)).size _
  generalize (w.alloc (.cells #[.int .i64 qid,.int .i64 qhost,.int .i64 qpart,.int .i64 qkind,.bool qout,.int .i64 qvl,.int .i64 qsub,.int .i64 qudp,.int .i64 qsize,.int .i64 qdepth,.int .i64 qfresh] 62)).alloc (.cells #[.int .i64 vid,.int .i64 vhost,.int .i64 vbag,.int .i64 vsmax,.bool vhigh,.int .i64 vsubs,.int .i64 vskew,.slice tA tl tc] 60) = W1 at XB VB BB ⊢
  obtain ⟨p0,p1,p2,p3,p4,p5,p6,p7,p8,p9,p10⟩ := cells_11 XB.out
  obtain ⟨x0,x1,x2,x3,x4,x5,x6,x7⟩ := cells_8 VB.out
  cases b4
  · cases b6
    · go_wp2
      go_returns
      exact ⟨rfl,BB.out⟩
    · cases b2
      · go_wp2_with (first
          | (go_at_call 125;(with_reducible refine (H2.out _).mono ?_);rintro e w2 ⟨rfl,hb2⟩
             (have X2 := Lib.hid (lies_below XB.out hb2 (lies_lt XB.out)))
             (have V2 := Lib.hid (lies_below VB.out hb2 (lies_lt VB.out)))
             (have B2 := Lib.hid (BB.out.trans (hb2.mono BB.out.size)))
             (clear hb2 x0 x1 x2 x3 x4 x5 x6 x7 p0 p1 p2 p3 p4 p5 p6 p7 p8 p9 p10)
             (obtain ⟨p0,p1,p2,p3,p4,p5,p6,p7,p8,p9,p10⟩ := cells_11 X2.out)
             (obtain ⟨x0,x1,x2,x3,x4,x5,x6,x7⟩ := cells_8 V2.out)))
        go_returns
        exact ⟨rfl,B2.out⟩
      · cases b3
        · go_upto_region 7 with (first
            | (go_at_call 125;(with_reducible refine (H2.out _).mono ?_);rintro e w2 ⟨rfl,hb2⟩
               (have X2 := Lib.hid (lies_below XB.out hb2 (lies_lt XB.out)))
               (have V2 := Lib.hid (lies_below VB.out hb2 (lies_lt VB.out)))
               (have B2 := Lib.hid (BB.out.trans (hb2.mono BB.out.size)))
               (clear hb2 x0 x1 x2 x3 x4 x5 x6 x7 p0 p1 p2 p3 p4 p5 p6 p7 p8 p9 p10)
               (obtain ⟨p0,p1,p2,p3,p4,p5,p6,p7,p8,p9,p10⟩ := cells_11 X2.out)
               (obtain ⟨x0,x1,x2,x3,x4,x5,x6,x7⟩ := cells_8 V2.out)))
          go_quiet ((go_at_call 126;exact H3.out _ _))
          go_wp2
          go_returns
          exact ⟨rfl,below_drewN B2.out nq⟩
        · go_upto_region 7 with (first
            | (go_at_call 125;(with_reducible refine (H2.out _).mono ?_);rintro e w2 ⟨rfl,hb2⟩
               (have X2 := Lib.hid (lies_below XB.out hb2 (lies_lt XB.out)))
               (have V2 := Lib.hid (lies_below VB.out hb2 (lies_lt VB.out)))
               (have B2 := Lib.hid (BB.out.trans (hb2.mono BB.out.size)))
               (clear hb2 x0 x1 x2 x3 x4 x5 x6 x7 p0 p1 p2 p3 p4 p5 p6 p7 p8 p9 p10)
               (obtain ⟨p0,p1,p2,p3,p4,p5,p6,p7,p8,p9,p10⟩ := cells_11 X2.out)
               (obtain ⟨x0,x1,x2,x3,x4,x5,x6,x7⟩ := cells_8 V2.out)))
          go_quiet ((go_at_call 126;exact H3.out _ _))
          go_wp2
          go_returns
          exact ⟨rfl,below_drewN B2.out nq⟩
  · cases b1
    · go_wp2_with (first
        | (go_at_call 75;(with_reducible refine (H1.out _).mono ?_);rintro e w3 ⟨rfl,rfl⟩))
      go_returns
      exact ⟨rfl,BB.out⟩
    · cases b5
      · go_wp2_with (first
          | (go_at_call 75;(with_reducible refine (H1.out _).mono ?_);rintro e w3 ⟨rfl,rfl⟩))
        go_returns
        exact ⟨rfl,BB.out⟩
      · go_wp2_with (first
          | (go_at_call 75;(with_reducible refine (H1.out _).mono ?_);rintro e w3 ⟨rfl,rfl⟩))
        go_returns
        exact ⟨rfl,BB.out⟩
def endJ (qout : Bool) (qhost qsub vhost vsubs : Int) (tol : List Int) : Int :=
  if qout = true then (if (qhost == vhost) = false then 20 else if (decide (0 ≤ qsub) && decide (qsub ≤ vsubs - 1)) = false then 1 else 0)
  else if tol.contains qhost = false then 20 else if (decide (0 ≤ qsub) && decide (qsub ≤ 0)) = false then 1 else 0
set_option maxHeartbeats 4000000 in
theorem judgeEnd_any (qid qhost qpart qkind qvl qsub qudp qsize qdepth qfresh : Int) (qout : Bool) (vid vhost vbag vsmax vsubs vskew : Int) (vhigh : Bool) (tA : Option Addr) (tl tc : Nat) (tol : List Int) (w : World) (hT : IntsAt w tA tol) (htl : tol.length = tl) (hl : tl ≤ maxLen) (h0 : -9223372036854775000 ≤ vsubs) (h1 : vsubs ≤ 9223372036854775807) : Calls Tryz.prog 108 #[.agg #[.int .i64 qid,.int .i64 qhost,.int .i64 qpart,.int .i64 qkind,.bool qout,.int .i64 qvl,.int .i64 qsub,.int .i64 qudp,.int .i64 qsize,.int .i64 qdepth,.int .i64 qfresh],.agg #[.int .i64 vid,.int .i64 vhost,.int .i64 vbag,.int .i64 vsmax,.bool vhigh,.int .i64 vsubs,.int .i64 vskew,.slice tA tl tc]] w fun e w' => e = .returned (.int .i64 (endJ qout qhost qsub vhost vsubs tol)) ∧ Below w.heap.size w w' := by
  have H1 := fun (w' : World) (hb : Below w.heap.size w w') => containsI_any tA tc tol qhost w' (hT.below hb) (by rw [htl];exact hl)
  have H2 := fun w => within_any qsub 0 0 w
  have H3 := fun w => within_any qsub 0 (vsubs - 1) w
  have e1 : IntKind.i64.wrap (vsubs - 1) = vsubs - 1 := IntWalk.i64_in _ (by omega)
  unfold endJ
  rw [htl] at H1
  generalize tol.contains qhost = b1 at H1 ⊢
  generalize (decide (0 ≤ qsub) && decide (qsub ≤ 0)) = b2 at H2 ⊢
  generalize (decide (0 ≤ qsub) && decide (qsub ≤ vsubs - 1)) = b3 at H3 ⊢
  generalize hb4 : (qhost == vhost) = b4
  have H1 := Lib.hid H1;have H2 := Lib.hid H2;have H3 := Lib.hid H3
  clear h0 h1 hT htl hl
  go_enter Tryz.func108,Tryz.ntmps108
  go_upto_region 1 with (fail)
  have XB : Hid (((w.alloc (.cells #[.int .i64 qid,.int .i64 qhost,.int .i64 qpart,.int .i64 qkind,.bool qout,.int .i64 qvl,.int .i64 qsub,.int .i64 qudp,.int .i64 qsize,.int .i64 qdepth,.int .i64 qfresh] 62)).alloc (.cells #[.int .i64 vid,.int .i64 vhost,.int .i64 vbag,.int .i64 vsmax,.bool vhigh,.int .i64 vsubs,.int .i64 vskew,.slice tA tl tc] 60)).heap[w.heap.size]? = some (.cells #[.int .i64 qid,.int .i64 qhost,.int .i64 qpart,.int .i64 qkind,.bool qout,.int .i64 qvl,.int .i64 qsub,.int .i64 qudp,.int .i64 qsize,.int .i64 qdepth,.int .i64 qfresh] 62)) := lies_alloc (heap_alloc_new w _) _
  have VB : Hid (((w.alloc (.cells #[.int .i64 qid,.int .i64 qhost,.int .i64 qpart,.int .i64 qkind,.bool qout,.int .i64 qvl,.int .i64 qsub,.int .i64 qudp,.int .i64 qsize,.int .i64 qdepth,.int .i64 qfresh] 62)).alloc (.cells #[.int .i64 vid,.int .i64 vhost,.int .i64 vbag,.int .i64 vsmax,.bool vhigh,.int .i64 vsubs,.int .i64 vskew,.slice tA tl tc] 60)).heap[w.heap.size + 1]? = some (.cells #[.int .i64 vid,.int .i64 vhost,.int .i64 vbag,.int .i64 vsmax,.bool vhigh,.int .i64 vsubs,.int .i64 vskew,.slice tA tl tc] 60)) := by
    have := heap_alloc_new (w.alloc (.cells #[.int .i64 qid,.int .i64 qhost,.int .i64 qpart,.int .i64 qkind,.bool qout,.int .i64 qvl,.int .i64 qsub,.int .i64 qudp,.int .i64 qsize,.int .i64 qdepth,.int .i64 qfresh] 62)) (.cells #[.int .i64 vid,.int .i64 vhost,.int .i64 vbag,.int .i64 vsmax,.bool vhigh,.int .i64 vsubs,.int .i64 vskew,.slice tA tl tc] 60)
    rw [World.size_alloc] at this
    exact this
  have BB : Hid (Below w.heap.size w ((w.alloc (.cells #[.int .i64 qid,.int .i64 qhost,.int .i64 qpart,.int .i64 qkind,.bool qout,.int .i64 qvl,.int .i64 qsub,.int .i64 qudp,.int .i64 qsize,.int .i64 qdepth,.int .i64 qfresh] 62)).alloc (.cells #[.int .i64 vid,.int .i64 vhost,.int .i64 vbag,.int .i64 vsmax,.bool vhigh,.int .i64 vsubs,.int .i64 vskew,.slice tA tl tc] 60))) := (((Below.refl _ w).alloc (Nat.le_refl _) _)).alloc (((Below.refl _ w).alloc (Nat.le_refl _) _)).size _
  generalize (w.alloc (.cells #[.int .i64 qid,.int .i64 qhost,.int .i64 qpart,.int .i64 qkind,.bool qout,.int .i64 qvl,.int .i64 qsub,.int .i64 qudp,.int .i64 qsize,.int .i64 qdepth,.int .i64 qfresh] 62)).alloc (.cells #[.int .i64 vid,.int .i64 vhost,.int .i64 vbag,.int .i64 vsmax,.bool vhigh,.int .i64 vsubs,.int .i64 vskew,.slice tA tl tc] 60) = W1 at XB VB BB ⊢
  obtain ⟨p0,p1,p2,p3,p4,p5,p6,p7,p8,p9,p10⟩ := cells_11 XB.out
  obtain ⟨x0,x1,x2,x3,x4,x5,x6,x7⟩ := cells_8 VB.out
  have H1 := Lib.hid (H1.out _ BB.out)
  cases qout
  · cases b1
    · go_wp2_with (first
        | (go_at_call 124;(with_reducible refine (H1.out).mono ?_);rintro e w3 ⟨rfl,rfl⟩))
      go_returns
      exact ⟨rfl,BB.out⟩
    · cases b2
      · go_wp2_with (first
          | (go_at_call 124;(with_reducible refine (H1.out).mono ?_);rintro e w3 ⟨rfl,rfl⟩)
          | (go_at_call 75;(with_reducible refine (H2.out _).mono ?_);rintro e w3 ⟨rfl,rfl⟩))
        go_returns
        exact ⟨rfl,BB.out⟩
      · go_wp2_with (first
          | (go_at_call 124;(with_reducible refine (H1.out).mono ?_);rintro e w3 ⟨rfl,rfl⟩)
          | (go_at_call 75;(with_reducible refine (H2.out _).mono ?_);rintro e w3 ⟨rfl,rfl⟩))
        go_returns
        exact ⟨rfl,BB.out⟩
  · cases b4
    · go_upto_region 3 with (go_at_call 124;(with_reducible refine (H1.out).mono ?_);rintro e w3 ⟨rfl,rfl⟩)
      go_quiet (fail)
      go_wp2
      go_returns
      exact ⟨rfl,below_drewN BB.out nq⟩
    · cases b3
      · go_upto_region 3 with (go_at_call 124;(with_reducible refine (H1.out).mono ?_);rintro e w3 ⟨rfl,rfl⟩)
        go_quiet (fail)
        go_wp2_with (first
          | (go_at_call 75;(with_reducible refine (H3.out _).mono ?_);rintro e w3 ⟨rfl,rfl⟩))
        go_returns
        exact ⟨rfl,below_drewN BB.out nq⟩
      · go_upto_region 3 with (go_at_call 124;(with_reducible refine (H1.out).mono ?_);rintro e w3 ⟨rfl,rfl⟩)
        go_quiet (fail)
        go_wp2_with (first
          | (go_at_call 75;(with_reducible refine (H3.out _).mono ?_);rintro e w3 ⟨rfl,rfl⟩))
        go_returns
        exact ⟨rfl,below_drewN BB.out nq⟩
end Go.Proofs.YtdgkanamceeheaaGreat
