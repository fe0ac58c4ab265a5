/- For every list of calls the law AddrBooks answers true: the book answers each call as the document's book does, and its addresses are the document's, in order. No conditions. -/
import Derived.Test.YtechdnkkchhaaaaRows
import Derived.Test.YtechdnkkchhaaaaAw
import Derived.Test.YtechdnkkchhaaaaOo
import Derived.Test.YtechdnkkchhaaaaSm
import Derived.Deep.Cut
import Derived.Deep.RegionHeld3
import Derived.WalkKit
import Derived.ProofKit
import Derived.OpenShut
import Derived.ShutString
import Derived.ChangeOld
import Derived.Below
namespace Go.Proofs.Ytechdnkkchhaaaa
open Go.ChangeShapes Go.WideShapes Go.ChangeAt Go.RowKit
open Go.ChangeMaps (open_string shut_string)
set_option linter.unusedVariables false

theorem addrBooks_own : ownKnob Try.prog.godebug = none := by kernel_rfl
theorem addrBooks_laid : laidOutB Try.prog = true := by kernel_rfl

open Go.Proofs.PitotAddr in
theorem eight {w : World} {g : Nat} {t : TypeId} {x0 x1 x2 x3 x4 x5 x6 x7 : Value} (h : w.heap[g]? = some (.cells #[x0, x1, x2, x3, x4, x5, x6, x7] t)) :
    (w.cell? ⟨g, 0, none⟩ = some x0) ∧ (w.cell? ⟨g, 1, none⟩ = some x1) ∧ (w.cell? ⟨g, 2, none⟩ = some x2) ∧ (w.cell? ⟨g, 3, none⟩ = some x3) ∧ (w.cell? ⟨g, 4, none⟩ = some x4) ∧ (w.cell? ⟨g, 5, none⟩ = some x5) ∧ (w.cell? ⟨g, 6, none⟩ = some x6) ∧ (w.cell? ⟨g, 7, none⟩ = some x7) :=
  ⟨lies_cell h 0, lies_cell h 1, lies_cell h 2, lies_cell h 3, lies_cell h 4, lies_cell h 5, lies_cell h 6, lies_cell h 7⟩
theorem ref_lies {base : Nat} {w w' : World} {p : Nat} {rs : List (Go.Proofs.PitotAddr.M6 × Int)} {g : Nat} {cs : Array Value} (h : RefAt base w p rs) (hg : w.grownBy w' (some p)) (hl : w.heap[g]? = some (.cells cs 69)) : w'.heap[g]? = some (.cells cs 69) := by
  obtain ⟨_, v, hv, _⟩ := h
  exact lies_grown hl hv (by decide) hg
open Go.Proofs.PitotAddr in
theorem RefAt.below {base : Nat} {w w' : World} {p : Nat} {rs : List (M6 × Int)} (h : RefAt base w p rs) (hb : Below w.heap.size w w') : RefAt base w' p rs := h.kind (kind_below hb)
open Go.Proofs.PitotAddr in
theorem RefAt.grows {base : Nat} {w w' w0 : World} {p : Nat} {rs : List (M6 × Int)} (h : RefAt base w p rs) (hg : w.grownBy w' (some p)) (hb : Below base w0 w) (h0 : base ≤ w0.heap.size) : Below base w0 w' :=
  hb.trans (grown_below hg h.1 (Nat.le_trans h0 hb.size))

open Go.Proofs.PitotAddr in
/-- What the inner loop reads at i. -/
theorem mac_at {w : World} {A : Option Addr} {ls : List M6} (h : MacsAt w A ls) (i : Nat) (hi : i < ls.length) : ∃ g, A = some ⟨g, 0, none⟩ ∧ g < w.heap.size ∧
    (w.cell? ⟨g, i * 6, none⟩ = some (.int .u8 ls[i].a.toNat)) ∧ (w.cell? ⟨g, i * 6 + 1, none⟩ = some (.int .u8 ls[i].b.toNat)) ∧ (w.cell? ⟨g, i * 6 + 2, none⟩ = some (.int .u8 ls[i].c.toNat)) ∧ (w.cell? ⟨g, i * 6 + 3, none⟩ = some (.int .u8 ls[i].d.toNat)) ∧ (w.cell? ⟨g, i * 6 + 4, none⟩ = some (.int .u8 ls[i].e.toNat)) ∧ (w.cell? ⟨g, i * 6 + 5, none⟩ = some (.int .u8 ls[i].f.toNat)) := by
  obtain ⟨g, hA, hg, hc⟩ := h (by intro e; rw [e] at hi; simp at hi)
  have e : ls[i]! = ls[i] := getElem!_pos ls i hi
  refine ⟨g, hA, hg, ?_, ?_, ?_, ?_, ?_, ?_⟩
  · have := hc i hi 0 (by decide); rw [e] at this; exact this
  · have := hc i hi 1 (by decide); rw [e] at this; exact this
  · have := hc i hi 2 (by decide); rw [e] at this; exact this
  · have := hc i hi 3 (by decide); rw [e] at this; exact this
  · have := hc i hi 4 (by decide); rw [e] at this; exact this
  · have := hc i hi 5 (by decide); rw [e] at this; exact this

open Go.Proofs.PitotAddr in
set_option maxRecDepth 100000 in
set_option maxHeartbeats 8000000 in
theorem addrBooks_walk (Ad : Option Addr) (cap : Nat) (l : List Cal) {w0 : World} (hcs : CalsAt w0 Ad l) (hl : l.length ≤ maxLen) (w : World) (hw : w = w0) :
    Calls Try.prog 6 #[.slice Ad l.length cap] w fun e w' => e = .returned (.bool true) ∧ Below w.heap.size w w' := by
  subst hw
  have Hcs := Lib.hid hcs; clear hcs
  unfold maxLen at hl
  have HB0 : Hid (BookAt w.heap.size ((w.alloc (.cells #[.map none] 63)).alloc (.cells #[.slice none 0 0] 67)) w.heap.size 0 (fun _ => none)) := ⟨Nat.le_refl _, .inl ⟨lies_alloc (heap_alloc_new w _) _, fun _ => rfl⟩⟩
  have HR0 : Hid (RefAt w.heap.size ((w.alloc (.cells #[.map none] 63)).alloc (.cells #[.slice none 0 0] 67)) (w.heap.size + 1) []) := ⟨by omega, _, new2 w _ _, World.ownsRow_nil _ _ _ _⟩
  go_enter Try.func6, Try.ntmps6
  go_wp2
  go_loopw [5] (fun v wr => ∃ (k : Nat) (g : M6 → Option Int) (rs : List (M6 × Int)), k ≤ 100 ∧ v = .int .i64 k ∧ Hid (BookAt w.heap.size wr w.heap.size k g) ∧ Hid (RefAt w.heap.size wr (w.heap.size + 1) rs) ∧ Hid (Same g rs) ∧ rs.length ≤ k ∧ Below w.heap.size w wr) (fun v _ => 100 - (intOf v).toNat)
  case atStart => exact ⟨0, _, [], by omega, rfl, HB0, HR0, same_start, by simp, ((Below.refl _ w).alloc (Nat.le_refl _) _).alloc (by simp) _⟩
  case round =>
    obtain ⟨k, g, rs, hk, rfl, hB, hR, hS, hrl, hb⟩ := hrel
    clear HB0 HR0
    by_cases hlt : k < l.length ∧ k < 100
    · obtain ⟨hk1, hk2⟩ := hlt
      obtain ⟨bb, off, rfl, hbl, hall⟩ := Hcs.out (by intro e; rw [e] at hk1; simp at hk1)
      have hcal := (hall k hk1).keep (w' := wr) (fun i => hb.cell (p := ⟨bb, i, none⟩) hbl)
      obtain ⟨t, Ht⟩ : ∃ t, Hid (t = l[k]) := ⟨l[k], rfl⟩
      rw [← Ht.out] at hcal
      obtain ⟨ask, ⟨ta, tb, tc, td, te, tf⟩, tn⟩ := t
      obtain ⟨c0, c1, c2, c3, c4, c5, c6, c7, c8⟩ := hcal
      dsimp only at c0 c1 c2 c3 c4 c5 c6 c7 c8
      replace c0 : wr.cell? ⟨bb, off + k * 8, none⟩ = some (.int .i64 ask) := c0
      have HH := Lib.hid hall; clear hall
      have hbO : Below wr.heap.size wr (wr.alloc (.cells #[.int .i64 ask, .int .u8 ta.toNat, .int .u8 tb.toNat, .int .u8 tc.toNat, .int .u8 td.toNat, .int .u8 te.toNat, .int .u8 tf.toNat, .int .i64 tn] 69)) := (Below.refl _ wr).alloc (Nat.le_refl _) _
      have hB1 : Hid (BookAt w.heap.size (wr.alloc (.cells #[.int .i64 ask, .int .u8 ta.toNat, .int .u8 tb.toNat, .int .u8 tc.toNat, .int .u8 td.toNat, .int .u8 te.toNat, .int .u8 tf.toNat, .int .i64 tn] 69)) w.heap.size k g) := hB.out.kept hbO
      have hR1 : Hid (RefAt w.heap.size (wr.alloc (.cells #[.int .i64 ask, .int .u8 ta.toNat, .int .u8 tb.toNat, .int .u8 tc.toNat, .int .u8 td.toNat, .int .u8 te.toNat, .int .u8 tf.toNat, .int .i64 tn] 69)) (w.heap.size + 1) rs) := hR.out.below hbO
      have L1 : Hid ((wr.alloc (.cells #[.int .i64 ask, .int .u8 ta.toNat, .int .u8 tb.toNat, .int .u8 tc.toNat, .int .u8 td.toNat, .int .u8 te.toNat, .int .u8 tf.toNat, .int .i64 tn] 69)).heap[wr.heap.size]? = some (.cells #[.int .i64 ask, .int .u8 ta.toNat, .int .u8 tb.toNat, .int .u8 tc.toNat, .int .u8 td.toNat, .int .u8 te.toNat, .int .u8 tf.toNat, .int .i64 tn] 69)) := heap_alloc_new wr _
      have HB1 : Hid (Below w.heap.size w (wr.alloc (.cells #[.int .i64 ask, .int .u8 ta.toNat, .int .u8 tb.toNat, .int .u8 tc.toNat, .int .u8 td.toNat, .int .u8 te.toNat, .int .u8 tf.toNat, .int .i64 tn] 69))) := hb.alloc hb.size _
      obtain ⟨T, HT⟩ : ∃ T, Hid (T = M6.txt ⟨ta, tb, tc, td, te, tf⟩) := ⟨_, rfl⟩
      have H23 : Hid (∀ w, Calls Try.prog 23 #[.agg #[.int .u8 ta.toNat, .int .u8 tb.toNat, .int .u8 tc.toNat, .int .u8 td.toNat, .int .u8 te.toNat, .int .u8 tf.toNat]] w fun r w' => r = .returned (.string T) ∧ Below w.heap.size w w') := by
        show ∀ w, _
        rw [HT.out]; exact fun w => text_any ta tb tc td te tf w
      obtain ⟨X, HX⟩ : ∃ X, Hid (X = (g ⟨ta, tb, tc, td, te, tf⟩).getD 0) := ⟨_, rfl⟩
      obtain ⟨Y, HY⟩ : ∃ Y, Hid (Y = (g ⟨ta, tb, tc, td, te, tf⟩).isSome) := ⟨_, rfl⟩
      have hXX : (X != X) = false := by simp
      have hYY : (Y != Y) = false := by simp
      have Hwf := Lib.hid c8; clear c8
      clear hbO
      by_cases ha : ask = 0
      · have ha' : (ask == 0) = true := by simp [ha]
        clear ha
        have HP : Hid (Calls Try.prog 32 #[.pointer (some ⟨w.heap.size, 0, none⟩), .agg #[.int .u8 ta.toNat, .int .u8 tb.toNat, .int .u8 tc.toNat, .int .u8 td.toNat, .int .u8 te.toNat, .int .u8 tf.toNat], .int .i64 tn] (wr.alloc (.cells #[.int .i64 ask, .int .u8 ta.toNat, .int .u8 tb.toNat, .int .u8 tc.toNat, .int .u8 td.toNat, .int .u8 te.toNat, .int .u8 tf.toNat, .int .i64 tn] 69)) fun r w' => r = .returned (.tuple #[.int .i64 X, .bool Y]) ∧ BookAt w.heap.size w' w.heap.size (k + 1) (upd g ⟨ta, tb, tc, td, te, tf⟩ (some tn)) ∧ Below w.heap.size (wr.alloc (.cells #[.int .i64 ask, .int .u8 ta.toNat, .int .u8 tb.toNat, .int .u8 tc.toNat, .int .u8 td.toNat, .int .u8 te.toNat, .int .u8 tf.toNat, .int .i64 tn] 69)) w' ∧ Kind63 (wr.alloc (.cells #[.int .i64 ask, .int .u8 ta.toNat, .int .u8 tb.toNat, .int .u8 tc.toNat, .int .u8 td.toNat, .int .u8 te.toNat, .int .u8 tf.toNat, .int .i64 tn] 69)) w') := by
          show Calls _ _ _ _ _
          rw [HX.out, HY.out]
          exact put_any hB1.out (by unfold maxLen; omega) ⟨ta, tb, tc, td, te, tf⟩ tn Hwf.out
        have H33 : Hid (∀ w', RefAt w.heap.size w' (w.heap.size + 1) rs → Calls Try.prog 33 #[.pointer (some ⟨w.heap.size + 1, 0, none⟩), .string T, .int .i64 tn] w' fun r w'' => r = .returned (.tuple #[.int .i64 X, .bool Y]) ∧ RefAt w.heap.size w'' (w.heap.size + 1) (rins ⟨ta, tb, tc, td, te, tf⟩ tn (rdrop rs ⟨ta, tb, tc, td, te, tf⟩)) ∧ w'.grownBy w'' (some (w.heap.size + 1))) := by
          show ∀ w', _ → Calls _ _ _ _ _
          rw [HX.out, HY.out, HT.out, hS.out.2]
          exact fun w' h => refPut_any h (by omega) ⟨ta, tb, tc, td, te, tf⟩ tn
        go_upto_region 12 with (first
          | (go_at_call 32; (with_reducible refine (HP.out).mono ?_); rintro r w2 ⟨rfl, hB2, hb2, hk2⟩
             (have hB2 := Lib.hid hB2); (have HB2 := Lib.hid (HB1.out.trans hb2)); (have hR2 := Lib.hid (hR1.out.kind hk2)); (have L2 := Lib.hid (hk2 _ _ 69 (0, 0) (by decide) L1.out)); clear hb2 hk2 HP))
        clear c0 c1 c2 c3 c4 c5 c6 c7
        obtain ⟨i0, i1, i2, i3, i4, i5, i6, i7⟩ := eight L2.out
        go_region_held3 (fun w' => w'.cell? ⟨wr.heap.size, 1, none⟩ = some (.int .u8 ta.toNat) ∧ w'.cell? ⟨wr.heap.size, 2, none⟩ = some (.int .u8 tb.toNat) ∧ w'.cell? ⟨wr.heap.size, 3, none⟩ = some (.int .u8 tc.toNat) ∧ w'.cell? ⟨wr.heap.size, 4, none⟩ = some (.int .u8 td.toNat) ∧ w'.cell? ⟨wr.heap.size, 5, none⟩ = some (.int .u8 te.toNat) ∧ w'.cell? ⟨wr.heap.size, 6, none⟩ = some (.int .u8 tf.toNat) ∧ w'.cell? ⟨wr.heap.size, 7, none⟩ = some (.int .i64 tn)) (exact ⟨by assumption, by assumption, by assumption, by assumption, by assumption, by assumption, by assumption⟩) (first
          | (go_at_call 23; (with_reducible refine (H23.out _).mono ?_); rintro r w3 ⟨rfl, hb3⟩
             (have hB3 := Lib.hid (BookAt.kept (w := w2.drew) hB2.out hb3)); (have hR3 := Lib.hid (RefAt.below (w := w2.drew) hR2.out hb3)); (have L3 := Lib.hid (lies_below (w := w2.drew) L2.out hb3 (lies_lt L2.out)))
             (have HB3 := Lib.hid (HB2.out.drew.trans (hb3.mono HB2.out.size)))
             (have Hcall := Lib.hid (H33.out _ hR3.out)); (obtain ⟨i0, i1, i2, i3, i4, i5, i6, i7⟩ := eight L3.out); clear hb3)
          | (go_at_call 33; (with_reducible refine (Hcall.out).mono ?_); rintro r w4 ⟨rfl, hR4, hg4⟩
             (have hB4 := Lib.hid (hB3.out.grown hR3.out hg4)); (have HB4 := Lib.hid (hR3.out.grows hg4 HB3.out (Nat.le_refl _))); (have L4 := Lib.hid (ref_lies hR3.out hg4 L3.out))
             (have hR4 := Lib.hid hR4); (obtain ⟨i0, i1, i2, i3, i4, i5, i6, i7⟩ := eight L4.out); clear hg4))
        all_goals
          have HQ : ∃ g4 rs4, BookAt w.heap.size w4 w.heap.size (k + 1) g4 ∧ RefAt w.heap.size w4 (w.heap.size + 1) rs4 ∧ Same g4 rs4 ∧ rs4.length ≤ k + 1 := ⟨_, _, hB4.out, hR4.out, same_put hS.out _ _, by rw [ins_len]; have := drop_len rs ⟨ta, tb, tc, td, te, tf⟩; omega⟩
          clear i0 i1 i2 i3 i4 i5 i6 i7
          clear hB hR hS hB1 hR1 L1 HB1 hrl hb hB4 hR4 L4
          obtain ⟨g4, rs4, hB5, hR5, hS5, hl5⟩ := HQ
          have HALL := Lib.hid (all_any hB5 (by omega))
          have hB5 := Lib.hid hB5
          have hR5 := Lib.hid hR5
          have hS5 := Lib.hid hS5
          obtain ⟨v5, HV5⟩ : ∃ v5, Hid (w4.heap[w.heap.size + 1]? = some (.cells #[v5] 67) ∧ w4.ownsRow w.heap.size 79 2 v5 rs4.length (Ytechdnkkchhaaaa.flatR rs4)) := by obtain ⟨_, v, h⟩ := hR5.out; exact ⟨v, h⟩
          obtain ⟨A5, cap5, rfl⟩ := slice_of HV5.out.2
          go_wp2_with (first
            | (go_at_call 38; (with_reducible refine (HALL.out).mono ?_); rintro r w6 hA; (obtain ⟨A6, cap6, ls, rfl, hM6, hs6, hm6, hb6, hz6⟩ := hA)
               (have Hls := Lib.hid (all_same hS5.out hs6 hm6)); (have hlen : ls.length = rs4.length := by rw [Hls.out, List.length_map])
               (have hne : ((ls.length : Int) != (rs4.length : Int)) = false := by rw [hlen]; simp)
               (have Hlen := Lib.hid hlen)
               (have hc6 : w6.cell? ⟨w.heap.size + 1, 0, none⟩ = some (.slice A5 rs4.length cap5) := lies_cell (lies_below HV5.out.1 hb6 (lies_lt HV5.out.1)) 0)
               (have HB6 := Lib.hid (HB4.out.trans (hb6.mono HB4.out.size))); (have hM6 := Lib.hid hM6); (have hb6 := Lib.hid hb6); clear hs6 hm6 hlen HALL))
          go_loopw [16] (fun v wi => ∃ i : Nat, i ≤ ls.length ∧ v = .int .i64 i ∧ Below w6.heap.size w6 wi) (fun v _ => ls.length - (intOf v).toNat)
          case atStart => exact ⟨0, Nat.zero_le _, rfl, Below.refl _ _⟩
          case round =>
            obtain ⟨i, hi, rfl, hbi⟩ := hrel
            rename World => wi
            by_cases hil : i < ls.length
            · obtain ⟨ga, rfl, hga, m0, m1, m2, m3, m4, m5⟩ := mac_at hM6.out i hil
              have hi2 : i < rs4.length := by rw [← Hlen.out]; exact hil
              obtain ⟨gr, rfl, hgr, r0, r1⟩ := row_at HV5.out.2 i hi2
              obtain ⟨x, Hx⟩ : ∃ x, Hid (x = ls[i]) := ⟨ls[i], rfl⟩
              have Hx2 : Hid (rs4[i].1 = x) := by show _ = _; rw [Hx.out]; simp [Hls.out]
              rw [← Hx.out] at m0 m1 m2 m3 m4 m5
              rw [Hx2.out] at r0
              obtain ⟨xa, xb, xc, xd, xe, xf⟩ := x
              dsimp only at m0 m1 m2 m3 m4 m5
              obtain ⟨U, HU⟩ : ∃ U, Hid (U = M6.txt ⟨xa, xb, xc, xd, xe, xf⟩) := ⟨_, rfl⟩
              rw [← HU.out] at r0
              have H23b : Hid (∀ w, Calls Try.prog 23 #[.agg #[.int .u8 xa.toNat, .int .u8 xb.toNat, .int .u8 xc.toNat, .int .u8 xd.toNat, .int .u8 xe.toNat, .int .u8 xf.toNat]] w fun r w' => r = .returned (.string U) ∧ Below w.heap.size w w') := by
                show ∀ w, _
                rw [HU.out]; exact fun w => text_any xa xb xc xd xe xf w
              have hrl6 : w.heap.size + 1 < w6.heap.size := Nat.lt_of_lt_of_le (lies_lt HV5.out.1) hb6.out.size
              have hgr6 : gr < w6.heap.size := Nat.lt_of_lt_of_le hgr hb6.out.size
              have HC : Hid (∀ w2, Below w6.heap.size w6 w2 → w2.cell? ⟨ga, i * 6, none⟩ = some (.int .u8 xa.toNat) ∧ w2.cell? ⟨ga, i * 6 + 1, none⟩ = some (.int .u8 xb.toNat) ∧ w2.cell? ⟨ga, i * 6 + 2, none⟩ = some (.int .u8 xc.toNat) ∧ w2.cell? ⟨ga, i * 6 + 3, none⟩ = some (.int .u8 xd.toNat) ∧ w2.cell? ⟨ga, i * 6 + 4, none⟩ = some (.int .u8 xe.toNat) ∧ w2.cell? ⟨ga, i * 6 + 5, none⟩ = some (.int .u8 xf.toNat) ∧ w2.cell? ⟨w.heap.size + 1, 0, none⟩ = some (.slice (some ⟨gr, 0, none⟩) rs4.length cap5) ∧ w2.cell? ⟨gr, i * 2, none⟩ = some (.string U)) := fun w2 h => ⟨(h.cell (p := ⟨ga, _, none⟩) hga).trans m0, (h.cell (p := ⟨ga, _, none⟩) hga).trans m1, (h.cell (p := ⟨ga, _, none⟩) hga).trans m2, (h.cell (p := ⟨ga, _, none⟩) hga).trans m3, (h.cell (p := ⟨ga, _, none⟩) hga).trans m4, (h.cell (p := ⟨ga, _, none⟩) hga).trans m5, (h.cell (p := ⟨w.heap.size + 1, 0, none⟩) hrl6).trans hc6, (h.cell (p := ⟨gr, _, none⟩) hgr6).trans ((hb6.out.cell (p := ⟨gr, _, none⟩) hgr).trans r0)⟩
              clear m0 m1 m2 m3 m4 m5 r0 r1 hc6
              obtain ⟨m0, m1, m2, m3, m4, m5, m6, m7⟩ := HC.out wi hbi
              have hUU : (U.toList == U.toList) = true := by simp
              go_upto_region 26 with (fail)
              go_region_held3 (fun w2 => w2.cell? ⟨ga, i * 6, none⟩ = some (.int .u8 xa.toNat) ∧ w2.cell? ⟨ga, i * 6 + 1, none⟩ = some (.int .u8 xb.toNat) ∧ w2.cell? ⟨ga, i * 6 + 2, none⟩ = some (.int .u8 xc.toNat) ∧ w2.cell? ⟨ga, i * 6 + 3, none⟩ = some (.int .u8 xd.toNat) ∧ w2.cell? ⟨ga, i * 6 + 4, none⟩ = some (.int .u8 xe.toNat) ∧ w2.cell? ⟨ga, i * 6 + 5, none⟩ = some (.int .u8 xf.toNat) ∧ w2.cell? ⟨w.heap.size + 1, 0, none⟩ = some (.slice (some ⟨gr, 0, none⟩) rs4.length cap5) ∧ w2.cell? ⟨gr, i * 2, none⟩ = some (.string U)) (exact ⟨by assumption, by assumption, by assumption, by assumption, by assumption, by assumption, by assumption, by assumption⟩) (first
                | (go_at_call 23; (with_reducible refine (H23b.out _).mono ?_); rintro r w7 ⟨rfl, hb7⟩
                   (have hb7 : Below w6.heap.size w6 w7 := hbi.drew.trans (hb7.mono hbi.size)); (obtain ⟨m0, m1, m2, m3, m4, m5, m6, m7⟩ := HC.out w7 hb7)))
              all_goals
                go_wp2
                go_roundw
                case rel => exact ⟨i + 1, by omega, by go_num, hb7⟩
                case measure => simp [intOf]; omega
            · go_wp2
              go_roundw
              case rel => exact ⟨k + 1, g4, rs4, by omega, by go_num, (hB5.out.kept hb6.out).kept (hbi.mono (Nat.le_refl _)), (hR5.out.below hb6.out).below hbi, hS5, hl5, HB6.out.trans (hbi.mono HB6.out.size)⟩
              case measure => simp [intOf]; omega
      · by_cases hb1 : ask = 1
        · have ha' : (ask == 0) = false := by simp [ha]
          have hb1' : (ask == 1) = true := by simp [hb1]
          clear ha hb1
          have H34 : Hid (Calls Try.prog 34 #[.pointer (some ⟨w.heap.size, 0, none⟩), .agg #[.int .u8 ta.toNat, .int .u8 tb.toNat, .int .u8 tc.toNat, .int .u8 td.toNat, .int .u8 te.toNat, .int .u8 tf.toNat]] (wr.alloc (.cells #[.int .i64 ask, .int .u8 ta.toNat, .int .u8 tb.toNat, .int .u8 tc.toNat, .int .u8 td.toNat, .int .u8 te.toNat, .int .u8 tf.toNat, .int .i64 tn] 69)) fun r w' => r = .returned (.tuple #[.int .i64 X, .bool Y]) ∧ Below (wr.alloc (.cells #[.int .i64 ask, .int .u8 ta.toNat, .int .u8 tb.toNat, .int .u8 tc.toNat, .int .u8 td.toNat, .int .u8 te.toNat, .int .u8 tf.toNat, .int .i64 tn] 69)).heap.size (wr.alloc (.cells #[.int .i64 ask, .int .u8 ta.toNat, .int .u8 tb.toNat, .int .u8 tc.toNat, .int .u8 td.toNat, .int .u8 te.toNat, .int .u8 tf.toNat, .int .i64 tn] 69)) w') := by
            show Calls _ _ _ _ _
            rw [HX.out, HY.out]
            exact get_any hB1.out ⟨ta, tb, tc, td, te, tf⟩
          have H35 : Hid (∀ w', RefAt w.heap.size w' (w.heap.size + 1) rs → Calls Try.prog 35 #[.pointer (some ⟨w.heap.size + 1, 0, none⟩), .string T] w' fun r w'' => r = .returned (.tuple #[.int .i64 X, .bool Y]) ∧ w' = w'') := by
            show ∀ w', _ → Calls _ _ _ _ _
            rw [HX.out, HY.out, HT.out, hS.out.2]
            exact fun w' h => refGet_any h (by omega) ⟨ta, tb, tc, td, te, tf⟩
          go_upto_region 20 with (first
            | (go_at_call 34; (with_reducible refine (H34.out).mono ?_); rintro r w2 ⟨rfl, hb2⟩
               (have hB2 := Lib.hid (hB1.out.kept hb2)); (have HB2 := Lib.hid (HB1.out.trans (hb2.mono HB1.out.size))); (have hR2 := Lib.hid (hR1.out.below hb2)); (have L2 := Lib.hid (lies_below L1.out hb2 (lies_lt L1.out))); clear hb2 H34
               (obtain ⟨i0, i1, i2, i3, i4, i5, i6, i7⟩ := eight L2.out))
            | (go_at_call 23; (with_reducible refine (H23.out _).mono ?_); rintro r w4 ⟨rfl, hb3⟩
               (have hB4 := Lib.hid (hB2.out.kept hb3)); (have hR4 := Lib.hid (hR2.out.below hb3)); (have L4 := Lib.hid (lies_below L2.out hb3 (lies_lt L2.out)))
               (have HB4 := Lib.hid (HB2.out.trans (hb3.mono HB2.out.size)))
               (have Hcall := Lib.hid (H35.out _ hR4.out)); clear hb3)
            | (go_at_call 35; (with_reducible refine (Hcall.out).mono ?_); rintro r w9 ⟨rfl, rfl⟩))
          have HQ : ∃ g4 rs4, BookAt w.heap.size w4 w.heap.size (k + 1) g4 ∧ RefAt w.heap.size w4 (w.heap.size + 1) rs4 ∧ Same g4 rs4 ∧ rs4.length ≤ k + 1 := ⟨_, _, hB4.out.more (Nat.le_succ _), hR4.out, hS.out, by omega⟩
          clear c0 c1 c2 c3 c4 c5 c6 c7 i0 i1 i2 i3 i4 i5 i6 i7
          clear hB hR hS hB1 hR1 L1 HB1 hrl hb hB4 hR4 L4
          obtain ⟨g4, rs4, hB5, hR5, hS5, hl5⟩ := HQ
          have HALL := Lib.hid (all_any hB5 (by omega))
          have hB5 := Lib.hid hB5
          have hR5 := Lib.hid hR5
          have hS5 := Lib.hid hS5
          obtain ⟨v5, HV5⟩ : ∃ v5, Hid (w4.heap[w.heap.size + 1]? = some (.cells #[v5] 67) ∧ w4.ownsRow w.heap.size 79 2 v5 rs4.length (Ytechdnkkchhaaaa.flatR rs4)) := by obtain ⟨_, v, h⟩ := hR5.out; exact ⟨v, h⟩
          obtain ⟨A5, cap5, rfl⟩ := slice_of HV5.out.2
          go_wp2_with (first
            | (go_at_call 38; (with_reducible refine (HALL.out).mono ?_); rintro r w6 hA; (obtain ⟨A6, cap6, ls, rfl, hM6, hs6, hm6, hb6, hz6⟩ := hA)
               (have Hls := Lib.hid (all_same hS5.out hs6 hm6)); (have hlen : ls.length = rs4.length := by rw [Hls.out, List.length_map])
               (have hne : ((ls.length : Int) != (rs4.length : Int)) = false := by rw [hlen]; simp)
               (have Hlen := Lib.hid hlen)
               (have hc6 : w6.cell? ⟨w.heap.size + 1, 0, none⟩ = some (.slice A5 rs4.length cap5) := lies_cell (lies_below HV5.out.1 hb6 (lies_lt HV5.out.1)) 0)
               (have HB6 := Lib.hid (HB4.out.trans (hb6.mono HB4.out.size))); (have hM6 := Lib.hid hM6); (have hb6 := Lib.hid hb6); clear hs6 hm6 hlen HALL))
          go_loopw [16] (fun v wi => ∃ i : Nat, i ≤ ls.length ∧ v = .int .i64 i ∧ Below w6.heap.size w6 wi) (fun v _ => ls.length - (intOf v).toNat)
          case atStart => exact ⟨0, Nat.zero_le _, rfl, Below.refl _ _⟩
          case round =>
            obtain ⟨i, hi, rfl, hbi⟩ := hrel
            rename World => wi
            by_cases hil : i < ls.length
            · obtain ⟨ga, rfl, hga, m0, m1, m2, m3, m4, m5⟩ := mac_at hM6.out i hil
              have hi2 : i < rs4.length := by rw [← Hlen.out]; exact hil
              obtain ⟨gr, rfl, hgr, r0, r1⟩ := row_at HV5.out.2 i hi2
              obtain ⟨x, Hx⟩ : ∃ x, Hid (x = ls[i]) := ⟨ls[i], rfl⟩
              have Hx2 : Hid (rs4[i].1 = x) := by show _ = _; rw [Hx.out]; simp [Hls.out]
              rw [← Hx.out] at m0 m1 m2 m3 m4 m5
              rw [Hx2.out] at r0
              obtain ⟨xa, xb, xc, xd, xe, xf⟩ := x
              dsimp only at m0 m1 m2 m3 m4 m5
              obtain ⟨U, HU⟩ : ∃ U, Hid (U = M6.txt ⟨xa, xb, xc, xd, xe, xf⟩) := ⟨_, rfl⟩
              rw [← HU.out] at r0
              have H23b : Hid (∀ w, Calls Try.prog 23 #[.agg #[.int .u8 xa.toNat, .int .u8 xb.toNat, .int .u8 xc.toNat, .int .u8 xd.toNat, .int .u8 xe.toNat, .int .u8 xf.toNat]] w fun r w' => r = .returned (.string U) ∧ Below w.heap.size w w') := by
                show ∀ w, _
                rw [HU.out]; exact fun w => text_any xa xb xc xd xe xf w
              have hrl6 : w.heap.size + 1 < w6.heap.size := Nat.lt_of_lt_of_le (lies_lt HV5.out.1) hb6.out.size
              have hgr6 : gr < w6.heap.size := Nat.lt_of_lt_of_le hgr hb6.out.size
              have HC : Hid (∀ w2, Below w6.heap.size w6 w2 → w2.cell? ⟨ga, i * 6, none⟩ = some (.int .u8 xa.toNat) ∧ w2.cell? ⟨ga, i * 6 + 1, none⟩ = some (.int .u8 xb.toNat) ∧ w2.cell? ⟨ga, i * 6 + 2, none⟩ = some (.int .u8 xc.toNat) ∧ w2.cell? ⟨ga, i * 6 + 3, none⟩ = some (.int .u8 xd.toNat) ∧ w2.cell? ⟨ga, i * 6 + 4, none⟩ = some (.int .u8 xe.toNat) ∧ w2.cell? ⟨ga, i * 6 + 5, none⟩ = some (.int .u8 xf.toNat) ∧ w2.cell? ⟨w.heap.size + 1, 0, none⟩ = some (.slice (some ⟨gr, 0, none⟩) rs4.length cap5) ∧ w2.cell? ⟨gr, i * 2, none⟩ = some (.string U)) := fun w2 h => ⟨(h.cell (p := ⟨ga, _, none⟩) hga).trans m0, (h.cell (p := ⟨ga, _, none⟩) hga).trans m1, (h.cell (p := ⟨ga, _, none⟩) hga).trans m2, (h.cell (p := ⟨ga, _, none⟩) hga).trans m3, (h.cell (p := ⟨ga, _, none⟩) hga).trans m4, (h.cell (p := ⟨ga, _, none⟩) hga).trans m5, (h.cell (p := ⟨w.heap.size + 1, 0, none⟩) hrl6).trans hc6, (h.cell (p := ⟨gr, _, none⟩) hgr6).trans ((hb6.out.cell (p := ⟨gr, _, none⟩) hgr).trans r0)⟩
              clear m0 m1 m2 m3 m4 m5 r0 r1 hc6
              obtain ⟨m0, m1, m2, m3, m4, m5, m6, m7⟩ := HC.out wi hbi
              have hUU : (U.toList == U.toList) = true := by simp
              go_upto_region 26 with (fail)
              go_region_held3 (fun w2 => w2.cell? ⟨ga, i * 6, none⟩ = some (.int .u8 xa.toNat) ∧ w2.cell? ⟨ga, i * 6 + 1, none⟩ = some (.int .u8 xb.toNat) ∧ w2.cell? ⟨ga, i * 6 + 2, none⟩ = some (.int .u8 xc.toNat) ∧ w2.cell? ⟨ga, i * 6 + 3, none⟩ = some (.int .u8 xd.toNat) ∧ w2.cell? ⟨ga, i * 6 + 4, none⟩ = some (.int .u8 xe.toNat) ∧ w2.cell? ⟨ga, i * 6 + 5, none⟩ = some (.int .u8 xf.toNat) ∧ w2.cell? ⟨w.heap.size + 1, 0, none⟩ = some (.slice (some ⟨gr, 0, none⟩) rs4.length cap5) ∧ w2.cell? ⟨gr, i * 2, none⟩ = some (.string U)) (exact ⟨by assumption, by assumption, by assumption, by assumption, by assumption, by assumption, by assumption, by assumption⟩) (first
                | (go_at_call 23; (with_reducible refine (H23b.out _).mono ?_); rintro r w7 ⟨rfl, hb7⟩
                   (have hb7 : Below w6.heap.size w6 w7 := hbi.drew.trans (hb7.mono hbi.size)); (obtain ⟨m0, m1, m2, m3, m4, m5, m6, m7⟩ := HC.out w7 hb7)))
              all_goals
                go_wp2
                go_roundw
                case rel => exact ⟨i + 1, by omega, by go_num, hb7⟩
                case measure => simp [intOf]; omega
            · go_wp2
              go_roundw
              case rel => exact ⟨k + 1, g4, rs4, by omega, by go_num, (hB5.out.kept hb6.out).kept (hbi.mono (Nat.le_refl _)), (hR5.out.below hb6.out).below hbi, hS5, hl5, HB6.out.trans (hbi.mono HB6.out.size)⟩
              case measure => simp [intOf]; omega
        · have ha' : (ask == 0) = false := by simp [ha]
          have hb1' : (ask == 1) = false := by simp [hb1]
          clear ha hb1
          have H36 : Hid (∀ w', BookAt w.heap.size w' w.heap.size k g → Calls Try.prog 36 #[.pointer (some ⟨w.heap.size, 0, none⟩), .agg #[.int .u8 ta.toNat, .int .u8 tb.toNat, .int .u8 tc.toNat, .int .u8 td.toNat, .int .u8 te.toNat, .int .u8 tf.toNat]] w' fun r w'' => r = .returned (.bool Y) ∧ BookAt w.heap.size w'' w.heap.size k (upd g ⟨ta, tb, tc, td, te, tf⟩ none) ∧ Below w.heap.size w' w'' ∧ Kind63 w' w'') := by
            show ∀ w', _ → Calls _ _ _ _ _
            rw [HY.out]
            exact fun w' h => drop_any h ⟨ta, tb, tc, td, te, tf⟩
          have H37 : Hid (∀ w', RefAt w.heap.size w' (w.heap.size + 1) rs → Calls Try.prog 37 #[.pointer (some ⟨w.heap.size + 1, 0, none⟩), .string T] w' fun r w'' => r = .returned (.bool Y) ∧ RefAt w.heap.size w'' (w.heap.size + 1) (rdrop rs ⟨ta, tb, tc, td, te, tf⟩) ∧ w'.grownBy w'' (some (w.heap.size + 1))) := by
            show ∀ w', _ → Calls _ _ _ _ _
            rw [HY.out, HT.out, hS.out.2]
            exact fun w' h => refDrop_any h (by omega) ⟨ta, tb, tc, td, te, tf⟩
          go_upto_region 8 with (fail)
          clear c0 c1 c2 c3 c4 c5 c6 c7
          have hB4 : Hid (BookAt w.heap.size (wr.alloc (.cells #[.int .i64 ask, .int .u8 ta.toNat, .int .u8 tb.toNat, .int .u8 tc.toNat, .int .u8 td.toNat, .int .u8 te.toNat, .int .u8 tf.toNat, .int .i64 tn] 69)).drew w.heap.size k g) := hB1
          have hR4 : Hid (RefAt w.heap.size (wr.alloc (.cells #[.int .i64 ask, .int .u8 ta.toNat, .int .u8 tb.toNat, .int .u8 tc.toNat, .int .u8 td.toNat, .int .u8 te.toNat, .int .u8 tf.toNat, .int .i64 tn] 69)).drew (w.heap.size + 1) rs) := hR1
          have L4 : Hid ((wr.alloc (.cells #[.int .i64 ask, .int .u8 ta.toNat, .int .u8 tb.toNat, .int .u8 tc.toNat, .int .u8 td.toNat, .int .u8 te.toNat, .int .u8 tf.toNat, .int .i64 tn] 69)).drew.heap[wr.heap.size]? = some (.cells #[.int .i64 ask, .int .u8 ta.toNat, .int .u8 tb.toNat, .int .u8 tc.toNat, .int .u8 td.toNat, .int .u8 te.toNat, .int .u8 tf.toNat, .int .i64 tn] 69)) := L1
          have HB4 : Hid (Below w.heap.size w (wr.alloc (.cells #[.int .i64 ask, .int .u8 ta.toNat, .int .u8 tb.toNat, .int .u8 tc.toNat, .int .u8 td.toNat, .int .u8 te.toNat, .int .u8 tf.toNat, .int .i64 tn] 69)).drew) := HB1.out.drew
          obtain ⟨i0, i1, i2, i3, i4, i5, i6, i7⟩ := eight L1.out
          go_region_held3 (fun w' => w'.cell? ⟨wr.heap.size, 1, none⟩ = some (.int .u8 ta.toNat) ∧ w'.cell? ⟨wr.heap.size, 2, none⟩ = some (.int .u8 tb.toNat) ∧ w'.cell? ⟨wr.heap.size, 3, none⟩ = some (.int .u8 tc.toNat) ∧ w'.cell? ⟨wr.heap.size, 4, none⟩ = some (.int .u8 td.toNat) ∧ w'.cell? ⟨wr.heap.size, 5, none⟩ = some (.int .u8 te.toNat) ∧ w'.cell? ⟨wr.heap.size, 6, none⟩ = some (.int .u8 tf.toNat)) (exact ⟨by assumption, by assumption, by assumption, by assumption, by assumption, by assumption⟩) (first
            | (go_at_call 36; (with_reducible refine (H36.out _ hB4.out).mono ?_); rintro r w4 ⟨rfl, hB5, hb5, hk5⟩
               (have hB4 := Lib.hid hB5); (have hR4 := Lib.hid (hR4.out.kind hk5)); (have L4 := Lib.hid (hk5 _ _ 69 (0, 0) (by decide) L4.out)); (have HB4 := Lib.hid (HB4.out.trans hb5)); (obtain ⟨i0, i1, i2, i3, i4, i5, i6, i7⟩ := eight L4.out); clear hB5 hb5 hk5)
            | (go_at_call 23; (with_reducible refine (H23.out _).mono ?_); rintro r w4 ⟨rfl, hb5⟩
               (have hB4 := Lib.hid (hB4.out.kept hb5)); (have hR4 := Lib.hid (hR4.out.below hb5)); (have L4 := Lib.hid (lies_below L4.out hb5 (lies_lt L4.out))); (have HB4 := Lib.hid (HB4.out.trans (hb5.mono HB4.out.size))); (obtain ⟨i0, i1, i2, i3, i4, i5, i6, i7⟩ := eight L4.out); clear hb5)
            | (go_at_call 37; (with_reducible refine (H37.out _ hR4.out).mono ?_); rintro r w4 ⟨rfl, hR5, hg5⟩
               (have hB4 := Lib.hid (hB4.out.grown hR4.out hg5)); (have HB4 := Lib.hid (hR4.out.grows hg5 HB4.out (Nat.le_refl _))); (have L4 := Lib.hid (ref_lies hR4.out hg5 L4.out)); (have hR4 := Lib.hid hR5); (obtain ⟨i0, i1, i2, i3, i4, i5, i6, i7⟩ := eight L4.out); clear hR5 hg5))
          all_goals
            have HQ : ∃ g4 rs4, BookAt w.heap.size w4 w.heap.size (k + 1) g4 ∧ RefAt w.heap.size w4 (w.heap.size + 1) rs4 ∧ Same g4 rs4 ∧ rs4.length ≤ k + 1 := ⟨_, _, hB4.out.more (Nat.le_succ _), hR4.out, same_drop hS.out _, by have := drop_len rs ⟨ta, tb, tc, td, te, tf⟩; omega⟩
            clear i0 i1 i2 i3 i4 i5 i6 i7
            clear hB hR hS hB1 hR1 L1 HB1 hrl hb hB4 hR4 L4
            obtain ⟨g4, rs4, hB5, hR5, hS5, hl5⟩ := HQ
            have HALL := Lib.hid (all_any hB5 (by omega))
            have hB5 := Lib.hid hB5
            have hR5 := Lib.hid hR5
            have hS5 := Lib.hid hS5
            obtain ⟨v5, HV5⟩ : ∃ v5, Hid (w4.heap[w.heap.size + 1]? = some (.cells #[v5] 67) ∧ w4.ownsRow w.heap.size 79 2 v5 rs4.length (Ytechdnkkchhaaaa.flatR rs4)) := by obtain ⟨_, v, h⟩ := hR5.out; exact ⟨v, h⟩
            obtain ⟨A5, cap5, rfl⟩ := slice_of HV5.out.2
            go_wp2_with (first
              | (go_at_call 38; (with_reducible refine (HALL.out).mono ?_); rintro r w6 hA; (obtain ⟨A6, cap6, ls, rfl, hM6, hs6, hm6, hb6, hz6⟩ := hA)
                 (have Hls := Lib.hid (all_same hS5.out hs6 hm6)); (have hlen : ls.length = rs4.length := by rw [Hls.out, List.length_map])
                 (have hne : ((ls.length : Int) != (rs4.length : Int)) = false := by rw [hlen]; simp)
                 (have Hlen := Lib.hid hlen)
                 (have hc6 : w6.cell? ⟨w.heap.size + 1, 0, none⟩ = some (.slice A5 rs4.length cap5) := lies_cell (lies_below HV5.out.1 hb6 (lies_lt HV5.out.1)) 0)
                 (have HB6 := Lib.hid (HB4.out.trans (hb6.mono HB4.out.size))); (have hM6 := Lib.hid hM6); (have hb6 := Lib.hid hb6); clear hs6 hm6 hlen HALL))
            go_loopw [16] (fun v wi => ∃ i : Nat, i ≤ ls.length ∧ v = .int .i64 i ∧ Below w6.heap.size w6 wi) (fun v _ => ls.length - (intOf v).toNat)
            case atStart => exact ⟨0, Nat.zero_le _, rfl, Below.refl _ _⟩
            case round =>
              obtain ⟨i, hi, rfl, hbi⟩ := hrel
              rename World => wi
              by_cases hil : i < ls.length
              · obtain ⟨ga, rfl, hga, m0, m1, m2, m3, m4, m5⟩ := mac_at hM6.out i hil
                have hi2 : i < rs4.length := by rw [← Hlen.out]; exact hil
                obtain ⟨gr, rfl, hgr, r0, r1⟩ := row_at HV5.out.2 i hi2
                obtain ⟨x, Hx⟩ : ∃ x, Hid (x = ls[i]) := ⟨ls[i], rfl⟩
                have Hx2 : Hid (rs4[i].1 = x) := by show _ = _; rw [Hx.out]; simp [Hls.out]
                rw [← Hx.out] at m0 m1 m2 m3 m4 m5
                rw [Hx2.out] at r0
                obtain ⟨xa, xb, xc, xd, xe, xf⟩ := x
                dsimp only at m0 m1 m2 m3 m4 m5
                obtain ⟨U, HU⟩ : ∃ U, Hid (U = M6.txt ⟨xa, xb, xc, xd, xe, xf⟩) := ⟨_, rfl⟩
                rw [← HU.out] at r0
                have H23b : Hid (∀ w, Calls Try.prog 23 #[.agg #[.int .u8 xa.toNat, .int .u8 xb.toNat, .int .u8 xc.toNat, .int .u8 xd.toNat, .int .u8 xe.toNat, .int .u8 xf.toNat]] w fun r w' => r = .returned (.string U) ∧ Below w.heap.size w w') := by
                  show ∀ w, _
                  rw [HU.out]; exact fun w => text_any xa xb xc xd xe xf w
                have hrl6 : w.heap.size + 1 < w6.heap.size := Nat.lt_of_lt_of_le (lies_lt HV5.out.1) hb6.out.size
                have hgr6 : gr < w6.heap.size := Nat.lt_of_lt_of_le hgr hb6.out.size
                have HC : Hid (∀ w2, Below w6.heap.size w6 w2 → w2.cell? ⟨ga, i * 6, none⟩ = some (.int .u8 xa.toNat) ∧ w2.cell? ⟨ga, i * 6 + 1, none⟩ = some (.int .u8 xb.toNat) ∧ w2.cell? ⟨ga, i * 6 + 2, none⟩ = some (.int .u8 xc.toNat) ∧ w2.cell? ⟨ga, i * 6 + 3, none⟩ = some (.int .u8 xd.toNat) ∧ w2.cell? ⟨ga, i * 6 + 4, none⟩ = some (.int .u8 xe.toNat) ∧ w2.cell? ⟨ga, i * 6 + 5, none⟩ = some (.int .u8 xf.toNat) ∧ w2.cell? ⟨w.heap.size + 1, 0, none⟩ = some (.slice (some ⟨gr, 0, none⟩) rs4.length cap5) ∧ w2.cell? ⟨gr, i * 2, none⟩ = some (.string U)) := fun w2 h => ⟨(h.cell (p := ⟨ga, _, none⟩) hga).trans m0, (h.cell (p := ⟨ga, _, none⟩) hga).trans m1, (h.cell (p := ⟨ga, _, none⟩) hga).trans m2, (h.cell (p := ⟨ga, _, none⟩) hga).trans m3, (h.cell (p := ⟨ga, _, none⟩) hga).trans m4, (h.cell (p := ⟨ga, _, none⟩) hga).trans m5, (h.cell (p := ⟨w.heap.size + 1, 0, none⟩) hrl6).trans hc6, (h.cell (p := ⟨gr, _, none⟩) hgr6).trans ((hb6.out.cell (p := ⟨gr, _, none⟩) hgr).trans r0)⟩
                clear m0 m1 m2 m3 m4 m5 r0 r1 hc6
                obtain ⟨m0, m1, m2, m3, m4, m5, m6, m7⟩ := HC.out wi hbi
                have hUU : (U.toList == U.toList) = true := by simp
                go_upto_region 26 with (fail)
                go_region_held3 (fun w2 => w2.cell? ⟨ga, i * 6, none⟩ = some (.int .u8 xa.toNat) ∧ w2.cell? ⟨ga, i * 6 + 1, none⟩ = some (.int .u8 xb.toNat) ∧ w2.cell? ⟨ga, i * 6 + 2, none⟩ = some (.int .u8 xc.toNat) ∧ w2.cell? ⟨ga, i * 6 + 3, none⟩ = some (.int .u8 xd.toNat) ∧ w2.cell? ⟨ga, i * 6 + 4, none⟩ = some (.int .u8 xe.toNat) ∧ w2.cell? ⟨ga, i * 6 + 5, none⟩ = some (.int .u8 xf.toNat) ∧ w2.cell? ⟨w.heap.size + 1, 0, none⟩ = some (.slice (some ⟨gr, 0, none⟩) rs4.length cap5) ∧ w2.cell? ⟨gr, i * 2, none⟩ = some (.string U)) (exact ⟨by assumption, by assumption, by assumption, by assumption, by assumption, by assumption, by assumption, by assumption⟩) (first
                  | (go_at_call 23; (with_reducible refine (H23b.out _).mono ?_); rintro r w7 ⟨rfl, hb7⟩
                     (have hb7 : Below w6.heap.size w6 w7 := hbi.drew.trans (hb7.mono hbi.size)); (obtain ⟨m0, m1, m2, m3, m4, m5, m6, m7⟩ := HC.out w7 hb7)))
                all_goals
                  go_wp2
                  go_roundw
                  case rel => exact ⟨i + 1, by omega, by go_num, hb7⟩
                  case measure => simp [intOf]; omega
              · go_wp2
                go_roundw
                case rel => exact ⟨k + 1, g4, rs4, by omega, by go_num, (hB5.out.kept hb6.out).kept (hbi.mono (Nat.le_refl _)), (hR5.out.below hb6.out).below hbi, hS5, hl5, HB6.out.trans (hbi.mono HB6.out.size)⟩
                case measure => simp [intOf]; omega
    · have hlt2 : ¬ ((k : Int) < (l.length : Int)) ∨ ((k : Int) < (l.length : Int) ∧ ¬ ((k : Int) < 100)) := by omega
      clear hlt
      rcases hlt2 with h1 | ⟨h1, h2⟩
      all_goals
        go_wp2_with (first
          | (go_at_call 20; (with_reducible refine (awake_any _).mono ?_); rintro r w7 ⟨rfl, hb7⟩; (have HBw := hb.trans (hb7.mono hb.size)); clear hb7))
        go_returns
        exact ⟨rfl, HBw⟩


set_option maxRecDepth 100000 in
theorem addrBooks_lifted (os : Os) (started : os.Started) (H : Type) (enc : TypeId × Value → H) :
    ReturnsInHanded {} Try.checked os 6 .any (Rows.addrBooksSpec.pre6 enc Try.prog Try.f6 Rows.addrBooksRow.domain false) (Rows.addrBooksSpec.post enc Try.prog Try.f6 false true false false) := by
  refine returnsInHanded_of_change (C := Try.checked) addrBooks_own started (by kernel_rfl) Try.func6
    (ChangeSpec.witness6 (enc := enc) (C := Try.checked) false ⟨#[], #[.slice none 0 0], []⟩ 8 (by kernel_rfl) (by kernel_rfl) (by kernel_rfl) (by kernel_rfl)) ?_
  intro W base args ds gs before hval0 hW hcnd _
  have hval : ∀ (j : Nat) t v, Try.f6.params[j]? = some t → args[j]? = some v → Value.okWide Try.prog W .any base t v := hval0
  have hW' := hW
  obtain ⟨p, q, hA0, hV, rfl, hfz, hnd⟩ := hW
  have hA : DataW.TrodAll enc Try.prog W 0 (fun _ => true) true Try.f6.params.toList args.toList ds p := hA0
  rw [Try.params6] at hA hval
  obtain ⟨v0, vs0, d0, ds0, p0, q0, hargs, rfl, rfl, h0, r0⟩ := trodAll_cons hA
  obtain ⟨rfl, rfl, rfl⟩ := trodAll_nil r0
  obtain rfl : args = #[v0] := by cases args; simp_all
  obtain ⟨rfl, rfl⟩ := trodVars_none hV
  obtain ⟨c0, len0, cap0, rfl⟩ := okWide_slice Try.underlying59 (hval 0 59 v0 rfl rfl)
  have k0 := h0
  have lt0 : ∀ x ∈ p0, x.block < W.heap.size := by obtain ⟨m, hm⟩ := k0; exact DataW.trod_lt m _ _ _ hm
  obtain ⟨fu0, hf0⟩ := h0
  obtain ⟨Ad0, cap0, l0, e0, hi0, hl0⟩ := ops_open (v := .slice c0 len0 cap0) (by simpa [Value.cells] using hf0)
  clear hA0 hval0
  have hwalk := addrBooks_walk Ad0 cap0 l0 hi0 hl0 W rfl
  rw [← e0] at hwalk
  refine hwalk.mono fun e W' ⟨he, bel⟩ => ?_
  subst he
  exact ⟨_, rfl, _, _, _, [], _, [], hW', trodAll_mk1 (shut_bool Try.underlying4 _), (trodAll_cons_mk (Below.trod addrBooks_laid (by kernel_rfl) (of_decide_eq_true (by kernel_rfl)) k0 bel lt0) trodAll_mk0), rfl, bel.frame _, fun h => by cases h⟩

theorem addrBooks_over : Rows.addrBooksRow.holds Try.pinned (OpenSpec.ofChange Rows.addrBooksSpec) :=
  OpenClaim.holds_of_wide 6 Try.f6 rfl rfl rfl rfl rfl rfl rfl ⟨rfl, rfl, rfl, rfl, rfl⟩ rfl rfl rfl rfl rfl (by kernel_rfl) Try.func6 (by kernel_rfl)
    (of_decide_eq_true (by kernel_rfl)) (by unfold Func.isWrapper; first | (rw [if_pos (by decide +kernel)]; kernel_rfl) | (rw [if_neg (by decide +kernel)]; exact ⟨rfl, rfl⟩))
    (fun os started H enc _ => addrBooks_lifted os started H enc)

theorem addrBooks_holds : Rows.AddrBooksSaid := addrBooks_over
#print axioms addrBooks_holds
end Go.Proofs.Ytechdnkkchhaaaa
