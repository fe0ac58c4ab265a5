/- For every two triples of numbers the law AddrBack answers true: what has an address is told by it, and unlike ones have unlike addresses. No conditions. -/
import Derived.Test.YtechdnkkchhaaaaRows
import Derived.Test.YtechdnkkchhaaaaBk
import Derived.Test.YtechdnkkchhaaaaA3
import Derived.Deep.Cut
import Derived.BigQuiet
import Derived.WalkKit
import Derived.ProofKit
import Derived.OpenShut
import Derived.ShutString
import Derived.ChangeOld
import Derived.Below
namespace Go.Proofs.Ytechdnkkchhaaaa
open Go.ChangeShapes Go.WideShapes Go.ChangeAt Go.RowKit
open Go.ChangeMaps (open_string shut_string)
set_option linter.unusedVariables false

theorem addrBack_own : ownKnob Try.prog.godebug = none := by kernel_rfl
theorem addrBack_laid : laidOutB Try.prog = true := by kernel_rfl

set_option maxRecDepth 100000
section
open Go.Proofs.PitotAddr
theorem bstep' {w w1 w2 : World} (h : Below w.heap.size w w1) (g : Below w1.heap.size w1 w2) : Below w.heap.size w w2 := h.trans (g.mono h.size)
theorem three {w : World} {g : Nat} {t : TypeId} {x0 x1 x2 : Value} (h : w.heap[g]? = some (.cells #[x0, x1, x2] t)) :
    (w.cell? ⟨g, 0, none⟩ = some x0) ∧ (w.cell? ⟨g, 1, none⟩ = some x1) ∧ (w.cell? ⟨g, 2, none⟩ = some x2) :=
  ⟨lies_cell h 0, lies_cell h 1, lies_cell h 2⟩

/-- The two arguments still lie where they were boxed. -/
def Kept (w wc : World) (a0 a1 a2 b0 b1 b2 : Int) : Prop :=
  wc.heap[w.heap.size]? = some (.cells #[.int .i64 a0, .int .i64 a1, .int .i64 a2] 81) ∧ wc.heap[w.heap.size + 1]? = some (.cells #[.int .i64 b0, .int .i64 b1, .int .i64 b2] 81) ∧ Below w.heap.size w wc
theorem Kept.step {w w1 w2 : World} {a0 a1 a2 b0 b1 b2 : Int} (h : Kept w w1 a0 a1 a2 b0 b1 b2) (hb : Below w1.heap.size w1 w2) : Kept w w2 a0 a1 a2 b0 b1 b2 :=
  ⟨lies_below h.1 hb (lies_lt h.1), lies_below h.2.1 hb (lies_lt h.2.1), bstep' h.2.2 hb⟩
theorem Kept.alloc {w w1 : World} {a0 a1 a2 b0 b1 b2 : Int} (h : Kept w w1 a0 a1 a2 b0 b1 b2) (o : Obj) : Kept w (w1.alloc o) a0 a1 a2 b0 b1 b2 :=
  ⟨lies_alloc h.1 o, lies_alloc h.2.1 o, below_new h.2.2 o⟩

theorem Kept.drewN {w w1 : World} {a0 a1 a2 b0 b1 b2 : Int} (h : Kept w w1 a0 a1 a2 b0 b1 b2) (n : Nat) : Kept w (w1.drewN n) a0 a1 a2 b0 b1 b2 :=
  ⟨h.1, h.2.1, below_drewN h.2.2 n⟩

set_option maxHeartbeats 4000000 in
theorem addrBack_walk (a0 a1 a2 b0 b1 b2 : Int) (w : World) :
    Calls Try.prog 7 #[.agg #[.int .i64 a0, .int .i64 a1, .int .i64 a2], .agg #[.int .i64 b0, .int .i64 b1, .int .i64 b2]] w fun e w' => e = .returned (.bool true) ∧ Below w.heap.size w w' := by
  obtain ⟨⟨m0, m1, m2, m3, m4, m5⟩, k, h10, hk⟩ := link_back a0
  obtain ⟨⟨n0, n1, n2, n3, n4, n5⟩, k', h10', hk'⟩ := link_back b0
  have H10 := Lib.hid h10; clear h10
  have H10b := Lib.hid h10'; clear h10'
  have HK := Lib.hid hk; clear hk
  have HKb := Lib.hid hk'; clear hk'
  have K0 : Kept w ((w.alloc (.cells #[.int .i64 a0, .int .i64 a1, .int .i64 a2] 81)).alloc (.cells #[.int .i64 b0, .int .i64 b1, .int .i64 b2] 81)) a0 a1 a2 b0 b1 b2 :=
    ⟨lies_alloc (heap_alloc_new w _) _, by have := heap_alloc_new (w.alloc (.cells #[.int .i64 a0, .int .i64 a1, .int .i64 a2] 81)) (.cells #[.int .i64 b0, .int .i64 b1, .int .i64 b2] 81); rwa [show (w.alloc (.cells #[.int .i64 a0, .int .i64 a1, .int .i64 a2] 81)).heap.size = w.heap.size + 1 by simp] at this, below_new (below_new (Below.refl _ _) _) _⟩
  have K0 := Lib.hid K0
  go_enter Try.func7, Try.ntmps7
  go_upto_if 42 with (first
    | (go_at_call 10; (with_reducible refine (H10.out _).mono ?_); rintro e w1 ⟨rfl, hb1⟩
       (have KX := Lib.hid (((K0.out).step hb1).alloc (.cells #[.int .u8 m0.toNat, .int .u8 m1.toNat, .int .u8 m2.toNat, .int .u8 m3.toNat, .int .u8 m4.toNat, .int .u8 m5.toNat] 23)))
       (obtain ⟨x0, x1, x2⟩ := three KX.out.2.1)
       (have LM := Lib.hid (heap_alloc_new w1 (.cells #[.int .u8 m0.toNat, .int .u8 m1.toNat, .int .u8 m2.toNat, .int .u8 m3.toNat, .int .u8 m4.toNat, .int .u8 m5.toNat] 23))); clear hb1)
    | (go_at_call 10; (with_reducible refine (H10b.out _).mono ?_); rintro e w2 ⟨rfl, hb2⟩
       (have KY := Lib.hid (((KX.out).step hb2).alloc (.cells #[.int .u8 n0.toNat, .int .u8 n1.toNat, .int .u8 n2.toNat, .int .u8 n3.toNat, .int .u8 n4.toNat, .int .u8 n5.toNat] 23)))
       (have LM := Lib.hid (lies_alloc (lies_below LM.out hb2 (lies_lt LM.out)) (.cells #[.int .u8 n0.toNat, .int .u8 n1.toNat, .int .u8 n2.toNat, .int .u8 n3.toNat, .int .u8 n4.toNat, .int .u8 n5.toNat] 23)))
       (have LN := Lib.hid (heap_alloc_new w2 (.cells #[.int .u8 n0.toNat, .int .u8 n1.toNat, .int .u8 n2.toNat, .int .u8 n3.toNat, .int .u8 n4.toNat, .int .u8 n5.toNat] 23))); clear hb2))
  go_cut [] from 5 (fun wc => Kept w wc a0 a1 a2 b0 b1 b2)
  case first =>
    rcases HK.out with hk | ⟨rfl, ⟨n, rfl, hn1, hn2, hm⟩, h21, h24⟩
    · have hkb : (k == 0) = false := by simp [hk]
      go_wp2
      go_meet
      case rel => exact KY.out
    · have H21 := Lib.hid h21; clear h21
      have H24 := Lib.hid h24; clear h24
      have Hm := Lib.hid hm; clear hm
      obtain ⟨j0, j1, j2, j3, j4, j5⟩ := six LM.out
      have last : Hid (k' ≠ 0 ∨ k' = 0 ∧ ∃ E : Bool, Hid (E = ((n : Int) == b0)) ∧ ∀ w, (Go.Op.equalIn 10000 23 (mac m0 m1 m2 m3 m4 m5) (mac n0 n1 n2 n3 n4 n5)).run Try.prog w = .ok E w) := by
        rcases HKb.out with hk' | ⟨rfl, ⟨n', rfl, hn1', hn2', hm'⟩, _, _⟩
        · exact .inl hk'
        · refine .inr ⟨rfl, _, rfl, fun w => ?_⟩
          have e1 := Hm.out
          simp only [M6.mk.injEq] at e1 hm'
          obtain ⟨rfl, rfl, rfl, rfl, rfl, rfl⟩ := e1
          obtain ⟨rfl, rfl, rfl, rfl, rfl, rfl⟩ := hm'
          exact link_eq hn2 hn2' w
      rcases last.out with hk' | ⟨rfl, E, HE, heq⟩
      · have hkb : (k' == 0) = false := by simp [hk']
        clear last
        go_wp2_with (first
          | (go_at_call 21; (with_reducible refine (H21.out _).mono ?_); rintro e w3 ⟨rfl, hb3⟩
             (have KZ := Lib.hid ((KY.out).step hb3)); (have LM := Lib.hid (lies_below LM.out hb3 (lies_lt LM.out))); (obtain ⟨j0, j1, j2, j3, j4, j5⟩ := six LM.out); clear hb3)
          | (go_at_call 24; (with_reducible refine (H24.out _).mono ?_); rintro e w4 ⟨he, hb4⟩; (obtain rfl := he.out)
             (have KZ := Lib.hid (((KZ.out).step hb4).alloc (.cells #[.int .i64 0, .int .i64 0] 32))); (obtain ⟨y0, y1, y2⟩ := three KZ.out.1); clear hb4 he))
        go_quiet (fail)
        go_wp2
        go_meet
        case rel => exact (KZ.out).drewN _
      · clear last
        go_wp2_with (first
          | (go_at_call 21; (with_reducible refine (H21.out _).mono ?_); rintro e w3 ⟨rfl, hb3⟩
             (have KZ := Lib.hid ((KY.out).step hb3)); (have LM := Lib.hid (lies_below LM.out hb3 (lies_lt LM.out))); (have LN := Lib.hid (lies_below LN.out hb3 (lies_lt LN.out))); (obtain ⟨j0, j1, j2, j3, j4, j5⟩ := six LM.out); clear hb3)
          | (go_at_call 24; (with_reducible refine (H24.out _).mono ?_); rintro e w4 ⟨he, hb4⟩; (obtain rfl := he.out)
             (have KZ := Lib.hid (((KZ.out).step hb4).alloc (.cells #[.int .i64 0, .int .i64 0] 32))); (obtain ⟨y0, y1, y2⟩ := three KZ.out.1); (obtain ⟨z0, z1, z2⟩ := three KZ.out.2.1)
             (obtain ⟨c0, c1, c2, c3, c4, c5⟩ := six (lies_alloc (lies_below LM.out hb4 (lies_lt LM.out)) (.cells #[.int .i64 0, .int .i64 0] 32)))
             (obtain ⟨d0, d1, d2, d3, d4, d5⟩ := six (lies_alloc (lies_below LN.out hb4 (lies_lt LN.out)) (.cells #[.int .i64 0, .int .i64 0] 32)))
             clear hb4 he))
        have hE : ((n : Int) == b0) = E := HE.out.symm
        cases E
        all_goals
          go_quiet (fail)
          go_wp2
          go_meet
          case rel => exact (KZ.out).drewN _
  case rest =>
    clear LM LN KX KY K0 x0 x1 x2
    have K0 := Lib.hid hcut; clear hcut
    obtain ⟨x0, x1, x2⟩ := three K0.out.1
    obtain ⟨⟨s0, s1, s2, s3, s4, s5⟩, l, h13, hl⟩ := source_back a1 a2
    obtain ⟨⟨t0, t1, t2, t3, t4, t5⟩, l', h13', hl'⟩ := source_back b1 b2
    have H13 := Lib.hid h13; clear h13
    have H13b := Lib.hid h13'; clear h13'
    have HL := Lib.hid hl; clear hl
    have HLb := Lib.hid hl'; clear hl'
    go_upto_if 99 with (first
      | (go_at_call 13; (with_reducible refine (H13.out _).mono ?_); rintro e w5 ⟨rfl, hb1⟩
         (have KX := Lib.hid (((K0.out).step hb1).alloc (.cells #[.int .u8 s0.toNat, .int .u8 s1.toNat, .int .u8 s2.toNat, .int .u8 s3.toNat, .int .u8 s4.toNat, .int .u8 s5.toNat] 23)))
         (obtain ⟨y0, y1, y2⟩ := three KX.out.2.1)
         (have LM := Lib.hid (heap_alloc_new w5 (.cells #[.int .u8 s0.toNat, .int .u8 s1.toNat, .int .u8 s2.toNat, .int .u8 s3.toNat, .int .u8 s4.toNat, .int .u8 s5.toNat] 23))); clear hb1)
      | (go_at_call 13; (with_reducible refine (H13b.out _).mono ?_); rintro e w6 ⟨rfl, hb2⟩
         (have KY := Lib.hid (((KX.out).step hb2).alloc (.cells #[.int .u8 t0.toNat, .int .u8 t1.toNat, .int .u8 t2.toNat, .int .u8 t3.toNat, .int .u8 t4.toNat, .int .u8 t5.toNat] 23)))
         (have LM := Lib.hid (lies_alloc (lies_below LM.out hb2 (lies_lt LM.out)) (.cells #[.int .u8 t0.toNat, .int .u8 t1.toNat, .int .u8 t2.toNat, .int .u8 t3.toNat, .int .u8 t4.toNat, .int .u8 t5.toNat] 23)))
         (have LN := Lib.hid (heap_alloc_new w6 (.cells #[.int .u8 t0.toNat, .int .u8 t1.toNat, .int .u8 t2.toNat, .int .u8 t3.toNat, .int .u8 t4.toNat, .int .u8 t5.toNat] 23))); clear hb2))
    go_cut [] from 5 (fun wc => Kept w wc a0 a1 a2 b0 b1 b2)
    case first =>
      rcases HL.out with hk | ⟨rfl, ⟨n, q, rfl, rfl, hn1, hn2, hm⟩, h24, h21⟩
      · have hkb : (l == 0) = false := by simp [hk]
        go_wp2
        go_meet
        case rel => exact KY.out
      · have H21 := Lib.hid h21; clear h21
        have H24 := Lib.hid h24; clear h24
        have Hm := Lib.hid hm; clear hm
        obtain ⟨j0, j1, j2, j3, j4, j5⟩ := six LM.out
        have last : Hid (l' ≠ 0 ∨ l' = 0 ∧ ∃ E : Bool, Hid (E = ((n : Int) == b1 && (q : Int) == b2)) ∧ ∀ w, (Go.Op.equalIn 10000 23 (mac s0 s1 s2 s3 s4 s5) (mac t0 t1 t2 t3 t4 t5)).run Try.prog w = .ok E w) := by
          rcases HLb.out with hk' | ⟨rfl, ⟨n', q', rfl, rfl, hn1', hn2', hm'⟩, _, _⟩
          · exact .inl hk'
          · refine .inr ⟨rfl, _, rfl, fun w => ?_⟩
            have e1 := Hm.out
            simp only [M6.mk.injEq] at e1 hm'
            obtain ⟨rfl, rfl, rfl, rfl, rfl, rfl⟩ := e1
            obtain ⟨rfl, rfl, rfl, rfl, rfl, rfl⟩ := hm'
            exact source_eq hn1 hn1' hn2 hn2' w
        rcases last.out with hk' | ⟨rfl, E, HE, heq⟩
        · have hkb : (l' == 0) = false := by simp [hk']
          clear last
          go_wp2_with (first
            | (go_at_call 24; (with_reducible refine (H24.out _).mono ?_); rintro e w7 ⟨he, hb3⟩; (obtain rfl := he.out)
               (have KZ := Lib.hid (((KY.out).step hb3).alloc (.cells #[.int .i64 n, .int .i64 q] 32))); (have LM := Lib.hid (lies_below LM.out hb3 (lies_lt LM.out))); (have LM := Lib.hid (lies_alloc LM.out (.cells #[.int .i64 n, .int .i64 q] 32))); (obtain ⟨j0, j1, j2, j3, j4, j5⟩ := six LM.out)
               (have LE := Lib.hid (heap_alloc_new w7 (.cells #[.int .i64 n, .int .i64 q] 32))); clear hb3 he)
            | (go_at_call 21; (with_reducible refine (H21.out _).mono ?_); rintro e w8 ⟨rfl, hb4⟩
               (have KZ := Lib.hid ((KZ.out).step hb4)); (obtain ⟨y0, y1, y2⟩ := three KZ.out.1); (obtain ⟨e0, e1⟩ := two (lies_below LE.out hb4 (lies_lt LE.out))); clear hb4))
          go_quiet (fail)
          go_wp2
          go_meet
          case rel => exact (KZ.out).drewN _
        · clear last
          go_wp2_with (first
            | (go_at_call 24; (with_reducible refine (H24.out _).mono ?_); rintro e w7 ⟨he, hb3⟩; (obtain rfl := he.out)
               (have KZ := Lib.hid (((KY.out).step hb3).alloc (.cells #[.int .i64 n, .int .i64 q] 32))); (have LM := Lib.hid (lies_below LM.out hb3 (lies_lt LM.out))); (have LN := Lib.hid (lies_below LN.out hb3 (lies_lt LN.out))); (have LM := Lib.hid (lies_alloc LM.out (.cells #[.int .i64 n, .int .i64 q] 32))); (have LN := Lib.hid (lies_alloc LN.out (.cells #[.int .i64 n, .int .i64 q] 32))); (obtain ⟨j0, j1, j2, j3, j4, j5⟩ := six LM.out)
               (have LE := Lib.hid (heap_alloc_new w7 (.cells #[.int .i64 n, .int .i64 q] 32))); clear hb3 he)
            | (go_at_call 21; (with_reducible refine (H21.out _).mono ?_); rintro e w8 ⟨rfl, hb4⟩
               (have KZ := Lib.hid ((KZ.out).step hb4)); (obtain ⟨y0, y1, y2⟩ := three KZ.out.1); (obtain ⟨z0, z1, z2⟩ := three KZ.out.2.1); (obtain ⟨e0, e1⟩ := two (lies_below LE.out hb4 (lies_lt LE.out)))
               (obtain ⟨c0, c1, c2, c3, c4, c5⟩ := six (lies_below LM.out hb4 (lies_lt LM.out)))
               (obtain ⟨d0, d1, d2, d3, d4, d5⟩ := six (lies_below LN.out hb4 (lies_lt LN.out)))
               clear hb4))
          obtain ⟨E1, HE1⟩ : ∃ E1 : Bool, Hid (E1 = ((n : Int) == b1)) := ⟨_, rfl⟩
          obtain ⟨E2, HE2⟩ : ∃ E2 : Bool, Hid (E2 = ((q : Int) == b2)) := ⟨_, rfl⟩
          have hE1 : ((n : Int) == b1) = E1 := HE1.out.symm
          have hE2 : ((q : Int) == b2) = E2 := HE2.out.symm
          have hE : E = (E1 && E2) := by rw [HE.out, hE1, hE2]
          clear HE
          cases E1 <;> cases E2
          all_goals
            subst hE
            go_quiet (fail)
            go_wp2
            go_meet
            case rel => exact (KZ.out).drewN _
    case rest =>
      clear LM LN KX KY K0 x0 x1 x2
      have K0 := Lib.hid hcut; clear hcut
      obtain ⟨x0, x1, x2⟩ := three K0.out.1
      obtain ⟨p0, p1, p2, p3, l3, h15, hp⟩ := part_back a1 a2
      obtain ⟨q0, q1, q2, q3, l4, h17, hq⟩ := group_back a0
      have H15 := Lib.hid h15; clear h15
      have H17 := Lib.hid h17; clear h17
      rcases hp with hp | ⟨rfl, h26⟩
      · have hpb : (l3 == 0) = false := by simp [hp]
        rcases hq with hq | ⟨rfl, h26b⟩
        · have hqb : (l4 == 0) = false := by simp [hq]
          go_wp2_with (first
            | (go_at_call 15; (with_reducible refine (H15.out _).mono ?_); rintro e w9 ⟨rfl, hb1⟩
               (have KX := Lib.hid (((K0.out).step hb1).alloc (.cells #[.int .u8 p0.toNat, .int .u8 p1.toNat, .int .u8 p2.toNat, .int .u8 p3.toNat] 35))); (obtain ⟨y0, y1, y2⟩ := three KX.out.1); clear hb1)
            | (go_at_call 17; (with_reducible refine (H17.out _).mono ?_); rintro e w10 ⟨rfl, hb1⟩
               (have KY := Lib.hid (((KX.out).step hb1).alloc (.cells #[.int .u8 q0.toNat, .int .u8 q1.toNat, .int .u8 q2.toNat, .int .u8 q3.toNat] 35))); clear hb1)
            | (go_at_call 20; (with_reducible refine (awake_any _).mono ?_); rintro e w11 ⟨rfl, hb1⟩
               (have KZ := Lib.hid ((KY.out).step hb1)); clear hb1))
          go_returns
          exact ⟨rfl, KZ.out.2.2⟩
        · have H26b := Lib.hid h26b; clear h26b
          go_wp2_with (first
            | (go_at_call 15; (with_reducible refine (H15.out _).mono ?_); rintro e w9 ⟨rfl, hb1⟩
               (have KX := Lib.hid (((K0.out).step hb1).alloc (.cells #[.int .u8 p0.toNat, .int .u8 p1.toNat, .int .u8 p2.toNat, .int .u8 p3.toNat] 35))); (obtain ⟨y0, y1, y2⟩ := three KX.out.1); clear hb1)
            | (go_at_call 17; (with_reducible refine (H17.out _).mono ?_); rintro e w10 ⟨rfl, hb1⟩
               (have KY := Lib.hid (((KX.out).step hb1).alloc (.cells #[.int .u8 q0.toNat, .int .u8 q1.toNat, .int .u8 q2.toNat, .int .u8 q3.toNat] 35))); clear hb1)
            | (go_at_call 26; (with_reducible refine (H26b.out _).mono ?_); rintro e w12 ⟨he, hb1⟩; (obtain rfl := he.out)
               (have KY := Lib.hid ((KY.out).step hb1)); (obtain ⟨z0, z1, z2⟩ := three KY.out.1); clear hb1 he)
            | (go_at_call 20; (with_reducible refine (awake_any _).mono ?_); rintro e w11 ⟨rfl, hb1⟩
               (have KZ := Lib.hid ((KY.out).step hb1)); clear hb1))
          go_returns
          exact ⟨rfl, KZ.out.2.2⟩
      · have H26 := Lib.hid h26; clear h26
        rcases hq with hq | ⟨rfl, h26b⟩
        · have hqb : (l4 == 0) = false := by simp [hq]
          go_wp2_with (first
            | (go_at_call 15; (with_reducible refine (H15.out _).mono ?_); rintro e w9 ⟨rfl, hb1⟩
               (have KX := Lib.hid (((K0.out).step hb1).alloc (.cells #[.int .u8 p0.toNat, .int .u8 p1.toNat, .int .u8 p2.toNat, .int .u8 p3.toNat] 35))); clear hb1)
            | (go_at_call 26; (with_reducible refine (H26.out _).mono ?_); rintro e w12 ⟨he, hb1⟩; (obtain rfl := he.out)
               (have KX := Lib.hid ((KX.out).step hb1)); (obtain ⟨y0, y1, y2⟩ := three KX.out.1); clear hb1 he)
            | (go_at_call 17; (with_reducible refine (H17.out _).mono ?_); rintro e w10 ⟨rfl, hb1⟩
               (have KY := Lib.hid (((KX.out).step hb1).alloc (.cells #[.int .u8 q0.toNat, .int .u8 q1.toNat, .int .u8 q2.toNat, .int .u8 q3.toNat] 35))); clear hb1)
            | (go_at_call 20; (with_reducible refine (awake_any _).mono ?_); rintro e w11 ⟨rfl, hb1⟩
               (have KZ := Lib.hid ((KY.out).step hb1)); clear hb1))
          go_returns
          exact ⟨rfl, KZ.out.2.2⟩
        · have H26b := Lib.hid h26b; clear h26b
          go_wp2_with (first
            | (go_at_call 15; (with_reducible refine (H15.out _).mono ?_); rintro e w9 ⟨rfl, hb1⟩
               (have KX := Lib.hid (((K0.out).step hb1).alloc (.cells #[.int .u8 p0.toNat, .int .u8 p1.toNat, .int .u8 p2.toNat, .int .u8 p3.toNat] 35))); clear hb1)
            | (go_at_call 26; (with_reducible refine (H26.out _).mono ?_); rintro e w12 ⟨he, hb1⟩; (obtain rfl := he.out)
               (have KX := Lib.hid ((KX.out).step hb1)); (obtain ⟨y0, y1, y2⟩ := three KX.out.1); clear hb1 he)
            | (go_at_call 17; (with_reducible refine (H17.out _).mono ?_); rintro e w10 ⟨rfl, hb1⟩
               (have KY := Lib.hid (((KX.out).step hb1).alloc (.cells #[.int .u8 q0.toNat, .int .u8 q1.toNat, .int .u8 q2.toNat, .int .u8 q3.toNat] 35))); clear hb1)
            | (go_at_call 26; (with_reducible refine (H26b.out _).mono ?_); rintro e w13 ⟨he, hb1⟩; (obtain rfl := he.out)
               (have KY := Lib.hid ((KY.out).step hb1)); (obtain ⟨z0, z1, z2⟩ := three KY.out.1); clear hb1 he)
            | (go_at_call 20; (with_reducible refine (awake_any _).mono ?_); rintro e w11 ⟨rfl, hb1⟩
               (have KZ := Lib.hid ((KY.out).step hb1)); clear hb1))
          go_returns
          exact ⟨rfl, KZ.out.2.2⟩
end

set_option maxRecDepth 100000 in
theorem addrBack_lifted (os : Os) (started : os.Started) (H : Type) (enc : TypeId × Value → H) :
    ReturnsInHanded {} Try.checked os 7 .any (Rows.addrBackSpec.pre6 enc Try.prog Try.f7 Rows.addrBackRow.domain false) (Rows.addrBackSpec.post enc Try.prog Try.f7 false true false false) := by
  refine returnsInHanded_of_change (C := Try.checked) addrBack_own started (by kernel_rfl) Try.func7
    (ChangeSpec.witness6 (enc := enc) (C := Try.checked) false ⟨#[], #[.agg #[.int .i64 0, .int .i64 0, .int .i64 0], .agg #[.int .i64 0, .int .i64 0, .int .i64 0]], []⟩ 8 (by kernel_rfl) (by kernel_rfl) (by kernel_rfl) (by kernel_rfl)) ?_
  intro W base args ds gs before hval0 hW hcnd _
  have hval : ∀ (j : Nat) t v, Try.f7.params[j]? = some t → args[j]? = some v → Value.okWide Try.prog W .any base t v := hval0
  have hW' := hW
  obtain ⟨p, q, hA0, hV, rfl, hfz, hnd⟩ := hW
  have hA : DataW.TrodAll enc Try.prog W 0 (fun _ => true) true Try.f7.params.toList args.toList ds p := hA0
  rw [Try.params7] at hA hval
  obtain ⟨v0, vs0, d0, ds0, p0, q0, hargs, rfl, rfl, h0, r0⟩ := trodAll_cons hA
  obtain ⟨v1, vs1, d1, ds1, p1, q1, rfl, rfl, rfl, h1, r1⟩ := trodAll_cons r0
  obtain ⟨rfl, rfl, rfl⟩ := trodAll_nil r1
  obtain rfl : args = #[v0, v1] := by cases args; simp_all
  obtain ⟨rfl, rfl⟩ := trodVars_none hV
  have k0 := h0
  have lt0 : ∀ x ∈ p0, x.block < W.heap.size := by obtain ⟨m, hm⟩ := k0; exact DataW.trod_lt m _ _ _ hm
  obtain ⟨fu0, hf0⟩ := h0
  obtain ⟨a0, b0, c0, rfl⟩ := arr3_open (hval 0 81 v0 rfl rfl) hf0
  have k1 := h1
  have lt1 : ∀ x ∈ p1, x.block < W.heap.size := by obtain ⟨m, hm⟩ := k1; exact DataW.trod_lt m _ _ _ hm
  obtain ⟨fu1, hf1⟩ := h1
  obtain ⟨a1, b1, c1, rfl⟩ := arr3_open (hval 1 81 v1 rfl rfl) hf1
  clear hA0 hval0
  have hwalk := addrBack_walk a0 b0 c0 a1 b1 c1 W

  refine hwalk.mono fun e W' ⟨he, bel⟩ => ?_
  subst he
  exact ⟨_, rfl, _, _, _, [], _, [], hW', trodAll_mk1 (shut_bool Try.underlying4 _), (trodAll_cons_mk (Below.trod addrBack_laid (by kernel_rfl) (of_decide_eq_true (by kernel_rfl)) k0 bel lt0) (trodAll_cons_mk (Below.trod addrBack_laid (by kernel_rfl) (of_decide_eq_true (by kernel_rfl)) k1 bel lt1) trodAll_mk0)), rfl, bel.frame _, fun h => by cases h⟩

theorem addrBack_over : Rows.addrBackRow.holds Try.pinned (OpenSpec.ofChange Rows.addrBackSpec) :=
  OpenClaim.holds_of_wide 7 Try.f7 rfl rfl rfl rfl rfl rfl rfl ⟨rfl, rfl, rfl, rfl, rfl⟩ rfl rfl rfl rfl rfl (by kernel_rfl) Try.func7 (by kernel_rfl)
    (of_decide_eq_true (by kernel_rfl)) (by unfold Func.isWrapper; first | (rw [if_pos (by decide +kernel)]; kernel_rfl) | (rw [if_neg (by decide +kernel)]; exact ⟨rfl, rfl⟩))
    (fun os started H enc _ => addrBack_lifted os started H enc)

theorem addrBack_holds : Rows.AddrBackSaid := addrBack_over
#print axioms addrBack_holds
end Go.Proofs.Ytechdnkkchhaaaa
