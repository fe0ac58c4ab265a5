/- For every packet, size of frames and other packets the law ReasmWhole answers true: parts that come in order come out as the packet, whatever comes between. No conditions. -/
import Derived.Test.YtgdjcoodjdckkaaRows
import Derived.Test.YtgdjcoodjdckkaaM9
import Derived.WalkKit
import Derived.Deep.RegionHeld3
import Derived.StillTailTactics
import Derived.ProofKit
import Derived.OpenShut
import Derived.ShutString
import Derived.ChangeOld
import Derived.Below
namespace Go.Proofs.Ytgdjcoodjdckkaa
open Go.ChangeShapes Go.WideShapes Go.ChangeAt Go.RowKit
open Go.ChangeMaps (open_string shut_string)
set_option linter.unusedVariables false

theorem reasmWhole_own : ownKnob Try.prog.godebug = none := by kernel_rfl
theorem reasmWhole_laid : laidOutB Try.prog = true := by kernel_rfl


open Go.Proofs.PitotIp Go.Maps
open Go.Proofs.PitotReasm (Bg Tb Fine bad first next passed passE put keep)
open Go.Proofs.Ytgdjcoodjdckkaa.Bi (lies_lt lies_cell lies_frozen lies_alloc lies_set)
open Go.Proofs.PitotFrag
set_option maxRecDepth 100000 in
set_option maxHeartbeats 4000000 in
theorem whole_no (p : Pk) (Ad : Option Addr) (cap : Nat) (l : List Pk) (w : World) (x E : Int) (he : ¬ E = 0) (h20 : ∀ w, Calls Try.prog 20 #[p.val, .int .i64 x] w fun e w' => e = .returned (noParts E) ∧ Below w.heap.size w w') : Calls Try.prog 4 #[p.val, .int .i64 x, .slice Ad l.length cap] w fun e w' => e = .returned (.bool true) ∧ Below w.heap.size w w' := by
  have H20 := Lib.hid h20; clear h20
  have he0 : (E != 0) = true := by simpa using he
  have He := Lib.hid he; clear he
  have HA := Lib.hid awake_any
  have L0 : Hid ((w.alloc p.obj).heap[w.heap.size]? = some p.obj) := heap_alloc_new w _
  have K0 : Hid (Below w.heap.size w (w.alloc p.obj)) := (Below.refl _ w).alloc (Nat.le_refl _) _
  obtain ⟨no, Hno⟩ : ∃ n, Hid (l.length = n) := ⟨_, rfl⟩
  rw [Hno.out]
  go_enter Try.func4, Try.ntmps4
  go_wp2_with (first
    | (go_at_call 20; (with_reducible refine (H20.out _).mono ?_); rintro r w1 ⟨rfl, hb1⟩)
    | (go_at_call 11; (with_reducible refine (HA.out _).mono ?_); rintro r w2 ⟨rfl, hb2⟩))
  go_returns
  have k1 := K0.out.trans (hb1.mono K0.out.size)
  exact ⟨rfl, k1.trans (hb2.mono k1.size)⟩

set_option maxRecDepth 100000 in
set_option maxHeartbeats 4000000 in
theorem whole_big (p : Pk) (Ad : Option Addr) (cap : Nat) (l : List Pk) (w : World) (m : Nat) (h1 : 25 ≤ m) (hm : m ≤ 1479) (hmo : p.m = false) (ho : p.off = 0) (hs : p.s.size ≤ 65515) (hyp : 8200 < p.s.size) : Calls Try.prog 4 #[p.val, .int .i64 (m + 39), .slice Ad l.length cap] w fun e w' => e = .returned (.bool true) ∧ Below w.heap.size w w' := by
  have H20 := Lib.hid (fun w => split_ok p m h1 hm hmo ho hs w)
  have HA := Lib.hid awake_any
  have L0 : Hid ((w.alloc p.obj).heap[w.heap.size]? = some p.obj) := heap_alloc_new w _
  have K0 : Hid (Below w.heap.size w (w.alloc p.obj)) := (Below.refl _ w).alloc (Nat.le_refl _) _
  obtain ⟨no, Hno⟩ : ∃ n, Hid (l.length = n) := ⟨_, rfl⟩
  rw [Hno.out]
  have e1 : decide (8200 < (p.s.size : Int)) = true := decide_eq_true (by omega)
  have e1' : decide (8200 < p.s.size) = true := decide_eq_true (by omega)
  clear hyp h1 hm hmo ho hs
  go_enter Try.func4, Try.ntmps4
  go_wp2_with (first
    | (go_at_call 20; (with_reducible refine (H20.out _).mono ?_); rintro r V1 ⟨g, cap', rfl, hown, hb1⟩
       (have L1 := Lib.hid (lies_below L0.out hb1 (lies_lt L0.out)))
       (have K1 := Lib.hid (K0.out.trans (hb1.mono K0.out.size)))
       (have O1 := Lib.hid hown)
       (have x13 : V1.cell? ⟨w.heap.size, 13, none⟩ = some (.string p.s) := lies_cell L1.out 13)
       (clear hown hb1))
    | (go_at_call 11; (with_reducible refine (HA.out _).mono ?_); rintro r w2 ⟨rfl, hb2⟩))
  go_returns
  exact ⟨rfl, K1.out.trans (hb2.mono K1.out.size)⟩

set_option maxRecDepth 100000 in
set_option maxHeartbeats 4000000 in
theorem whole_many (p : Pk) (Ad : Option Addr) (cap : Nat) (l : List Pk) (w : World) (m : Nat) (h1 : 25 ≤ m) (hm : m ≤ 1479) (hmo : p.m = false) (ho : p.off = 0) (hs : p.s.size ≤ 65515) (hyp : p.s.size ≤ 8200 ∧ 20 < l.length) : Calls Try.prog 4 #[p.val, .int .i64 (m + 39), .slice Ad l.length cap] w fun e w' => e = .returned (.bool true) ∧ Below w.heap.size w w' := by
  have H20 := Lib.hid (fun w => split_ok p m h1 hm hmo ho hs w)
  have HA := Lib.hid awake_any
  have L0 : Hid ((w.alloc p.obj).heap[w.heap.size]? = some p.obj) := heap_alloc_new w _
  have K0 : Hid (Below w.heap.size w (w.alloc p.obj)) := (Below.refl _ w).alloc (Nat.le_refl _) _
  obtain ⟨no, Hno⟩ : ∃ n, Hid (l.length = n) := ⟨_, rfl⟩
  rw [Hno.out]
  have e1 : decide (8200 < (p.s.size : Int)) = false := decide_eq_false (by omega)
  have e1' : decide (8200 < p.s.size) = false := decide_eq_false (by omega)
  have e2 : decide (20 < (no : Int)) = true := decide_eq_true (by have := Hno.out; omega)
  have e2' : decide (20 < no) = true := decide_eq_true (by have := Hno.out; omega)
  clear hyp h1 hm hmo ho hs
  go_enter Try.func4, Try.ntmps4
  go_wp2_with (first
    | (go_at_call 20; (with_reducible refine (H20.out _).mono ?_); rintro r V1 ⟨g, cap', rfl, hown, hb1⟩
       (have L1 := Lib.hid (lies_below L0.out hb1 (lies_lt L0.out)))
       (have K1 := Lib.hid (K0.out.trans (hb1.mono K0.out.size)))
       (have O1 := Lib.hid hown)
       (have x13 : V1.cell? ⟨w.heap.size, 13, none⟩ = some (.string p.s) := lies_cell L1.out 13)
       (clear hown hb1))
    | (go_at_call 11; (with_reducible refine (HA.out _).mono ?_); rintro r w2 ⟨rfl, hb2⟩))
  go_returns
  exact ⟨rfl, K1.out.trans (hb2.mono K1.out.size)⟩

/-- The Put of part i. -/
theorem whole_call {base tp : Nat} {V : World} {T : Tb K UInt8} {p : Pk} (hw : p.Wf) (m : Nat) (h1 : 25 ≤ m) (hm : m ≤ 1479) (hmo : p.m = false) (ho : p.off = 0) (hs : p.s.size ≤ 8200) {C i : Nat} (hC : C = cnt p.s.size m (m / 8 * 8)) (hi : i ≤ C) (hT : TabAt base V tp ((40 : Nat) : Int) 1000000 T) (hW : Wi (p.key hw) p.d (m / 8 * 8) C i T) (hl : i < (spl p m).length) :
    ∃ (Q : Pk) (bq : Bool) (T' : Tb K UInt8), Calls Try.prog 14 #[.pointer (some ⟨tp, 0, none⟩), .int .i64 i, (spl p m)[i].val] V (fun r V' => r = .returned (.tuple #[Q.val, .bool bq, .int .i64 0]) ∧ TabAt base V' tp ((40 : Nat) : Int) 1000000 T' ∧ Fr base V V') ∧ Wj (p.key hw) p.d (m / 8 * 8) C i T' ∧ bq = decide (i = C) ∧ (i = C → Q = p) := by
  have hR : 24 ≤ m / 8 * 8 := by omega
  have h8 : m / 8 * 8 % 8 = 0 := by omega
  have hCm : C * (m / 8 * 8) ≤ p.s.size := by rw [hC]; exact cnt_mul_le (by omega) (by omega)
  have hd : p.d.length = p.s.size := p.d_length
  have hCi : C ≤ C * (m / 8 * 8) := Nat.le_mul_of_pos_right _ (by omega)
  have hdr := hW.dr
  by_cases hlt : i < C
  · obtain ⟨e1, e2⟩ := whole_part hW hlt hR h8 (by omega) (by omega)
    have hx : (spl p m)[i] = partAt p (m / 8 * 8) i := spl_part p m i (by rw [← hC]; exact hlt) hl
    have hP := put_any hT hW.good (by omega) (by omega) (by omega) (by omega) (i : Int) (partAt p (m / 8 * 8) i) ⟨hw.pr, hw.id⟩ (by rw [part_size p m i h1 (by rw [← hC]; exact hlt)]; omega)
    refine ⟨pkN, false, _, ?_, e2, (decide_eq_false (by omega)).symm, fun e => absurd e (by omega)⟩
    rw [hx]
    refine hP.mono fun r V' h => ⟨?_, h.2⟩
    rw [h.1, ans_eq]
    show Ending.returned (Value.tuple #[(ansP _ (put 40 1000000 T i (p.key hw) true ((i * (m / 8 * 8 / 8) : Nat) : Int) (piece p.d (m / 8 * 8) i)).2.1).val, .bool (put 40 1000000 T i (p.key hw) true ((i * (m / 8 * 8 / 8) : Nat) : Int) (piece p.d (m / 8 * 8) i)).2.1.isSome, .int .i64 (put 40 1000000 T i (p.key hw) true ((i * (m / 8 * 8 / 8) : Nat) : Int) (piece p.d (m / 8 * 8) i)).2.2]) = _
    rw [e1]
    rfl
  · obtain rfl : i = C := by omega
    obtain ⟨e1, e2⟩ := whole_last hW hR h8 (by omega) (by omega)
    have hx : (spl p m)[i] = restAt p (m / 8 * 8) i := by
      have e := spl_last p m (by rw [← hC]; exact hl)
      simp only [← hC] at e
      exact e
    have hP := put_any hT hW.good (by omega) (by omega) (by omega) (by omega) (i : Int) (restAt p (m / 8 * 8) i) ⟨hw.pr, hw.id⟩ (by
      have := rest_size p m h1
      rw [← hC] at this
      omega)
    rw [← hmo] at e1 e2
    refine ⟨p, true, _, ?_, e2, (decide_eq_true rfl).symm, fun _ => rfl⟩
    rw [hx]
    refine hP.mono fun r V' h => ⟨?_, h.2⟩
    rw [h.1, ans_eq]
    show Ending.returned (Value.tuple #[(ansP (restAt p (m / 8 * 8) i) (put 40 1000000 T i (p.key hw) p.m ((i * (m / 8 * 8 / 8) : Nat) : Int) (p.d.drop (i * (m / 8 * 8)))).2.1).val, .bool (put 40 1000000 T i (p.key hw) p.m ((i * (m / 8 * 8 / 8) : Nat) : Int) (p.d.drop (i * (m / 8 * 8)))).2.1.isSome, .int .i64 (put 40 1000000 T i (p.key hw) p.m ((i * (m / 8 * 8 / 8) : Nat) : Int) (p.d.drop (i * (m / 8 * 8)))).2.2]) = _
    rw [e1]
    have hq : ansP (restAt p (m / 8 * 8) i) (some p.d) = p := by
      show whole (restAt p (m / 8 * 8) i) p.d = p
      have := whole_self p ho
      exact this
    rw [hq]
    rfl

set_option maxRecDepth 100000 in
set_option maxHeartbeats 4000000 in
theorem whole_in (p : Pk) (Ad : Option Addr) (cap : Nat) (l : List Pk) (w : World) (m : Nat) (h1 : 25 ≤ m) (hm : m ≤ 1479) (hmo : p.m = false) (ho : p.off = 0) (hs : p.s.size ≤ 65515) (hs2 : p.s.size ≤ 8200) (hln : l.length ≤ 20) (hw : p.Wf) (hx : PksAt w Ad l) (hz : ∀ q ∈ l, q.s.size ≤ maxLen ∧ q.Wf) : Calls Try.prog 4 #[p.val, .int .i64 (m + 39), .slice Ad l.length cap] w fun e w' => e = .returned (.bool true) ∧ Below w.heap.size w w' := by
  have HX := Lib.hid hx; have HZ := Lib.hid hz
  clear hx hz
  have H20 := Lib.hid (fun w => split_ok p m h1 hm hmo ho hs w)
  have HA := Lib.hid awake_any
  have L0 : Hid ((w.alloc p.obj).heap[w.heap.size]? = some p.obj) := heap_alloc_new w _
  have K0 : Hid (Below w.heap.size w (w.alloc p.obj)) := (Below.refl _ w).alloc (Nat.le_refl _) _
  obtain ⟨no, Hno⟩ : ∃ n, Hid (l.length = n) := ⟨_, rfl⟩
  rw [Hno.out]
  have hno : no ≤ 20 := by rw [← Hno.out]; exact hln
  have e1 : decide (8200 < (p.s.size : Int)) = false := decide_eq_false (by omega)
  have e1' : decide (8200 < p.s.size) = false := decide_eq_false (by omega)
  have e2 : decide (20 < (no : Int)) = false := decide_eq_false (by omega)
  have e2' : decide (20 < no) = false := decide_eq_false (by omega)
  have HN : Hid (∀ w : World, Calls Try.prog 9 #[.int .i64 40, .int .i64 1000000] w fun e w' => ∃ tp, e = .returned (.tuple #[.pointer (some ⟨tp, 0, none⟩), .int .i64 0]) ∧ TabAt w.heap.size w' tp ((40 : Nat) : Int) 1000000 t0 ∧ Below w.heap.size w w') := fun w => new_ok w 40 1000000 (by omega) (by omega) (by omega) (by omega)
  obtain ⟨C, HC⟩ : ∃ C, Hid (C = cnt p.s.size m (m / 8 * 8)) := ⟨_, rfl⟩
  obtain ⟨n, Hn⟩ : ∃ n, Hid (n = cn p.s.size m) := ⟨_, rfl⟩
  have HnC : Hid (n = C + 1) := by show _ = _; rw [Hn.out, HC.out]; rfl
  rw [← Hn.out] at H20
  have hC3 : C ≤ 8200 := by
    have h3 : C * (m / 8 * 8) ≤ p.s.size := by rw [HC.out]; exact cnt_mul_le (by omega) (by omega)
    have h4 : C ≤ C * (m / 8 * 8) := Nat.le_mul_of_pos_right _ (by omega)
    omega
  have hn1 : n ≤ 8201 := by rw [HnC.out]; omega
  have hn0 : 0 < n := by rw [HnC.out]; omega
  have HCALL := Lib.hid (fun (base tp i : Nat) (V : World) (T : Tb K UInt8) (hi : i ≤ C) => whole_call (base := base) (tp := tp) (V := V) (T := T) hw m h1 hm hmo ho hs2 HC.out hi)
  have HKH := Lib.hid (And.intro h1 (And.intro hm (And.intro hmo (And.intro ho hs2))))
  clear hmo ho h1 hm
  go_enter Try.func4, Try.ntmps4
  go_upto_region 7 with (first
    | (go_at_call 20; (with_reducible refine (H20.out _).mono ?_); rintro r V1 ⟨g, cap', rfl, hown, hb1⟩
       (have L1 := Lib.hid (lies_below L0.out hb1 (lies_lt L0.out)))
       (have K1 := Lib.hid (K0.out.trans (hb1.mono K0.out.size)))
       (have O1 := Lib.hid hown)
       (have x13 : V1.cell? ⟨w.heap.size, 13, none⟩ = some (.string p.s) := lies_cell L1.out 13)
       (clear hown hb1))
    | (go_at_call 9; (with_reducible refine (HN.out _).mono ?_); rintro e V2 ⟨tp, rfl, hT, hb2⟩
       (have L2 := Lib.hid (lies_below L1.out hb2 (lies_lt L1.out)))
       (have K2 := Lib.hid (K1.out.trans (hb2.mono K1.out.size)))
       (have O2 := Lib.hid (own_below O1.out hb2))
       (have T2 := Lib.hid hT)
       (clear hT hb2 x13)))
  clear e1 e1' e2 e2' HN H20
  have HBw : Hid (w.heap.size ≤ V1.heap.size) := K1.out.size
  generalize V1.heap.size = base at T2 HBw
  generalize (w.alloc p.obj).heap.size = b0 at O2
  go_wp2
  go_loopw [11] (fun v11 wr => ∃ (i : Nat) (T : Tb K UInt8), i ≤ n ∧ v11 = .int .i64 i ∧ TabAt base wr tp ((40 : Nat) : Int) 1000000 T ∧ Wi (p.key hw) p.d (m / 8 * 8) C i T ∧ wr.heap[w.heap.size]? = some p.obj ∧ wr.ownsRow b0 34 14 (.slice (some ⟨g, 0, none⟩) n cap') n (flatP (spl p m)) ∧ Below w.heap.size w wr) (fun v11 _ => n - (intOf v11).toNat)
  case atStart => exact ⟨0, t0, Nat.zero_le _, rfl, T2.out, wi_zero _ _ _ _, L2.out, O2.out, K2.out⟩
  case round =>
    obtain ⟨i, T, hi, rfl, hT, hW, hL, hO, hb⟩ := hrel
    have hT := Lib.hid hT; have hW := Lib.hid hW; have hL := Lib.hid hL; have hO := Lib.hid hO; have hb := Lib.hid hb
    by_cases hin : i < n
    · have hil : i < (spl p m).length := by rw [spl_length, ← Hn.out]; exact hin
      have hat := row_get hO.out i hil
      obtain ⟨Q, bq, T', hP, hJ, hbq, hQ⟩ := HCALL.out base tp i wr T (by have := HnC.out; omega) hT.out hW.out hil
      have HP := Lib.hid hP; have HJ := Lib.hid hJ; have HQ := Lib.hid hQ
      clear hP hJ hQ
      generalize (spl p m)[i] = x at hat HP
      have iInt : (i : Int) < n := by omega
      obtain ⟨a0, a1, a2, a3, a4, a5, a6, a7, a8, a9, a10, a11, a12, a13⟩ := hat
      have HO5 := hO
      by_cases hiC : i = C
      · obtain rfl : bq = true := by rw [hbq]; exact decide_eq_true hiC
        have hlast : ((i : Int) + 1 == (n : Int)) = true := by have := HnC.out; simp; omega
        obtain rfl : Q = p := HQ.out hiC
        have HE := fun w => neqP w Q
        have HiC := Lib.hid hiC
        clear hiC hbq
        go_upto_region 12 with (first
          | (go_at_call 14; (with_reducible refine (HP.out).mono ?_); rintro e V3 ⟨rfl, hT3, hF3⟩))
        have T3 : Hid (TabAt base (V3.alloc Q.obj) tp ((40 : Nat) : Int) 1000000 T') := hT3.alloc _
        have L3 : Hid ((V3.alloc Q.obj).heap[w.heap.size]? = some Q.obj) := lies_alloc (fr_pk hL.out hF3) _
        have Q3 : Hid ((V3.alloc Q.obj).heap[V3.heap.size]? = some Q.obj) := heap_alloc_new V3 _
        have O3 : Hid ((V3.alloc Q.obj).ownsRow b0 34 14 (.slice (some ⟨g, 0, none⟩) n cap') n (flatP (spl Q m))) := own_below (own_fr hO.out hF3) ((Below.refl _ V3).alloc (Nat.le_refl _) _)
        have B3 : Hid (Below w.heap.size w (V3.alloc Q.obj)) := by
          have := hb.out.trans (hF3.below.mono HBw.out)
          exact this.alloc this.size _
        clear a0 a1 a2 a3 a4 a5 a6 a7 a8 a9 a10 a11 a12 a13
        generalize V3.alloc Q.obj = W3 at T3 L3 Q3 O3 B3 ⊢
        generalize V3.heap.size = qb at Q3 ⊢
        obtain ⟨a0, a1, a2, a3, a4, a5, a6, a7, a8, a9, a10, a11, a12, a13⟩ := cells14 L3.out
        obtain ⟨b0, b1, b2, b3, b4, b5, b6, b7, b8, b9, b10, b11, b12, b13⟩ := cells14 Q3.out
        go_upto_region 14 with (fail)
        clear b0 b1 b2 b3 b4 b5 b6 b7 b8 b9 b10 b11 b12 b13 HE hlast hT3 hF3
        clear a0 a1 a2 a3 a4 a5 a6 a7 a8 a9 a10 a11 a12 a13
        by_cases hio : i < no
        · have hol : i < l.length := by rw [Hno.out]; exact hio
          obtain ⟨b', off', rfl, hbl, hat⟩ := HX.out.get hol
          have hyz := HZ.out _ (List.getElem_mem hol)
          have hat := hat.below B3.out hbl
          generalize l[i] = y at hat hyz
          have HI : Hid (b' < w.heap.size) := hbl
          have iIo : (i : Int) < no := by omega
          obtain ⟨a0, a1, a2, a3, a4, a5, a6, a7, a8, a9, a10, a11, a12, a13⟩ := hat
          have T4 : Hid (TabAt base (W3.alloc y.obj) tp ((40 : Nat) : Int) 1000000 T') := T3.out.alloc _
          have B4 : Hid (Below w.heap.size w (W3.alloc y.obj)) := B3.out.alloc B3.out.size _
          have L4 : Hid ((W3.alloc y.obj).heap[w.heap.size]? = some Q.obj) := lies_alloc L3.out _
          have Y4 : Hid ((W3.alloc y.obj).heap[W3.heap.size]? = some y.obj) := heap_alloc_new W3 _
          have O4 : Hid ((W3.alloc y.obj).ownsRow b0 34 14 (.slice (some ⟨g, 0, none⟩) n cap') n (flatP (spl Q m))) := own_below O3.out ((Below.refl _ W3).alloc (Nat.le_refl _) _)
          by_cases hbig : 2000 < y.s.size
          · go_wp2_with (first
              | (go_at_call 11; (with_reducible refine (HA.out _).mono ?_); rintro r w2 ⟨rfl, hb2⟩))
            go_returns
            exact ⟨rfl, B4.out.trans (hb2.mono B4.out.size)⟩
          · go_upto_region 18 with (fail)
            have hpx : w.heap.size < W3.heap.size := lies_lt L3.out
            have hgx : Hid (g < W3.heap.size) := by
              obtain ⟨g', c', e, _, hlt⟩ := O3.out.form (by omega)
              injection e with e; injection e with e; injection e with e
              show g < _; rw [e]; exact hlt
            generalize W3.alloc y.obj = W4 at T4 B4 L4 Y4 O4 ⊢
            generalize W3.heap.size = xb at Y4 hpx hgx ⊢
            clear a0 a1 a2 a3 a4 a5 a6 a7 a8 a9 a10 a11 a12 a13 T3 B3 L3 O3
            have y0 : W4.cell? ⟨xb, 0, none⟩ = some (.int .i64 y.id) := lies_cell Y4.out 0
            have p0 : W4.cell? ⟨w.heap.size, 0, none⟩ = some (.int .i64 Q.id) := lies_cell L4.out 0
            by_cases hid : y.id = Q.id
            · have hide : (y.id == Q.id) = true := by simpa using hid
              have hide2 : (Q.id == y.id) = true := by simpa using hid.symm
              have hyw := idUp_wf hyz.2
              have hky : (idUp y).key hyw ≠ Q.key hw := fun e => by
                have e2 := congrArg K.id e
                have e3 : (idUp y).id = Q.id := e2
                rcases idUp_ne y with h | h
                · exact h (e3.trans hid.symm)
                · exact h hyz.2
              have Hid0 := Lib.hid hid; clear hid
              have f0 := lies_frozen Y4.out 0
              go_upto_region 20 with (fail)
              clear y0 p0 f0
              have Y5 : Hid ((W4.setCell ⟨xb, 0, none⟩ (.int .i64 (wrap64 (y.id + 1)))).heap[xb]? = some (idUp y).obj) := lies_set Y4.out 0 _
              have G5 : Hid (W4.grownBy (W4.setCell ⟨xb, 0, none⟩ (.int .i64 (wrap64 (y.id + 1)))) (some xb)) := Bi.grown_set xb 0 _
              have L5 : Hid ((W4.setCell ⟨xb, 0, none⟩ (.int .i64 (wrap64 (y.id + 1)))).heap[w.heap.size]? = some Q.obj) := (G5.out.block _ (lies_lt L4.out) (by intro e; injection e with e; omega)).trans L4.out
              have T5 : Hid (TabAt base (W4.setCell ⟨xb, 0, none⟩ (.int .i64 (wrap64 (y.id + 1)))) tp ((40 : Nat) : Int) 1000000 T') := by
                obtain ⟨mb, n', D, ov, dv, h⟩ := T4.out
                exact ⟨mb, n', D, ov, dv, h.away G5.out Y4.out (by decide) (by decide) (by decide)⟩
              have O5 : Hid ((W4.setCell ⟨xb, 0, none⟩ (.int .i64 (wrap64 (y.id + 1)))).ownsRow b0 34 14 (.slice (some ⟨g, 0, none⟩) n cap') n (flatP (spl Q m))) := O4.out.kept G5.out (.inr (by simp [Value.ownBlock]; have := hgx.out; omega))
              have B5 : Hid (Below w.heap.size w (W4.setCell ⟨xb, 0, none⟩ (.int .i64 (wrap64 (y.id + 1))))) := B4.out.setCell (p := ⟨xb, 0, none⟩) (show w.heap.size ≤ xb by omega) _
              generalize W4.setCell ⟨xb, 0, none⟩ (.int .i64 (wrap64 (y.id + 1))) = W5 at Y5 L5 T5 O5 B5 ⊢
              clear G5 T4 B4 L4 Y4 O4
              have HP2 := Lib.hid (put_any T5.out HJ.out.good (by omega) (by have := HJ.out.dr; omega) (by omega) (by omega) (i : Int) (idUp y) hyw (by show y.s.size ≤ _; omega))
              have HW2 := Lib.hid (wj_other HJ.out (by omega) hky (idUp y).m (idUp y).off (idUp y).d)
              simp only [ans_eq] at HP2
              generalize put 40 1000000 T' i ((idUp y).key hyw) (idUp y).m (idUp y).off (idUp y).d = pr at HP2 HW2
              obtain ⟨Q2, HQ2⟩ : ∃ Q : Pk, Hid (ansP (idUp y) pr.2.1 = Q) := ⟨_, rfl⟩
              rw [HQ2.out] at HP2
              obtain ⟨b0, b1, b2, b3, b4, b5, b6, b7, b8, b9, b10, b11, b12, b13⟩ := cells14 Y5.out
              go_wp2_with (first
                | (go_at_call 14; (with_reducible refine (HP2.out).mono ?_); rintro e V6 ⟨rfl, hT6, hF6⟩))
              go_roundw
              case rel => exact ⟨i + 1, pr.1, by omega, by go_num, hT6, HW2.out, fr_pk L5.out hF6, own_fr O5.out hF6, B5.out.trans (hF6.below.mono HBw.out)⟩
              case measure => simp [intOf]; omega
            · have hide : (y.id == Q.id) = false := by simpa using hid
              have hide2 : (Q.id == y.id) = false := by simpa using fun e => hid e.symm
              have hyw := hyz.2
              have hky : y.key hyw ≠ Q.key hw := fun e => hid (congrArg K.id e)
              have Hid0 := Lib.hid hid; clear hid
              go_upto_region 20 with (fail)
              clear y0 p0
              have Y5 := Y4; have L5 := L4; have T5 := T4; have O5 := O4; have B5 := B4
              have HP2 := Lib.hid (put_any T5.out HJ.out.good (by omega) (by have := HJ.out.dr; omega) (by omega) (by omega) (i : Int) y hyw (by show y.s.size ≤ _; omega))
              have HW2 := Lib.hid (wj_other HJ.out (by omega) hky y.m y.off y.d)
              simp only [ans_eq] at HP2
              generalize put 40 1000000 T' i (y.key hyw) y.m y.off y.d = pr at HP2 HW2
              obtain ⟨Q2, HQ2⟩ : ∃ Q : Pk, Hid (ansP y pr.2.1 = Q) := ⟨_, rfl⟩
              rw [HQ2.out] at HP2
              obtain ⟨b0, b1, b2, b3, b4, b5, b6, b7, b8, b9, b10, b11, b12, b13⟩ := cells14 Y5.out
              go_wp2_with (first
                | (go_at_call 14; (with_reducible refine (HP2.out).mono ?_); rintro e V6 ⟨rfl, hT6, hF6⟩))
              go_roundw
              case rel => exact ⟨i + 1, pr.1, by omega, by go_num, hT6, HW2.out, fr_pk L5.out hF6, own_fr O5.out hF6, B5.out.trans (hF6.below.mono HBw.out)⟩
              case measure => simp [intOf]; omega
        · have iIo : ¬ (i : Int) < no := by omega
          go_wp2
          go_roundw
          case rel => exact ⟨i + 1, T', by omega, by go_num, T3.out, wj_next HJ.out, L3.out, O3.out, B3.out⟩
          case measure => simp [intOf]; omega
      · obtain rfl : bq = false := by rw [hbq]; exact decide_eq_false hiC
        have hlast : ((i : Int) + 1 == (n : Int)) = false := by have := HnC.out; simp; omega
        have HiC := Lib.hid hiC
        clear hiC hbq
        go_upto_region 12 with (first
          | (go_at_call 14; (with_reducible refine (HP.out).mono ?_); rintro e V3 ⟨rfl, hT3, hF3⟩))
        have T3 : Hid (TabAt base (V3.alloc Q.obj) tp ((40 : Nat) : Int) 1000000 T') := hT3.alloc _
        have L3 : Hid ((V3.alloc Q.obj).heap[w.heap.size]? = some p.obj) := lies_alloc (fr_pk hL.out hF3) _
        have O3 : Hid ((V3.alloc Q.obj).ownsRow b0 34 14 (.slice (some ⟨g, 0, none⟩) n cap') n (flatP (spl p m))) := own_below (own_fr hO.out hF3) ((Below.refl _ V3).alloc (Nat.le_refl _) _)
        have B3 : Hid (Below w.heap.size w (V3.alloc Q.obj)) := by
          have := hb.out.trans (hF3.below.mono HBw.out)
          exact this.alloc this.size _
        clear a0 a1 a2 a3 a4 a5 a6 a7 a8 a9 a10 a11 a12 a13
        generalize V3.alloc Q.obj = W3 at T3 L3 O3 B3 ⊢
        obtain ⟨a0, a1, a2, a3, a4, a5, a6, a7, a8, a9, a10, a11, a12, a13⟩ := cells14 L3.out
        go_upto_region 14 with (fail)
        clear hlast hT3 hF3
        clear a0 a1 a2 a3 a4 a5 a6 a7 a8 a9 a10 a11 a12 a13
        by_cases hio : i < no
        · have hol : i < l.length := by rw [Hno.out]; exact hio
          obtain ⟨b', off', rfl, hbl, hat⟩ := HX.out.get hol
          have hyz := HZ.out _ (List.getElem_mem hol)
          have hat := hat.below B3.out hbl
          generalize l[i] = y at hat hyz
          have HI : Hid (b' < w.heap.size) := hbl
          have iIo : (i : Int) < no := by omega
          obtain ⟨a0, a1, a2, a3, a4, a5, a6, a7, a8, a9, a10, a11, a12, a13⟩ := hat
          have T4 : Hid (TabAt base (W3.alloc y.obj) tp ((40 : Nat) : Int) 1000000 T') := T3.out.alloc _
          have B4 : Hid (Below w.heap.size w (W3.alloc y.obj)) := B3.out.alloc B3.out.size _
          have L4 : Hid ((W3.alloc y.obj).heap[w.heap.size]? = some p.obj) := lies_alloc L3.out _
          have Y4 : Hid ((W3.alloc y.obj).heap[W3.heap.size]? = some y.obj) := heap_alloc_new W3 _
          have O4 : Hid ((W3.alloc y.obj).ownsRow b0 34 14 (.slice (some ⟨g, 0, none⟩) n cap') n (flatP (spl p m))) := own_below O3.out ((Below.refl _ W3).alloc (Nat.le_refl _) _)
          by_cases hbig : 2000 < y.s.size
          · go_wp2_with (first
              | (go_at_call 11; (with_reducible refine (HA.out _).mono ?_); rintro r w2 ⟨rfl, hb2⟩))
            go_returns
            exact ⟨rfl, B4.out.trans (hb2.mono B4.out.size)⟩
          · go_upto_region 18 with (fail)
            have hpx : w.heap.size < W3.heap.size := lies_lt L3.out
            have hgx : Hid (g < W3.heap.size) := by
              obtain ⟨g', c', e, _, hlt⟩ := O3.out.form (by omega)
              injection e with e; injection e with e; injection e with e
              show g < _; rw [e]; exact hlt
            generalize W3.alloc y.obj = W4 at T4 B4 L4 Y4 O4 ⊢
            generalize W3.heap.size = xb at Y4 hpx hgx ⊢
            clear a0 a1 a2 a3 a4 a5 a6 a7 a8 a9 a10 a11 a12 a13 T3 B3 L3 O3
            have y0 : W4.cell? ⟨xb, 0, none⟩ = some (.int .i64 y.id) := lies_cell Y4.out 0
            have p0 : W4.cell? ⟨w.heap.size, 0, none⟩ = some (.int .i64 p.id) := lies_cell L4.out 0
            by_cases hid : y.id = p.id
            · have hide : (y.id == p.id) = true := by simpa using hid
              have hide2 : (p.id == y.id) = true := by simpa using hid.symm
              have hyw := idUp_wf hyz.2
              have hky : (idUp y).key hyw ≠ p.key hw := fun e => by
                have e2 := congrArg K.id e
                have e3 : (idUp y).id = p.id := e2
                rcases idUp_ne y with h | h
                · exact h (e3.trans hid.symm)
                · exact h hyz.2
              have Hid0 := Lib.hid hid; clear hid
              have f0 := lies_frozen Y4.out 0
              go_upto_region 20 with (fail)
              clear y0 p0 f0
              have Y5 : Hid ((W4.setCell ⟨xb, 0, none⟩ (.int .i64 (wrap64 (y.id + 1)))).heap[xb]? = some (idUp y).obj) := lies_set Y4.out 0 _
              have G5 : Hid (W4.grownBy (W4.setCell ⟨xb, 0, none⟩ (.int .i64 (wrap64 (y.id + 1)))) (some xb)) := Bi.grown_set xb 0 _
              have L5 : Hid ((W4.setCell ⟨xb, 0, none⟩ (.int .i64 (wrap64 (y.id + 1)))).heap[w.heap.size]? = some p.obj) := (G5.out.block _ (lies_lt L4.out) (by intro e; injection e with e; omega)).trans L4.out
              have T5 : Hid (TabAt base (W4.setCell ⟨xb, 0, none⟩ (.int .i64 (wrap64 (y.id + 1)))) tp ((40 : Nat) : Int) 1000000 T') := by
                obtain ⟨mb, n', D, ov, dv, h⟩ := T4.out
                exact ⟨mb, n', D, ov, dv, h.away G5.out Y4.out (by decide) (by decide) (by decide)⟩
              have O5 : Hid ((W4.setCell ⟨xb, 0, none⟩ (.int .i64 (wrap64 (y.id + 1)))).ownsRow b0 34 14 (.slice (some ⟨g, 0, none⟩) n cap') n (flatP (spl p m))) := O4.out.kept G5.out (.inr (by simp [Value.ownBlock]; have := hgx.out; omega))
              have B5 : Hid (Below w.heap.size w (W4.setCell ⟨xb, 0, none⟩ (.int .i64 (wrap64 (y.id + 1))))) := B4.out.setCell (p := ⟨xb, 0, none⟩) (show w.heap.size ≤ xb by omega) _
              generalize W4.setCell ⟨xb, 0, none⟩ (.int .i64 (wrap64 (y.id + 1))) = W5 at Y5 L5 T5 O5 B5 ⊢
              clear G5 T4 B4 L4 Y4 O4
              have HP2 := Lib.hid (put_any T5.out HJ.out.good (by omega) (by have := HJ.out.dr; omega) (by omega) (by omega) (i : Int) (idUp y) hyw (by show y.s.size ≤ _; omega))
              have HW2 := Lib.hid (wj_other HJ.out (by omega) hky (idUp y).m (idUp y).off (idUp y).d)
              simp only [ans_eq] at HP2
              generalize put 40 1000000 T' i ((idUp y).key hyw) (idUp y).m (idUp y).off (idUp y).d = pr at HP2 HW2
              obtain ⟨Q2, HQ2⟩ : ∃ Q : Pk, Hid (ansP (idUp y) pr.2.1 = Q) := ⟨_, rfl⟩
              rw [HQ2.out] at HP2
              obtain ⟨b0, b1, b2, b3, b4, b5, b6, b7, b8, b9, b10, b11, b12, b13⟩ := cells14 Y5.out
              go_wp2_with (first
                | (go_at_call 14; (with_reducible refine (HP2.out).mono ?_); rintro e V6 ⟨rfl, hT6, hF6⟩))
              go_roundw
              case rel => exact ⟨i + 1, pr.1, by omega, by go_num, hT6, HW2.out, fr_pk L5.out hF6, own_fr O5.out hF6, B5.out.trans (hF6.below.mono HBw.out)⟩
              case measure => simp [intOf]; omega
            · have hide : (y.id == p.id) = false := by simpa using hid
              have hide2 : (p.id == y.id) = false := by simpa using fun e => hid e.symm
              have hyw := hyz.2
              have hky : y.key hyw ≠ p.key hw := fun e => hid (congrArg K.id e)
              have Hid0 := Lib.hid hid; clear hid
              go_upto_region 20 with (fail)
              clear y0 p0
              have Y5 := Y4; have L5 := L4; have T5 := T4; have O5 := O4; have B5 := B4
              have HP2 := Lib.hid (put_any T5.out HJ.out.good (by omega) (by have := HJ.out.dr; omega) (by omega) (by omega) (i : Int) y hyw (by show y.s.size ≤ _; omega))
              have HW2 := Lib.hid (wj_other HJ.out (by omega) hky y.m y.off y.d)
              simp only [ans_eq] at HP2
              generalize put 40 1000000 T' i (y.key hyw) y.m y.off y.d = pr at HP2 HW2
              obtain ⟨Q2, HQ2⟩ : ∃ Q : Pk, Hid (ansP y pr.2.1 = Q) := ⟨_, rfl⟩
              rw [HQ2.out] at HP2
              obtain ⟨b0, b1, b2, b3, b4, b5, b6, b7, b8, b9, b10, b11, b12, b13⟩ := cells14 Y5.out
              go_wp2_with (first
                | (go_at_call 14; (with_reducible refine (HP2.out).mono ?_); rintro e V6 ⟨rfl, hT6, hF6⟩))
              go_roundw
              case rel => exact ⟨i + 1, pr.1, by omega, by go_num, hT6, HW2.out, fr_pk L5.out hF6, own_fr O5.out hF6, B5.out.trans (hF6.below.mono HBw.out)⟩
              case measure => simp [intOf]; omega
        · have iIo : ¬ (i : Int) < no := by omega
          go_wp2
          go_roundw
          case rel => exact ⟨i + 1, T', by omega, by go_num, T3.out, wj_next HJ.out, L3.out, O3.out, B3.out⟩
          case measure => simp [intOf]; omega
    · have iInt : ¬ (i : Int) < n := by omega
      go_wp2_with (first
        | (go_at_call 11; (with_reducible refine (HA.out _).mono ?_); rintro r w2 ⟨rfl, hb2⟩))
      go_returns
      exact ⟨rfl, hb.out.trans (hb2.mono hb.out.size)⟩

theorem reasmWhole_walk (id : Int) (m : Bool) (off ttl pr : Int) (a b : PitotIp.Q4) (s : ByteArray) (_hi : (Lit.int .i64 id).wf = true) (_ho : (Lit.int .i64 off).wf = true) (_ht : (Lit.int .i64 ttl).wf = true) (_hp : (Lit.int .i64 pr).wf = true) (hs : s.size ≤ maxLen) (x : Int) (_hx : (Lit.int .i64 x).wf = true) (Ad : Option Addr) (cap : Nat) (l : List Pk) {w0 : World} (hx : PksAt w0 Ad l) (_hl : l.length ≤ maxLen) (hz : ∀ q ∈ l, q.s.size ≤ maxLen ∧ q.Wf) (w : World) (hww : w0 = w := by rfl) : Calls Try.prog 4 #[pk id m off ttl pr a b s, .int .i64 x, .slice Ad l.length cap] w fun e w' => e = .returned (.bool true) ∧ Below w.heap.size w w' := by
  subst hww
  by_cases hx1 : x < 64 ∨ 1518 < x
  · exact whole_no ⟨id, m, off, ttl, pr, a, b, s⟩ Ad cap l w0 x 1 (by omega) (fun w => split_arg ⟨id, m, off, ttl, pr, a, b, s⟩ x hx1 w)
  · obtain ⟨sm, rfl⟩ : ∃ sm : Nat, x = sm + 39 := ⟨(x - 39).toNat, by omega⟩
    have h1 : 25 ≤ sm := by omega
    have h2 : sm ≤ 1479 := by omega
    by_cases hf : m = true ∨ off ≠ 0
    · exact whole_no ⟨id, m, off, ttl, pr, a, b, s⟩ Ad cap l w0 _ 15 (by omega) (fun w => split_field ⟨id, m, off, ttl, pr, a, b, s⟩ sm h1 h2 hf w)
    · have hmo : m = false := by
        cases m
        · rfl
        · exact absurd (Or.inl rfl) hf
      have ho : off = 0 := Classical.byContradiction fun e => hf (Or.inr e)
      by_cases hlg : 65515 < s.size
      · exact whole_no ⟨id, m, off, ttl, pr, a, b, s⟩ Ad cap l w0 _ 11 (by omega) (fun w => split_long ⟨id, m, off, ttl, pr, a, b, s⟩ sm h1 h2 hmo ho hlg (by have := hs; unfold maxLen at this; exact this) w)
      · by_cases hb : 8200 < s.size
        · exact whole_big ⟨id, m, off, ttl, pr, a, b, s⟩ Ad cap l w0 sm h1 h2 hmo ho (show s.size ≤ 65515 by omega) hb
        · by_cases hn : 20 < l.length
          · exact whole_many ⟨id, m, off, ttl, pr, a, b, s⟩ Ad cap l w0 sm h1 h2 hmo ho (show s.size ≤ 65515 by omega) ⟨(show s.size ≤ 8200 by omega), hn⟩
          · exact whole_in ⟨id, m, off, ttl, pr, a, b, s⟩ Ad cap l w0 sm h1 h2 hmo ho (show s.size ≤ 65515 by omega) (show s.size ≤ 8200 by omega) (by omega) ⟨_hp, _hi⟩ hx hz


set_option maxRecDepth 100000 in
theorem reasmWhole_lifted (os : Os) (started : os.Started) (H : Type) (enc : TypeId × Value → H) :
    ReturnsInHanded {} Try.checked os 4 .any (Rows.reasmWholeSpec.pre6 enc Try.prog Try.f4 Rows.reasmWholeRow.domain false) (Rows.reasmWholeSpec.post enc Try.prog Try.f4 false true false false) := by
  refine returnsInHanded_of_change (C := Try.checked) reasmWhole_own started (by kernel_rfl) Try.func4
    (ChangeSpec.witness6 (enc := enc) (C := Try.checked) false ⟨#[], #[.agg #[.int .i64 0, .bool false, .int .i64 0, .int .i64 0, .int .i64 0, .int .u8 0, .int .u8 0, .int .u8 0, .int .u8 0, .int .u8 0, .int .u8 0, .int .u8 0, .int .u8 0, .string ByteArray.empty], .int .i64 0, .slice none 0 0], []⟩ 8 (by kernel_rfl) (by kernel_rfl) (by kernel_rfl) (by kernel_rfl)) ?_
  intro W base args ds gs before hval0 hW hcnd _
  have hval : ∀ (j : Nat) t v, Try.f4.params[j]? = some t → args[j]? = some v → Value.okWide Try.prog W .any base t v := hval0
  have hW' := hW
  obtain ⟨p, q, hA0, hV, rfl, hfz, hnd⟩ := hW
  have hA : DataW.TrodAll enc Try.prog W 0 (fun _ => true) true Try.f4.params.toList args.toList ds p := hA0
  rw [Try.params4] at hA hval
  obtain ⟨v0, vs0, d0, ds0, p0, q0, hargs, rfl, rfl, h0, r0⟩ := trodAll_cons hA
  obtain ⟨v1, vs1, d1, ds1, p1, q1, rfl, rfl, rfl, h1, r1⟩ := trodAll_cons r0
  obtain ⟨v2, vs2, d2, ds2, p2, q2, rfl, rfl, rfl, h2, r2⟩ := trodAll_cons r1
  obtain ⟨rfl, rfl, rfl⟩ := trodAll_nil r2
  obtain rfl : args = #[v0, v1, v2] := by cases args; simp_all
  obtain ⟨rfl, rfl⟩ := trodVars_none hV
  have k0 := h0
  have lt0 : ∀ x ∈ p0, x.block < W.heap.size := by obtain ⟨m, hm⟩ := k0; exact DataW.trod_lt m _ _ _ hm
  obtain ⟨fu0, hf0⟩ := h0
  obtain ⟨fi0, fm0, fo0, ft0, fp0, fa0, fb0, fs0, gi0, go0, gt0, gp0, gs0, rfl⟩ := packet_open (hval 0 34 v0 rfl rfl) hf0
  obtain ⟨a1, rfl, rfl, rfl, w1⟩ := open_int Try.underlying3 (hval 1 3 v1 rfl rfl) h1
  obtain ⟨c2, len2, cap2, rfl⟩ := okWide_slice Try.underlying57 (hval 2 57 v2 rfl rfl)
  have k2 := h2
  have lt2 : ∀ x ∈ p2, x.block < W.heap.size := by obtain ⟨m, hm⟩ := k2; exact DataW.trod_lt m _ _ _ hm
  obtain ⟨fu2, hf2⟩ := h2
  obtain ⟨Ad2, cap2, l2, e2, hx2, hl2, hz2⟩ := packets_open (v := .slice c2 len2 cap2) (by simpa [Value.cells] using hf2)
  clear hA0 hval0
  have hwalk := reasmWhole_walk fi0 fm0 fo0 ft0 fp0 fa0 fb0 fs0 gi0 go0 gt0 gp0 gs0 a1 w1 Ad2 cap2 l2 hx2 hl2 hz2 W
  rw [← e2] at hwalk
  refine hwalk.mono fun e W' ⟨he, bel⟩ => ?_
  subst he
  exact ⟨_, rfl, _, _, _, [], _, [], hW', trodAll_mk1 (shut_bool Try.underlying4 _), (trodAll_cons_mk (Below.trod reasmWhole_laid (by kernel_rfl) (of_decide_eq_true (by kernel_rfl)) k0 bel lt0) (trodAll_cons_mk (shut_int Try.underlying3 w1) (trodAll_cons_mk (Below.trod reasmWhole_laid (by kernel_rfl) (of_decide_eq_true (by kernel_rfl)) k2 bel lt2) trodAll_mk0))), rfl, bel.frame _, fun h => by cases h⟩

theorem reasmWhole_over : Rows.reasmWholeRow.holds Try.pinned (OpenSpec.ofChange Rows.reasmWholeSpec) :=
  OpenClaim.holds_of_wide 4 Try.f4 rfl rfl rfl rfl rfl rfl rfl ⟨rfl, rfl, rfl, rfl, rfl⟩ rfl rfl rfl rfl rfl (by kernel_rfl) Try.func4 (by kernel_rfl)
    (of_decide_eq_true (by kernel_rfl)) (by unfold Func.isWrapper; first | (rw [if_pos (by decide +kernel)]; kernel_rfl) | (rw [if_neg (by decide +kernel)]; exact ⟨rfl, rfl⟩))
    (fun os started H enc _ => reasmWhole_lifted os started H enc)

theorem reasmWhole_holds : Rows.ReasmWholeSaid := reasmWhole_over
#print axioms reasmWhole_holds
end Go.Proofs.Ytgdjcoodjdckkaa
