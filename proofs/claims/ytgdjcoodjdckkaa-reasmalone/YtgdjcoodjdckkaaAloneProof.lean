/- For every packets and packet the law ReasmAlone answers true: a packet that is no part comes out at once, as it is, and turns nothing else. No conditions. -/
import Derived.Test.YtgdjcoodjdckkaaRows
import Derived.Test.YtgdjcoodjdckkaaM9
import Derived.WalkKit
import Derived.Deep.RegionHeld3
import Derived.StillTailTactics
import Derived.ProofKit
import Derived.OpenShut
import Derived.ShutString
import Derived.ChangeOld
import Derived.Below
set_option linter.unusedVariables false
namespace Go.Proofs.Ytgdjcoodjdckkaa
open Go.ChangeShapes Go.WideShapes Go.ChangeAt Go.RowKit
open Go.ChangeMaps (open_string shut_string)
set_option linter.unusedVariables false

theorem reasmAlone_own : ownKnob Try.prog.godebug = none := by kernel_rfl
theorem reasmAlone_laid : laidOutB Try.prog = true := by kernel_rfl


open Go.Proofs.PitotIp Go.Maps
open Go.Proofs.PitotReasm (Bg Tb Fine bad first next passed passE put keep)
open Go.Proofs.Ytgdjcoodjdckkaa.Bi (lies_lt lies_cell lies_frozen lies_alloc lies_set)
set_option maxRecDepth 100000 in
set_option maxHeartbeats 4000000 in
theorem alone_out (Ad : Option Addr) (cap : Nat) (l : List Pk) (p : Pk) (w : World) (h : 40 < l.length ∨ 2000 < p.s.size ∨ p.m = true ∨ p.off ≠ 0) : Calls Try.prog 8 #[.slice Ad l.length cap, p.val] w fun e w' => e = .returned (.bool true) ∧ Below w.heap.size w w' := by
  obtain ⟨n, Hn⟩ : ∃ n, Hid (l.length = n) := ⟨_, rfl⟩
  rw [Hn.out] at h ⊢
  have HA := Lib.hid awake_any
  have L0 : Hid ((w.alloc p.obj).heap[w.heap.size]? = some p.obj) := heap_alloc_new w _
  have K0 : Hid (Below w.heap.size w (w.alloc p.obj)) := (Below.refl _ w).alloc (Nat.le_refl _) _
  have HN : Hid (∀ w : World, Calls Try.prog 9 #[.int .i64 64, .int .i64 1000] w fun e w' => ∃ tp, e = .returned (.tuple #[.pointer (some ⟨tp, 0, none⟩), .int .i64 0]) ∧ TabAt w.heap.size w' tp ((64 : Nat) : Int) 1000 t0 ∧ Below w.heap.size w w') := fun w => new_ok w 64 1000 (by omega) (by omega) (by omega) (by omega)
  by_cases q0 : 40 < (n : Int)
  · have e1 : decide (40 < (n : Int)) = true := decide_eq_true q0
    have e1' : decide (40 < n) = true := decide_eq_true (by omega)
    clear q0 h
    go_enter Try.func8, Try.ntmps8
    go_wp2_with (first
      | (go_at_call 9; (with_reducible refine (HN.out _).mono ?_); rintro e V1 ⟨tp, rfl, hT, hb1⟩
         (have L1 := Lib.hid (lies_below L0.out hb1 (lies_lt L0.out)))
         (have K1 := Lib.hid (K0.out.trans (hb1.mono K0.out.size)))
         (clear hT hb1)
         (have x1 : V1.cell? ⟨w.heap.size, 1, none⟩ = some (.bool p.m) := by (first | rw [← E3.out] | skip); exact lies_cell L1.out 1)
         (have x2 : V1.cell? ⟨w.heap.size, 2, none⟩ = some (.int .i64 p.off) := lies_cell L1.out 2)
         (have x13 : V1.cell? ⟨w.heap.size, 13, none⟩ = some (.string p.s) := lies_cell L1.out 13))
      | (go_at_call 11; (with_reducible refine (HA.out _).mono ?_); rintro e w4 ⟨rfl, hb4⟩))
    go_returns
    exact ⟨rfl, K1.out.trans (hb4.mono K1.out.size)⟩
  have e1 : decide (40 < (n : Int)) = false := decide_eq_false q0
  have e1' : decide (40 < n) = false := decide_eq_false (by omega)
  by_cases q1 : 2000 < (p.s.size : Int)
  · have e2 : decide (2000 < (p.s.size : Int)) = true := decide_eq_true q1
    have e2' : decide (2000 < p.s.size) = true := decide_eq_true (by omega)
    clear q0 q1 h
    go_enter Try.func8, Try.ntmps8
    go_wp2_with (first
      | (go_at_call 9; (with_reducible refine (HN.out _).mono ?_); rintro e V1 ⟨tp, rfl, hT, hb1⟩
         (have L1 := Lib.hid (lies_below L0.out hb1 (lies_lt L0.out)))
         (have K1 := Lib.hid (K0.out.trans (hb1.mono K0.out.size)))
         (clear hT hb1)
         (have x1 : V1.cell? ⟨w.heap.size, 1, none⟩ = some (.bool p.m) := by (first | rw [← E3.out] | skip); exact lies_cell L1.out 1)
         (have x2 : V1.cell? ⟨w.heap.size, 2, none⟩ = some (.int .i64 p.off) := lies_cell L1.out 2)
         (have x13 : V1.cell? ⟨w.heap.size, 13, none⟩ = some (.string p.s) := lies_cell L1.out 13))
      | (go_at_call 11; (with_reducible refine (HA.out _).mono ?_); rintro e w4 ⟨rfl, hb4⟩))
    go_returns
    exact ⟨rfl, K1.out.trans (hb4.mono K1.out.size)⟩
  have e2 : decide (2000 < (p.s.size : Int)) = false := decide_eq_false q1
  have e2' : decide (2000 < p.s.size) = false := decide_eq_false (by omega)
  by_cases q2 : p.m = true
  · have E3 := Lib.hid q2
    clear q0 q1 q2 h
    go_enter Try.func8, Try.ntmps8
    go_wp2_with (first
      | (go_at_call 9; (with_reducible refine (HN.out _).mono ?_); rintro e V1 ⟨tp, rfl, hT, hb1⟩
         (have L1 := Lib.hid (lies_below L0.out hb1 (lies_lt L0.out)))
         (have K1 := Lib.hid (K0.out.trans (hb1.mono K0.out.size)))
         (clear hT hb1)
         (have x1 : V1.cell? ⟨w.heap.size, 1, none⟩ = some (.bool true) := by (first | rw [← E3.out] | skip); exact lies_cell L1.out 1)
         (have x2 : V1.cell? ⟨w.heap.size, 2, none⟩ = some (.int .i64 p.off) := lies_cell L1.out 2)
         (have x13 : V1.cell? ⟨w.heap.size, 13, none⟩ = some (.string p.s) := lies_cell L1.out 13))
      | (go_at_call 11; (with_reducible refine (HA.out _).mono ?_); rintro e w4 ⟨rfl, hb4⟩))
    go_returns
    exact ⟨rfl, K1.out.trans (hb4.mono K1.out.size)⟩
  have e3 : p.m = false := by simpa using q2
  have E3 := Lib.hid e3
  have h4 : p.off ≠ 0 := by
    rcases h with h | h | h | h
    · omega
    · omega
    · exact absurd h q2
    · exact h
  have e4 : (p.off != 0) = true := by simpa using h4
  clear q0 q1 q2 h h4 e3
  go_enter Try.func8, Try.ntmps8
  go_wp2_with (first
    | (go_at_call 9; (with_reducible refine (HN.out _).mono ?_); rintro e V1 ⟨tp, rfl, hT, hb1⟩
       (have L1 := Lib.hid (lies_below L0.out hb1 (lies_lt L0.out)))
       (have K1 := Lib.hid (K0.out.trans (hb1.mono K0.out.size)))
       (clear hT hb1)
       (have x1 : V1.cell? ⟨w.heap.size, 1, none⟩ = some (.bool false) := by (first | rw [← E3.out] | skip); exact lies_cell L1.out 1)
       (have x2 : V1.cell? ⟨w.heap.size, 2, none⟩ = some (.int .i64 p.off) := lies_cell L1.out 2)
       (have x13 : V1.cell? ⟨w.heap.size, 13, none⟩ = some (.string p.s) := lies_cell L1.out 13))
    | (go_at_call 11; (with_reducible refine (HA.out _).mono ?_); rintro e w4 ⟨rfl, hb4⟩))
  go_returns
  exact ⟨rfl, K1.out.trans (hb4.mono K1.out.size)⟩

set_option maxRecDepth 100000 in
set_option maxHeartbeats 4000000 in
theorem alone_in (Ad : Option Addr) (cap : Nat) (l : List Pk) (p : Pk) (w : World) (hx : PksAt w Ad l) (hz : ∀ q ∈ l, q.s.size ≤ maxLen ∧ q.Wf) (hw : p.Wf) (h1 : l.length ≤ 40) (h2 : p.s.size ≤ 2000) (h3 : p.m = false) (h4 : p.off = 0) : Calls Try.prog 8 #[.slice Ad l.length cap, p.val] w fun e w' => e = .returned (.bool true) ∧ Below w.heap.size w w' := by
  have HX := Lib.hid hx; have HZ := Lib.hid hz
  clear hx hz
  obtain ⟨n, Hn⟩ : ∃ n, Hid (l.length = n) := ⟨_, rfl⟩
  rw [Hn.out] at h1 ⊢
  have HA := Lib.hid awake_any
  have L0 : Hid ((w.alloc p.obj).heap[w.heap.size]? = some p.obj) := heap_alloc_new w _
  have K0 : Hid (Below w.heap.size w (w.alloc p.obj)) := (Below.refl _ w).alloc (Nat.le_refl _) _
  have HN : Hid (∀ w : World, Calls Try.prog 9 #[.int .i64 64, .int .i64 1000] w fun e w' => ∃ tp, e = .returned (.tuple #[.pointer (some ⟨tp, 0, none⟩), .int .i64 0]) ∧ TabAt w.heap.size w' tp ((64 : Nat) : Int) 1000 t0 ∧ Below w.heap.size w w') := fun w => new_ok w 64 1000 (by omega) (by omega) (by omega) (by omega)
  have e1 : decide (40 < (n : Int)) = false := decide_eq_false (by omega)
  have e1' : decide (40 < n) = false := decide_eq_false (by omega)
  have e2 : decide (2000 < (p.s.size : Int)) = false := decide_eq_false (by omega)
  have e2' : decide (2000 < p.s.size) = false := decide_eq_false (by omega)
  have H3 := Lib.hid h3; have H4 := Lib.hid h4
  clear h3 h4
  go_enter Try.func8, Try.ntmps8
  go_upto_region 4 with (first
    | (go_at_call 9; (with_reducible refine (HN.out _).mono ?_); rintro e V1 ⟨tp, rfl, hT, hb1⟩
       (have L1 := Lib.hid (lies_below L0.out hb1 (lies_lt L0.out)))
       (have K1 := Lib.hid (K0.out.trans (hb1.mono K0.out.size)))
       (have T1 := Lib.hid hT)
       (have x1 : V1.cell? ⟨w.heap.size, 1, none⟩ = some (.bool false) := by rw [← H3.out]; exact lies_cell L1.out 1)
       (have x2 : V1.cell? ⟨w.heap.size, 2, none⟩ = some (.int .i64 0) := by rw [← H4.out]; exact lies_cell L1.out 2)
       (have x13 : V1.cell? ⟨w.heap.size, 13, none⟩ = some (.string p.s) := lies_cell L1.out 13)
       (clear hT hb1)))
  clear x1 x2 x13 e1 e1' e2 e2' HN
  obtain ⟨B, HB⟩ : ∃ B, Hid ((w.alloc p.obj).heap.size = B) := ⟨_, rfl⟩
  rw [HB.out] at T1
  have HBw : Hid (B = w.heap.size + 1) := by show _ = _; rw [← HB.out, World.size_alloc]
  go_wp2
  go_loopw [7] (fun v7 wr => ∃ (i : Nat) (T : Tb K UInt8), i ≤ n ∧ v7 = .int .i64 i ∧ TabAt B wr tp ((64 : Nat) : Int) 1000 T ∧ Run 64 i T ∧ wr.heap[w.heap.size]? = some p.obj ∧ Below w.heap.size w wr) (fun v7 _ => n - (intOf v7).toNat)
  case atStart => exact ⟨0, t0, Nat.zero_le _, rfl, T1.out, run_zero 64, L1.out, K1.out⟩
  case round =>
    obtain ⟨i, T, hi, rfl, hT, hR, hL, hb⟩ := hrel
    have hT := Lib.hid hT; have hR := Lib.hid hR; have hL := Lib.hid hL; have hb := Lib.hid hb
    by_cases hin : i < n
    · have hil : i < l.length := by rw [Hn.out]; exact hin
      obtain ⟨b', off', rfl, hbl, hat⟩ := HX.out.get hil
      have hzi := HZ.out _ (List.getElem_mem hil)
      have hat := hat.below hb.out hbl
      generalize l[i] = x at hat hzi
      have HI : Hid (b' < w.heap.size) := hbl
      have iInt : (i : Int) < n := by omega
      obtain ⟨a0, a1, a2, a3, a4, a5, a6, a7, a8, a9, a10, a11, a12, a13⟩ := hat
      by_cases hbig : 500 < x.s.size
      · go_wp2_with (first
          | (go_at_call 11; (with_reducible refine (HA.out _).mono ?_); rintro e w4 ⟨rfl, hb4⟩))
        go_returns
        exact ⟨rfl, hb.out.trans (hb4.mono hb.out.size)⟩
      · have HP := Lib.hid (run_put hR.out (by omega) (by omega) (by omega) (by omega) hzi.2 (by omega) hT.out)
        have HR2 := Lib.hid (run_next hR.out (by omega) (by omega) 1000 (x.key hzi.2) x.m x.off x.d)
        generalize put 64 1000 T i (x.key hzi.2) x.m x.off x.d = pr at HP HR2
        obtain ⟨Q, HQ⟩ : ∃ Q : Pk, Hid (ansP x pr.2.1 = Q) := ⟨_, rfl⟩
        rw [HQ.out] at HP
        go_wp2_with (first
          | (go_at_call 14; (with_reducible refine (HP.out).mono ?_); rintro e w2 ⟨rfl, hT2, hF2⟩))
        go_roundw
        case rel => exact ⟨i + 1, pr.1, by omega, by go_num, hT2, HR2.out, fr_pk hL.out hF2, hb.out.trans (hF2.below.mono (by rw [HBw.out]; omega))⟩
        case measure => simp [intOf]; omega
    · obtain rfl : i = n := by omega
      have hki := hR.out.now
      have hroom := hR.out.good.room
      have hdr := hR.out.dr
      have hput : put 64 1000 T 50 (p.key hw) p.m p.off p.d = (⟨T.l, 50, T.dr⟩, some p.d, 0) := by
        rw [H3.out, H4.out]
        exact PitotReasm.put_alone 64 _ _ (pass_zero (by omega) (by omega)) (fun b hb => by have := hR.out.good.times b hb; omega)
      obtain ⟨h5, g5⟩ := call_put (base := B) hw rfl hput hR.out.good (by omega) (by omega) (by omega) (by omega) (by omega)
      have hself : ansP p (some p.d) = p := whole_self p H4.out
      rw [hself] at h5
      simp only [Option.isSome_some] at h5
      have hk1 := fun (V : World) (h : TabAt B V tp ((64 : Nat) : Int) 1000 T) => keys_any h hroom
      have hk2 := fun (V : World) (h : TabAt B V tp ((64 : Nat) : Int) 1000 ⟨T.l, 50, T.dr⟩) => keys_any h hroom
      have hd1 := fun (V : World) (h : TabAt B V tp ((64 : Nat) : Int) 1000 T) => dropped_any h
      have hd2 := fun (V : World) (h : TabAt B V tp ((64 : Nat) : Int) 1000 ⟨T.l, 50, T.dr⟩) => dropped_any h
      simp only at hk2 hd2
      obtain ⟨T', HT'⟩ : ∃ T' : Tb K UInt8, Hid (T' = ⟨T.l, 50, T.dr⟩) := ⟨_, rfl⟩
      rw [← HT'.out] at h5 hk2 hd2
      generalize T.l.length = L at hk1 hk2 hroom
      generalize (T.dr : Int) = dr at hd1 hd2
      have Hk1 := Lib.hid hk1; have Hk2 := Lib.hid hk2; have Hd1 := Lib.hid hd1; have Hd2 := Lib.hid hd2; have H5 := Lib.hid h5
      have HE : ∀ w, (Go.Op.equalIn 10000 34 p.val p.val).run Try.prog w = .ok true w := fun w => by rw [eqP, pkb_self]
      clear hk1 hk2 hd1 hd2 h5 g5 hput hself hki hdr
      obtain ⟨a0, a1, a2, a3, a4, a5, a6, a7, a8, a9, a10, a11, a12, a13⟩ := cells14 hL.out
      go_upto_region 12 with (first
        | (go_at_call 17; (with_reducible refine (Hk1.out _ hT.out).mono ?_); rintro e w2 ⟨⟨A2, c2, rfl, hk⟩, hb2⟩
           (have T2 := Lib.hid (hT.out.below hb2); have L2 := Lib.hid (lies_below hL.out hb2 (lies_lt hL.out)); have B2 := Lib.hid (hb.out.trans (hb2.mono hb.out.size)); clear hk hb2 a0 a1 a2 a3 a4 a5 a6 a7 a8 a9 a10 a11 a12 a13))
        | (go_at_call 18; (with_reducible refine (Hd1.out _ T2.out).mono ?_); rintro e w3 ⟨rfl, rfl⟩))
      obtain ⟨a0, a1, a2, a3, a4, a5, a6, a7, a8, a9, a10, a11, a12, a13⟩ := cells14 L2.out
      go_upto_region 13 with (first
        | (go_at_call 14; (with_reducible refine (H5.out _ _ T2.out).mono ?_); rintro e V5 ⟨rfl, hT5, hF5⟩
           (have T5 := Lib.hid hT5; have L5 := Lib.hid (fr_pk L2.out hF5); have B5 := Lib.hid (B2.out.trans (hF5.below.mono (by rw [HBw.out]; omega))); clear hT5 hF5 a0 a1 a2 a3 a4 a5 a6 a7 a8 a9 a10 a11 a12 a13)))
      have T6 : Hid (TabAt B (V5.alloc p.obj) tp ((64 : Nat) : Int) 1000 T') := T5.out.alloc _
      have B6 : Hid (Below w.heap.size w (V5.alloc p.obj)) := B5.out.alloc B5.out.size _
      have L6 : Hid ((V5.alloc p.obj).heap[w.heap.size]? = some p.obj) := lies_alloc L5.out _
      have Q6 : Hid ((V5.alloc p.obj).heap[V5.heap.size]? = some p.obj) := heap_alloc_new V5 _
      generalize V5.alloc p.obj = W6 at T6 B6 L6 Q6 ⊢
      generalize V5.heap.size = qb at Q6 ⊢
      obtain ⟨a0, a1, a2, a3, a4, a5, a6, a7, a8, a9, a10, a11, a12, a13⟩ := cells14 L6.out
      obtain ⟨b0, b1, b2, b3, b4, b5, b6, b7, b8, b9, b10, b11, b12, b13⟩ := cells14 Q6.out
      go_wp2_with (first
        | (go_at_call 17; (with_reducible refine (Hk2.out _ T6.out).mono ?_); rintro e w7 ⟨⟨A7, c7, rfl, hk⟩, hb7⟩
           (have T7 := Lib.hid (T6.out.below hb7); have B7 := Lib.hid (B6.out.trans (hb7.mono B6.out.size)); clear hk hb7))
        | (go_at_call 18; (with_reducible refine (Hd2.out _ T7.out).mono ?_); rintro e w8 ⟨rfl, rfl⟩)
        | (go_at_call 11; (with_reducible refine (HA.out _).mono ?_); rintro e w9 ⟨rfl, hb9⟩))
      go_returns
      exact ⟨rfl, B7.out.trans (hb9.mono B7.out.size)⟩

theorem reasmAlone_walk (Ad : Option Addr) (cap : Nat) (l : List Pk) {w0 : World} (hx : PksAt w0 Ad l) (_hl : l.length ≤ maxLen) (hz : ∀ q ∈ l, q.s.size ≤ maxLen ∧ q.Wf) (id : Int) (m : Bool) (off ttl pr : Int) (a b : PitotIp.Q4) (s : ByteArray) (_hi : (Lit.int .i64 id).wf = true) (_ho : (Lit.int .i64 off).wf = true) (_ht : (Lit.int .i64 ttl).wf = true) (_hp : (Lit.int .i64 pr).wf = true) (hs : s.size ≤ maxLen) (w : World) (hww : w0 = w := by rfl) : Calls Try.prog 8 #[.slice Ad l.length cap, pk id m off ttl pr a b s] w fun e w' => e = .returned (.bool true) ∧ Below w.heap.size w w' := by
  subst hww
  by_cases h : 40 < l.length ∨ 2000 < s.size ∨ m = true ∨ off ≠ 0
  · exact alone_out Ad cap l ⟨id, m, off, ttl, pr, a, b, s⟩ w0 h
  · refine alone_in Ad cap l ⟨id, m, off, ttl, pr, a, b, s⟩ w0 hx hz ⟨_hp, _hi⟩ (by omega) (show s.size ≤ 2000 by omega) ?_ ?_
    · show m = false
      cases m
      · rfl
      · exact absurd (Or.inr (Or.inr (Or.inl rfl))) h
    · show off = 0
      exact Classical.byContradiction fun e => h (Or.inr (Or.inr (Or.inr e)))


set_option maxRecDepth 100000 in
theorem reasmAlone_lifted (os : Os) (started : os.Started) (H : Type) (enc : TypeId × Value → H) :
    ReturnsInHanded {} Try.checked os 8 .any (Rows.reasmAloneSpec.pre6 enc Try.prog Try.f8 Rows.reasmAloneRow.domain false) (Rows.reasmAloneSpec.post enc Try.prog Try.f8 false true false false) := by
  refine returnsInHanded_of_change (C := Try.checked) reasmAlone_own started (by kernel_rfl) Try.func8
    (ChangeSpec.witness6 (enc := enc) (C := Try.checked) false ⟨#[], #[.slice none 0 0, .agg #[.int .i64 0, .bool false, .int .i64 0, .int .i64 0, .int .i64 0, .int .u8 0, .int .u8 0, .int .u8 0, .int .u8 0, .int .u8 0, .int .u8 0, .int .u8 0, .int .u8 0, .string ByteArray.empty]], []⟩ 8 (by kernel_rfl) (by kernel_rfl) (by kernel_rfl) (by kernel_rfl)) ?_
  intro W base args ds gs before hval0 hW hcnd _
  have hval : ∀ (j : Nat) t v, Try.f8.params[j]? = some t → args[j]? = some v → Value.okWide Try.prog W .any base t v := hval0
  have hW' := hW
  obtain ⟨p, q, hA0, hV, rfl, hfz, hnd⟩ := hW
  have hA : DataW.TrodAll enc Try.prog W 0 (fun _ => true) true Try.f8.params.toList args.toList ds p := hA0
  rw [Try.params8] at hA hval
  obtain ⟨v0, vs0, d0, ds0, p0, q0, hargs, rfl, rfl, h0, r0⟩ := trodAll_cons hA
  obtain ⟨v1, vs1, d1, ds1, p1, q1, rfl, rfl, rfl, h1, r1⟩ := trodAll_cons r0
  obtain ⟨rfl, rfl, rfl⟩ := trodAll_nil r1
  obtain rfl : args = #[v0, v1] := by cases args; simp_all
  obtain ⟨rfl, rfl⟩ := trodVars_none hV
  obtain ⟨c0, len0, cap0, rfl⟩ := okWide_slice Try.underlying57 (hval 0 57 v0 rfl rfl)
  have k0 := h0
  have lt0 : ∀ x ∈ p0, x.block < W.heap.size := by obtain ⟨m, hm⟩ := k0; exact DataW.trod_lt m _ _ _ hm
  obtain ⟨fu0, hf0⟩ := h0
  obtain ⟨Ad0, cap0, l0, e0, hx0, hl0, hz0⟩ := packets_open (v := .slice c0 len0 cap0) (by simpa [Value.cells] using hf0)
  have k1 := h1
  have lt1 : ∀ x ∈ p1, x.block < W.heap.size := by obtain ⟨m, hm⟩ := k1; exact DataW.trod_lt m _ _ _ hm
  obtain ⟨fu1, hf1⟩ := h1
  obtain ⟨fi1, fm1, fo1, ft1, fp1, fa1, fb1, fs1, gi1, go1, gt1, gp1, gs1, rfl⟩ := packet_open (hval 1 34 v1 rfl rfl) hf1
  clear hA0 hval0
  have hwalk := reasmAlone_walk Ad0 cap0 l0 hx0 hl0 hz0 fi1 fm1 fo1 ft1 fp1 fa1 fb1 fs1 gi1 go1 gt1 gp1 gs1 W
  rw [← e0] at hwalk
  refine hwalk.mono fun e W' ⟨he, bel⟩ => ?_
  subst he
  exact ⟨_, rfl, _, _, _, [], _, [], hW', trodAll_mk1 (shut_bool Try.underlying4 _), (trodAll_cons_mk (Below.trod reasmAlone_laid (by kernel_rfl) (of_decide_eq_true (by kernel_rfl)) k0 bel lt0) (trodAll_cons_mk (Below.trod reasmAlone_laid (by kernel_rfl) (of_decide_eq_true (by kernel_rfl)) k1 bel lt1) trodAll_mk0)), rfl, bel.frame _, fun h => by cases h⟩

theorem reasmAlone_over : Rows.reasmAloneRow.holds Try.pinned (OpenSpec.ofChange Rows.reasmAloneSpec) :=
  OpenClaim.holds_of_wide 8 Try.f8 rfl rfl rfl rfl rfl rfl rfl ⟨rfl, rfl, rfl, rfl, rfl⟩ rfl rfl rfl rfl rfl (by kernel_rfl) Try.func8 (by kernel_rfl)
    (of_decide_eq_true (by kernel_rfl)) (by unfold Func.isWrapper; first | (rw [if_pos (by decide +kernel)]; kernel_rfl) | (rw [if_neg (by decide +kernel)]; exact ⟨rfl, rfl⟩))
    (fun os started H enc _ => reasmAlone_lifted os started H enc)

theorem reasmAlone_holds : Rows.ReasmAloneSaid := reasmAlone_over
#print axioms reasmAlone_holds
end Go.Proofs.Ytgdjcoodjdckkaa
