/- For every ends, data and place the law UdpCut answers true: a datagram of which the end is missing, or behind which something is, is none. No conditions. -/
import Derived.Test.YtpecmpepnfgnoaaRows
import Derived.Test.YtpecmpepnfgnoaaEx
import Derived.Test.YtpecmpepnfgnoaaPo
import Derived.WalkKit
import Derived.Deep.Cut
import Derived.Deep.RegionHeld3
import Derived.ProofKit
import Derived.OpenShut
import Derived.ShutString
import Derived.ChangeOld
import Derived.Below
namespace Go.Proofs.Ytpecmpepnfgnoaa
open Go.ChangeShapes Go.WideShapes Go.ChangeAt Go.RowKit
open Go.ChangeMaps (open_string shut_string)
set_option linter.unusedVariables false

theorem udpCut_own : ownKnob Try.prog.godebug = none := by kernel_rfl
theorem udpCut_laid : laidOutB Try.prog = true := by kernel_rfl


open Go.Proofs.PitotIp
open Go.Proofs.Ytpecmpepnfgnoaa.Bi (lies_lt lies_cell lies_frozen lies_alloc)

theorem far_10 {W : World} {g h : Nat} {cs : Array Value} {t : TypeId} (q : W.heap[h]? = some (.cells cs t)) (hg : h ≠ g) (y0 y1 y2 y3 y4 y5 y6 y7 y8 y9 : Value) : ((((((((((W.setCell ⟨g, 0, none⟩ y0).setCell ⟨g, 1, none⟩ y1).setCell ⟨g, 2, none⟩ y2).setCell ⟨g, 3, none⟩ y3).setCell ⟨g, 4, none⟩ y4).setCell ⟨g, 5, none⟩ y5).setCell ⟨g, 6, none⟩ y6).setCell ⟨g, 7, none⟩ y7).setCell ⟨g, 8, none⟩ y8).setCell ⟨g, 9, none⟩ y9).heap[h]? = some (.cells cs t) := by
  have e : ∀ {V : World} (k : Nat) (v : Value), V.heap[h]? = some (.cells cs t) → (V.setCell ⟨g, k, none⟩ v).heap[h]? = some (.cells cs t) := fun {V} k v q => (Below.heap_setCell V _ v _ (by show h ≠ g; exact hg)).trans q
  exact e _ _ (e _ _ (e _ _ (e _ _ (e _ _ (e _ _ (e _ _ (e _ _ (e _ _ (e _ _ q)))))))))
theorem below_10 {B g : Nat} {w W : World} (lb : Below B w W) (hg : B ≤ g) (y0 y1 y2 y3 y4 y5 y6 y7 y8 y9 : Value) : Below B w ((((((((((W.setCell ⟨g, 0, none⟩ y0).setCell ⟨g, 1, none⟩ y1).setCell ⟨g, 2, none⟩ y2).setCell ⟨g, 3, none⟩ y3).setCell ⟨g, 4, none⟩ y4).setCell ⟨g, 5, none⟩ y5).setCell ⟨g, 6, none⟩ y6).setCell ⟨g, 7, none⟩ y7).setCell ⟨g, 8, none⟩ y8).setCell ⟨g, 9, none⟩ y9) := by
  have e : ∀ {V : World} (k : Nat) (v : Value), Below B w V → Below B w (V.setCell ⟨g, k, none⟩ v) := fun {V} k v q => q.setCell (show B ≤ (⟨g, k, none⟩ : Addr).block from hg) v
  exact e _ _ (e _ _ (e _ _ (e _ _ (e _ _ (e _ _ (e _ _ (e _ _ (e _ _ (e _ _ lb)))))))))

set_option maxRecDepth 100000 in
set_option maxHeartbeats 4000000 in
theorem udpCut_walk (a b : PitotIp.Q4) (f t : Int) (_hf : (Lit.int .i64 f).wf = true) (_ht : (Lit.int .i64 t).wf = true) (s : ByteArray) (hs : s.size ≤ maxLen) (at_ : Int) (hat : (Lit.int .i64 at_).wf = true) (w : World) :
    Calls Try.prog 7 #[en a b f t, .string s, .int .i64 at_] w fun e w' => e = .returned (.bool true) ∧ Below w.heap.size w w' := by
  unfold maxLen at hs
  have hab := bounds_i64 hat
  clear hat _hf _ht
  have K0 : Hid (Below w.heap.size w (w.alloc (enC a b f t))) := (Below.refl _ w).alloc (Nat.le_refl _) _
  by_cases hbig : 2000 < s.size
  · go_enter Try.func7, Try.ntmps7
    go_wp2_with (go_at_call 9; (with_reducible refine (awake_any _).mono ?_); rintro e w1 ⟨rfl, hb1⟩)
    go_returns
    exact ⟨rfl, K0.out.trans (hb1.mono K0.out.size)⟩
  rcases enc_cases a b f t s (by omega) with ⟨e, he, he', H⟩ | ⟨f, t, rfl, rfl, hmay⟩
  · have H10 := Lib.hid H; clear H
    have he0 : ((e : Int) != 0) = true := by simpa using he
    have he1 : ¬ (e : Int) = 0 := he
    clear he he'
    go_enter Try.func7, Try.ntmps7
    go_wp2_with (first
      | (go_at_call 10; (with_reducible refine (H10.out _).mono ?_); rintro r w1 ⟨rfl, hb1⟩)
      | (go_at_call 9; (with_reducible refine (awake_any _).mono ?_); rintro r w2 ⟨rfl, hb2⟩))
    go_returns
    have k1 : Below w.heap.size w w1 := K0.out.trans (hb1.mono K0.out.size)
    exact ⟨rfl, k1.trans (hb2.mono k1.size)⟩
  have H10 := Lib.hid (fun w => encode_ok a b f t s w hmay)
  have hBs := outB_size a b f t s
  obtain ⟨B, HB⟩ : ∃ B, Hid (B = outB a b f t s) := ⟨_, rfl⟩
  rw [← HB.out] at H10 hBs
  obtain ⟨z, Hz⟩ : ∃ z, Hid (z = 8 + s.size) := ⟨_, rfl⟩
  have hz1 : z ≤ 2008 := by rw [Hz.out]; omega
  have hz2 : 8 ≤ z := by rw [Hz.out]; omega
  rw [← Hz.out] at hBs
  by_cases h1 : at_ < 0
  · clear hmay
    go_enter Try.func7, Try.ntmps7
    go_wp2_with (first
      | (go_at_call 10; (with_reducible refine (H10.out _).mono ?_); rintro r w1 ⟨rfl, hb1⟩)
      | (go_at_call 9; (with_reducible refine (awake_any _).mono ?_); rintro r w2 ⟨rfl, hb2⟩))
    go_returns
    have k1 : Below w.heap.size w w1 := K0.out.trans (hb1.mono K0.out.size)
    exact ⟨rfl, k1.trans (hb2.mono k1.size)⟩
  obtain ⟨j, rfl⟩ := Int.eq_ofNat_of_zero_le (by omega : 0 ≤ at_)
  by_cases h2 : z ≤ j
  · clear hmay
    go_enter Try.func7, Try.ntmps7
    go_wp2_with (first
      | (go_at_call 10; (with_reducible refine (H10.out _).mono ?_); rintro r w1 ⟨rfl, hb1⟩)
      | (go_at_call 9; (with_reducible refine (awake_any _).mono ?_); rintro r w2 ⟨rfl, hb2⟩))
    go_returns
    have k1 : Below w.heap.size w w1 := K0.out.trans (hb1.mono K0.out.size)
    exact ⟨rfl, k1.trans (hb2.mono k1.size)⟩
  · have hj : j < z := by omega
    obtain ⟨k, hk⟩ : ∃ k, k = j + 1 := ⟨_, rfl⟩
    have HA := Lib.hid (fun w => dec_cut a b f t s hmay j (by rw [← Hz.out]; exact hj) w)
    have hxs : (B.extract 0 k).size = k := by rw [ByteArray.size_extract]; omega
    have HC := Lib.hid (fun w => dec_more a b f t s ((outB a b f t s).extract 0 k) hmay (by rw [← HB.out, hxs]; omega) (by rw [← HB.out, hxs]; omega) w)
    rw [← HB.out] at HA HC
    obtain ⟨P, HP⟩ : ∃ P, Hid (P = B.extract 0 j) := ⟨_, rfl⟩
    obtain ⟨Q, HQ⟩ : ∃ Q, Hid (Q = B.extract 0 k) := ⟨_, rfl⟩
    have xP : B.extract 0 j = P := HP.out.symm
    have xQ : B.extract 0 k = Q := HQ.out.symm
    rw [← HP.out] at HA
    rw [← HQ.out] at HC hxs
    have b1 : (0 : Int) ≤ (j : Int) := by omega
    have b2 : (j : Int) ≤ (B.size : Int) := by omega
    have b3 : (0 : Int) ≤ (k : Int) := by omega
    have b4 : (k : Int) ≤ (B.size : Int) := by omega
    have b5 : IntKind.i64.wrap ((j : Int) + 1) = (k : Int) := by rw [IntWalk.i64_in _ (by omega)]; omega
    have b6 : ¬ 9223372036854775807 < B.size + Q.size := by omega
    have b7 : ((j : Int) < (B.size : Int)) := by omega
    have hBm : B.size ≤ 2008 := by omega
    clear hmay hxs h1 h2 hBs hz1 hz2 hj hk
    go_enter Try.func7, Try.ntmps7
    go_upto_region 6 with (first
      | (go_at_call 10; (with_reducible refine (H10.out _).mono ?_); rintro r w1 ⟨rfl, hb1⟩
         (have L0 := Lib.hid (lies_below (heap_alloc_new w (enC a b f t)) hb1 (by simp)))
         (have k0 : Hid (Below w.heap.size w w1) := K0.out.trans (hb1.mono K0.out.size))
         (clear hb1)))
    have kA : Hid (Below w.heap.size w (w1.alloc enz).drew) := (k0.out.alloc k0.out.size enz).drew
    have L0 : Hid (w1.drew.heap[w.heap.size]? = some (enC a b f t)) := L0.out
    have k0 : Hid (Below w.heap.size w w1.drew) := k0.out.drew
    have NX : Hid (w.heap.size < w1.heap.size) := lies_lt (w := w1) L0.out
    have LA : Hid ((w1.alloc enz).drew.heap[w.heap.size]? = some (enC a b f t)) := lies_alloc (w := w1) L0.out enz
    have LF : Hid (∀ o, (w1.alloc o).drew.heap[w.heap.size]? = some (enC a b f t)) := fun o => lies_alloc (w := w1) L0.out o
    have LX : Hid ((w1.alloc enz).drew.heap[w1.heap.size]? = some enz) := heap_alloc_new w1 enz
    go_cut [9, 10, 11] from 15 (fun s9 s10 s11 wc => s11 = .int .i64 10 ∧ wc.heap[w.heap.size]? = some (enC a b f t) ∧ Below w.heap.size w wc)
    case first =>
      go_region_held3 (fun w' => w'.cell? ⟨w.heap.size, 0, none⟩ = some (.int .u8 a.a.toNat) ∧ w'.cell? ⟨w.heap.size, 1, none⟩ = some (.int .u8 a.b.toNat) ∧ w'.cell? ⟨w.heap.size, 2, none⟩ = some (.int .u8 a.c.toNat) ∧ w'.cell? ⟨w.heap.size, 3, none⟩ = some (.int .u8 a.d.toNat) ∧ w'.cell? ⟨w.heap.size, 4, none⟩ = some (.int .u8 b.a.toNat) ∧ w'.cell? ⟨w.heap.size, 5, none⟩ = some (.int .u8 b.b.toNat) ∧ w'.cell? ⟨w.heap.size, 6, none⟩ = some (.int .u8 b.c.toNat) ∧ w'.cell? ⟨w.heap.size, 7, none⟩ = some (.int .u8 b.d.toNat) ∧ w'.cell? ⟨w.heap.size, 8, none⟩ = some (.int .i64 f) ∧ w'.cell? ⟨w.heap.size, 9, none⟩ = some (.int .i64 t))
        (first | (with_reducible exact cells10 L0.out) | (with_reducible exact cells10 (LF.out _)) | (with_reducible exact cells10 LB.out) | (with_reducible exact cells10 (LBA.out _)) | (with_reducible exact cells10 (FR.out _ _ _ _ _ _ _ _ _ _)))
        (first
          | (go_at_call 13; (with_reducible refine (HA.out w1.drew).mono ?_); rintro r w2 ⟨rfl, hb⟩
             (have LB : Hid (w2.heap[w.heap.size]? = some (enC a b f t)) := lies_below L0.out hb (lies_lt L0.out))
             (have LBA : Hid (∀ o, (w2.alloc o).heap[w.heap.size]? = some (enC a b f t)) := fun o => lies_alloc LB.out o)
             (have kB : Hid (Below w.heap.size w w2) := k0.out.trans (hb.mono k0.out.size))
             (clear hb))
          | (go_at_call 13; (with_reducible refine (HA.out (w1.alloc enz).drew).mono ?_); rintro r w2 ⟨rfl, hb⟩
             (have LB : Hid (w2.heap[w.heap.size]? = some (enC a b f t)) := lies_below LA.out hb (lies_lt LA.out))
             (have kB : Hid (Below w.heap.size w w2) := kA.out.trans (hb.mono kA.out.size))
             (have LO : Hid (w2.heap[w1.heap.size]? = some enz) := lies_below LX.out hb (lies_lt LX.out))
             (have FR : Hid (∀ y0 y1 y2 y3 y4 y5 y6 y7 y8 y9 : Value, ((((((((((w2.setCell ⟨w1.heap.size, 0, none⟩ y0).setCell ⟨w1.heap.size, 1, none⟩ y1).setCell ⟨w1.heap.size, 2, none⟩ y2).setCell ⟨w1.heap.size, 3, none⟩ y3).setCell ⟨w1.heap.size, 4, none⟩ y4).setCell ⟨w1.heap.size, 5, none⟩ y5).setCell ⟨w1.heap.size, 6, none⟩ y6).setCell ⟨w1.heap.size, 7, none⟩ y7).setCell ⟨w1.heap.size, 8, none⟩ y8).setCell ⟨w1.heap.size, 9, none⟩ y9).heap[w.heap.size]? = some (enC a b f t)) := fun y0 y1 y2 y3 y4 y5 y6 y7 y8 y9 => far_10 LB.out (by have := NX.out; omega) y0 y1 y2 y3 y4 y5 y6 y7 y8 y9)
             (obtain ⟨o0, o1, o2, o3, o4, o5, o6, o7, o8, o9⟩ := cells10 LO.out)
             (have z0 := lies_frozen LO.out 0)
             (have z1 := lies_frozen LO.out 1)
             (have z2 := lies_frozen LO.out 2)
             (have z3 := lies_frozen LO.out 3)
             (have z4 := lies_frozen LO.out 4)
             (have z5 := lies_frozen LO.out 5)
             (have z6 := lies_frozen LO.out 6)
             (have z7 := lies_frozen LO.out 7)
             (have z8 := lies_frozen LO.out 8)
             (have z9 := lies_frozen LO.out 9)
             (clear hb)))
      all_goals
        go_wp2
        go_meet
        case rel =>
          first
          | exact ⟨rfl, FR.out _ _ _ _ _ _ _ _ _ _, below_10 kB.out (Nat.le_of_lt NX.out) _ _ _ _ _ _ _ _ _ _⟩
          | exact ⟨rfl, LBA.out _, kB.out.alloc kB.out.size _⟩
    case rest =>
    obtain ⟨rfl, LY, kY⟩ := hcut
    have L0 := Lib.hid LY; have k0 := Lib.hid kY
    clear LA LF kA LX NX LY kY
    go_upto_region 7 with fail
    have kA : Hid (Below w.heap.size w (wc.alloc enz).drew) := (k0.out.alloc k0.out.size enz).drew
    have L0 : Hid (wc.drew.heap[w.heap.size]? = some (enC a b f t)) := L0.out
    have k0 : Hid (Below w.heap.size w wc.drew) := k0.out.drew
    have NX : Hid (w.heap.size < wc.heap.size) := lies_lt (w := wc) L0.out
    have LA : Hid ((wc.alloc enz).drew.heap[w.heap.size]? = some (enC a b f t)) := lies_alloc (w := wc) L0.out enz
    have LF : Hid (∀ o, (wc.alloc o).drew.heap[w.heap.size]? = some (enC a b f t)) := fun o => lies_alloc (w := wc) L0.out o
    have LX : Hid ((wc.alloc enz).drew.heap[wc.heap.size]? = some enz) := heap_alloc_new wc enz
    go_cut [12, 13, 14] from 15 (fun s12 s13 s14 wd => s14 = .int .i64 11 ∧ wd.heap[w.heap.size]? = some (enC a b f t) ∧ Below w.heap.size w wd)
    case first =>
      go_region_held3 (fun w' => w'.cell? ⟨w.heap.size, 0, none⟩ = some (.int .u8 a.a.toNat) ∧ w'.cell? ⟨w.heap.size, 1, none⟩ = some (.int .u8 a.b.toNat) ∧ w'.cell? ⟨w.heap.size, 2, none⟩ = some (.int .u8 a.c.toNat) ∧ w'.cell? ⟨w.heap.size, 3, none⟩ = some (.int .u8 a.d.toNat) ∧ w'.cell? ⟨w.heap.size, 4, none⟩ = some (.int .u8 b.a.toNat) ∧ w'.cell? ⟨w.heap.size, 5, none⟩ = some (.int .u8 b.b.toNat) ∧ w'.cell? ⟨w.heap.size, 6, none⟩ = some (.int .u8 b.c.toNat) ∧ w'.cell? ⟨w.heap.size, 7, none⟩ = some (.int .u8 b.d.toNat) ∧ w'.cell? ⟨w.heap.size, 8, none⟩ = some (.int .i64 f) ∧ w'.cell? ⟨w.heap.size, 9, none⟩ = some (.int .i64 t))
        (first | (with_reducible exact cells10 L0.out) | (with_reducible exact cells10 (LF.out _)) | (with_reducible exact cells10 LB.out) | (with_reducible exact cells10 (LBA.out _)) | (with_reducible exact cells10 (FR.out _ _ _ _ _ _ _ _ _ _)))
        (first
          | (go_at_call 13; (with_reducible refine (HC.out wc.drew).mono ?_); rintro r w2 ⟨rfl, hb⟩
             (have LB : Hid (w2.heap[w.heap.size]? = some (enC a b f t)) := lies_below L0.out hb (lies_lt L0.out))
             (have LBA : Hid (∀ o, (w2.alloc o).heap[w.heap.size]? = some (enC a b f t)) := fun o => lies_alloc LB.out o)
             (have kB : Hid (Below w.heap.size w w2) := k0.out.trans (hb.mono k0.out.size))
             (clear hb))
          | (go_at_call 13; (with_reducible refine (HC.out (wc.alloc enz).drew).mono ?_); rintro r w2 ⟨rfl, hb⟩
             (have LB : Hid (w2.heap[w.heap.size]? = some (enC a b f t)) := lies_below LA.out hb (lies_lt LA.out))
             (have kB : Hid (Below w.heap.size w w2) := kA.out.trans (hb.mono kA.out.size))
             (have LO : Hid (w2.heap[wc.heap.size]? = some enz) := lies_below LX.out hb (lies_lt LX.out))
             (have FR : Hid (∀ y0 y1 y2 y3 y4 y5 y6 y7 y8 y9 : Value, ((((((((((w2.setCell ⟨wc.heap.size, 0, none⟩ y0).setCell ⟨wc.heap.size, 1, none⟩ y1).setCell ⟨wc.heap.size, 2, none⟩ y2).setCell ⟨wc.heap.size, 3, none⟩ y3).setCell ⟨wc.heap.size, 4, none⟩ y4).setCell ⟨wc.heap.size, 5, none⟩ y5).setCell ⟨wc.heap.size, 6, none⟩ y6).setCell ⟨wc.heap.size, 7, none⟩ y7).setCell ⟨wc.heap.size, 8, none⟩ y8).setCell ⟨wc.heap.size, 9, none⟩ y9).heap[w.heap.size]? = some (enC a b f t)) := fun y0 y1 y2 y3 y4 y5 y6 y7 y8 y9 => far_10 LB.out (by have := NX.out; omega) y0 y1 y2 y3 y4 y5 y6 y7 y8 y9)
             (obtain ⟨o0, o1, o2, o3, o4, o5, o6, o7, o8, o9⟩ := cells10 LO.out)
             (have z0 := lies_frozen LO.out 0)
             (have z1 := lies_frozen LO.out 1)
             (have z2 := lies_frozen LO.out 2)
             (have z3 := lies_frozen LO.out 3)
             (have z4 := lies_frozen LO.out 4)
             (have z5 := lies_frozen LO.out 5)
             (have z6 := lies_frozen LO.out 6)
             (have z7 := lies_frozen LO.out 7)
             (have z8 := lies_frozen LO.out 8)
             (have z9 := lies_frozen LO.out 9)
             (clear hb)))
      all_goals
        go_wp2
        go_meet
        case rel =>
          first
          | exact ⟨rfl, FR.out _ _ _ _ _ _ _ _ _ _, below_10 kB.out (Nat.le_of_lt NX.out) _ _ _ _ _ _ _ _ _ _⟩
          | exact ⟨rfl, LBA.out _, kB.out.alloc kB.out.size _⟩
    case rest =>
    obtain ⟨rfl, LY, kY⟩ := hcut
    have k0 := Lib.hid kY
    clear LA LF kA LX NX LY kY
    go_wp2_with (first
      | (go_at_call 9; (with_reducible refine (awake_any _).mono ?_); rintro r w5 ⟨rfl, hb5⟩))
    go_returns
    exact ⟨rfl, k0.out.trans (hb5.mono k0.out.size)⟩


set_option maxRecDepth 100000 in
theorem udpCut_lifted (os : Os) (started : os.Started) (H : Type) (enc : TypeId × Value → H) :
    ReturnsInHanded {} Try.checked os 7 .any (Rows.udpCutSpec.pre6 enc Try.prog Try.f7 Rows.udpCutRow.domain false) (Rows.udpCutSpec.post enc Try.prog Try.f7 false true false false) := by
  refine returnsInHanded_of_change (C := Try.checked) udpCut_own started (by kernel_rfl) Try.func7
    (ChangeSpec.witness6 (enc := enc) (C := Try.checked) false ⟨#[], #[.agg #[.int .u8 0, .int .u8 0, .int .u8 0, .int .u8 0, .int .u8 0, .int .u8 0, .int .u8 0, .int .u8 0, .int .i64 0, .int .i64 0], .string ByteArray.empty, .int .i64 0], []⟩ 8 (by kernel_rfl) (by kernel_rfl) (by kernel_rfl) (by kernel_rfl)) ?_
  intro W base args ds gs before hval0 hW hcnd _
  have hval : ∀ (j : Nat) t v, Try.f7.params[j]? = some t → args[j]? = some v → Value.okWide Try.prog W .any base t v := hval0
  have hW' := hW
  obtain ⟨p, q, hA0, hV, rfl, hfz, hnd⟩ := hW
  have hA : DataW.TrodAll enc Try.prog W 0 (fun _ => true) true Try.f7.params.toList args.toList ds p := hA0
  rw [Try.params7] at hA hval
  obtain ⟨v0, vs0, d0, ds0, p0, q0, hargs, rfl, rfl, h0, r0⟩ := trodAll_cons hA
  obtain ⟨v1, vs1, d1, ds1, p1, q1, rfl, rfl, rfl, h1, r1⟩ := trodAll_cons r0
  obtain ⟨v2, vs2, d2, ds2, p2, q2, rfl, rfl, rfl, h2, r2⟩ := trodAll_cons r1
  obtain ⟨rfl, rfl, rfl⟩ := trodAll_nil r2
  obtain rfl : args = #[v0, v1, v2] := by cases args; simp_all
  obtain ⟨rfl, rfl⟩ := trodVars_none hV
  have k0 := h0
  have lt0 : ∀ x ∈ p0, x.block < W.heap.size := by obtain ⟨m, hm⟩ := k0; exact DataW.trod_lt m _ _ _ hm
  obtain ⟨fu0, hf0⟩ := h0
  obtain ⟨fa0, fb0, ff0, ft0, gf0, gt0, rfl⟩ := ends_open (hval 0 25 v0 rfl rfl) hf0
  obtain ⟨a1, rfl, rfl, rfl, w1⟩ := open_string Try.underlying9 (hval 1 9 v1 rfl rfl) h1
  obtain ⟨a2, rfl, rfl, rfl, w2⟩ := open_int Try.underlying3 (hval 2 3 v2 rfl rfl) h2
  clear hA0 hval0
  have hwalk := udpCut_walk fa0 fb0 ff0 ft0 gf0 gt0 a1 w1 a2 w2 W

  refine hwalk.mono fun e W' ⟨he, bel⟩ => ?_
  subst he
  exact ⟨_, rfl, _, _, _, [], _, [], hW', trodAll_mk1 (shut_bool Try.underlying4 _), (trodAll_cons_mk (Below.trod udpCut_laid (by kernel_rfl) (of_decide_eq_true (by kernel_rfl)) k0 bel lt0) (trodAll_cons_mk (shut_string Try.underlying9 w1) (trodAll_cons_mk (shut_int Try.underlying3 w2) trodAll_mk0))), rfl, bel.frame _, fun h => by cases h⟩

theorem udpCut_over : Rows.udpCutRow.holds Try.pinned (OpenSpec.ofChange Rows.udpCutSpec) :=
  OpenClaim.holds_of_wide 7 Try.f7 rfl rfl rfl rfl rfl rfl rfl ⟨rfl, rfl, rfl, rfl, rfl⟩ rfl rfl rfl rfl rfl (by kernel_rfl) Try.func7 (by kernel_rfl)
    (of_decide_eq_true (by kernel_rfl)) (by unfold Func.isWrapper; first | (rw [if_pos (by decide +kernel)]; kernel_rfl) | (rw [if_neg (by decide +kernel)]; exact ⟨rfl, rfl⟩))
    (fun os started H enc _ => udpCut_lifted os started H enc)

theorem udpCut_holds : Rows.UdpCutSaid := udpCut_over
#print axioms udpCut_holds
end Go.Proofs.Ytpecmpepnfgnoaa
