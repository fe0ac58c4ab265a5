/- awake: the chapter's examples. -/
import Derived.Test.YtgdjcoodjdckkaaPu
import Derived.Test.YtgdjcoodjdckkaaNw
set_option maxRecDepth 100000
namespace Go.Proofs.Ytgdjcoodjdckkaa
open Go.RowKit Go.Proofs.PitotIp Go.Maps
open Go.Proofs.PitotReasm (Bg Tb Fine bad first next passed passE put keep)
open Go.Proofs.Ytgdjcoodjdckkaa.Bi (lies_lt lies_cell lies_frozen lies_alloc lies_set)

def pA : Pk := ⟨3, true, 0, 0, 0, q0, q0, ⟨#[49, 50, 51, 52, 53, 54, 55, 56]⟩⟩
def pB : Pk := ⟨3, false, 1, 0, 0, q0, q0, ⟨#[57]⟩⟩
theorem wfA : pA.Wf := ⟨by decide, by decide⟩
theorem wfB : pB.Wf := ⟨by decide, by decide⟩
def kA : K := pA.key wfA
theorem keyB : pB.key wfB = kA := rfl
abbrev partsC (A B : Pk) : Obj := .cells #[.int .i64 A.id, .bool A.m, .int .i64 A.off, .int .i64 A.ttl, .int .i64 A.pr, .int .u8 A.a.a.toNat, .int .u8 A.a.b.toNat, .int .u8 A.a.c.toNat, .int .u8 A.a.d.toNat, .int .u8 A.b.a.toNat, .int .u8 A.b.b.toNat, .int .u8 A.b.c.toNat, .int .u8 A.b.d.toNat, .string A.s, .int .i64 B.id, .bool B.m, .int .i64 B.off, .int .i64 B.ttl, .int .i64 B.pr, .int .u8 B.a.a.toNat, .int .u8 B.a.b.toNat, .int .u8 B.a.c.toNat, .int .u8 B.a.d.toNat, .int .u8 B.b.a.toNat, .int .u8 B.b.b.toNat, .int .u8 B.b.c.toNat, .int .u8 B.b.d.toNat, .string B.s] 34
set_option maxHeartbeats 1000000 in
theorem parts_any (w : World) : Calls Try.prog 22 #[] w fun e w' => e = .returned (.slice (some ⟨w.heap.size, 0, none⟩) 2 2) ∧ w' = w.alloc (partsC pA pB) := by
  go_enter Try.func22, Try.ntmps22
  go_wp2
  go_returns
  exact ⟨rfl, rfl⟩

def dA : List UInt8 := [49, 50, 51, 52, 53, 54, 55, 56]
theorem find_one (k : K) (t : Int) (d : List UInt8) : PitotReasm.find [⟨k, t, d⟩] k = some ⟨k, t, d⟩ := by simp [PitotReasm.find]
theorem drop_one' (k : K) (t : Int) (d : List UInt8) : PitotReasm.drop [⟨k, t, d⟩] k = [] := by simp [PitotReasm.drop]
theorem put1 (most : Nat) (wait n : Int) (hm : 1 ≤ most) (hn0 : 0 ≤ n) (hn : n ≤ 2000000) : put most wait t0 n kA true 0 dA = (⟨[⟨kA, n, dA⟩], n, 0⟩, none, 0) := by
  have h1 : ¬ 1125899906842624 < n := by omega
  have h2 : ¬ n < 0 := by omega
  have h3 : ¬ most = 0 := by omega
  simp [put, passE, t0, passed, keep, first, PitotReasm.drop, bad, dA, h1, h2, h3]
theorem put2 (most : Nat) (wait n n0 : Int) (dr : Nat) (hn0 : n0 ≤ n) (hn : n ≤ 2000000) (hw : n - n0 ≤ wait) : put most wait ⟨[⟨kA, n0, dA⟩], n0, dr⟩ n kA false 1 [57] = (⟨[], n, dr⟩, some (dA ++ [57]), 0) := by
  have h1 : ¬ 1125899906842624 < n := by omega
  have h2 : ¬ n < n0 := by omega
  have hk : keep [(⟨kA, n0, dA⟩ : Bg K UInt8)] wait n = [⟨kA, n0, dA⟩] := by simp [keep, hw]
  simp [put, passE, h1, h2, passed, hk, next, find_one, drop_one', bad]
  simp [dA]
theorem put2' (most : Nat) (wait n n0 : Int) (dr : Nat) (hn0 : n0 ≤ n) (hn : n ≤ 2000000) (hw : ¬ n - n0 ≤ wait) : put most wait ⟨[⟨kA, n0, dA⟩], n0, dr⟩ n kA false 1 [57] = (⟨[], n, dr + 1⟩, none, 25) := by
  have h1 : ¬ 1125899906842624 < n := by omega
  have h2 : ¬ n < n0 := by omega
  have hk : keep [(⟨kA, n0, dA⟩ : Bg K UInt8)] wait n = [] := by simp [keep, hw]
  simp [put, passE, h1, h2, passed, hk, next, PitotReasm.find]
theorem put1e (most : Nat) (wait n n0 : Int) (dr : Nat) (hm : 1 ≤ most) (hn0 : n0 ≤ n) (hn : n ≤ 2000000) : put most wait ⟨[], n0, dr⟩ n kA true 0 dA = (⟨[⟨kA, n, dA⟩], n, dr⟩, none, 0) := by
  have h1 : ¬ 1125899906842624 < n := by omega
  have h2 : ¬ n < n0 := by omega
  have h3 : ¬ most = 0 := by omega
  simp [put, passE, h1, h2, passed, keep, first, PitotReasm.drop, bad, dA, h3]

theorem call_put {base most : Nat} {wait : Int} {T T' : Tb K UInt8} {n : Int} {p : Pk} (hw : p.Wf) {k : K} (hk : p.key hw = k) {out : Option (List UInt8)} {e : Int} (hput : put most wait T n k p.m p.off p.d = (T', out, e)) (hG : Good most T) (hmost : most ≤ 64) (hdr : T.dr ≤ 10000000000) (hw0 : 0 ≤ wait) (hw1 : wait ≤ 1125899906842624) (hs : p.s.size ≤ 1000000000) :
    (∀ tp V, TabAt base V tp most wait T → Calls Try.prog 14 #[.pointer (some ⟨tp, 0, none⟩), .int .i64 n, p.val] V fun r V' => r = .returned (.tuple #[(ansP p out).val, .bool out.isSome, .int .i64 e]) ∧ TabAt base V' tp most wait T' ∧ Fr base V V') ∧ Good most T' := by
  subst hk
  have hg := put_good hG n (p.key hw) p.m p.off p.d (wait := wait)
  rw [hput] at hg
  refine ⟨fun tp V h => ?_, hg⟩
  have := put_any h hG hmost hdr hw0 hw1 n p hw hs
  rw [hput] at this
  exact this
theorem fr_parts {base : Nat} {V V' : World} {g : Nat} {A B : Pk} (h : V.heap[g]? = some (partsC A B)) (hF : Fr base V V') : V'.heap[g]? = some (partsC A B) := hF.kind _ _ _ _ (by decide) (by decide) (by decide) h
theorem fr_pk {base : Nat} {V V' : World} {g : Nat} {A : Pk} (h : V.heap[g]? = some A.obj) (hF : Fr base V V') : V'.heap[g]? = some A.obj := hF.kind _ _ _ _ (by decide) (by decide) (by decide) h
theorem TabAt.alloc {base : Nat} {w : World} {p : Nat} {most wait : Int} {t : Tb K UInt8} (h : TabAt base w p most wait t) (o : Obj) : TabAt base (w.alloc o) p most wait t := h.below ((Below.refl _ w).alloc (Nat.le_refl _) o)
theorem TabAt.drewN {base : Nat} {w : World} {p : Nat} {most wait : Int} {t : Tb K UInt8} (h : TabAt base w p most wait t) (q : Nat) : TabAt base (w.drewN q) p most wait t := by
  obtain ⟨mb, n, D, ov, dv, h⟩ := h
  exact ⟨mb, n, D, ov, dv, h.drewN q⟩
theorem Below.alloc' {B : Nat} {w w' : World} (h : Below B w w') (hb : B ≤ w.heap.size) (o : Obj) : Below B w (w'.alloc o) := h.alloc (Nat.le_trans hb h.size) o

theorem parts_a {w : World} {g : Nat} {A B : Pk} (h : w.heap[g]? = some (partsC A B)) : w.cell? ⟨g, 0, none⟩ = some (.int .i64 A.id) ∧ w.cell? ⟨g, 1, none⟩ = some (.bool A.m) ∧ w.cell? ⟨g, 2, none⟩ = some (.int .i64 A.off) ∧ w.cell? ⟨g, 3, none⟩ = some (.int .i64 A.ttl) ∧ w.cell? ⟨g, 4, none⟩ = some (.int .i64 A.pr) ∧ w.cell? ⟨g, 5, none⟩ = some (.int .u8 A.a.a.toNat) ∧ w.cell? ⟨g, 6, none⟩ = some (.int .u8 A.a.b.toNat) ∧ w.cell? ⟨g, 7, none⟩ = some (.int .u8 A.a.c.toNat) ∧ w.cell? ⟨g, 8, none⟩ = some (.int .u8 A.a.d.toNat) ∧ w.cell? ⟨g, 9, none⟩ = some (.int .u8 A.b.a.toNat) ∧ w.cell? ⟨g, 10, none⟩ = some (.int .u8 A.b.b.toNat) ∧ w.cell? ⟨g, 11, none⟩ = some (.int .u8 A.b.c.toNat) ∧ w.cell? ⟨g, 12, none⟩ = some (.int .u8 A.b.d.toNat) ∧ w.cell? ⟨g, 13, none⟩ = some (.string A.s) := ⟨lies_cell h 0, lies_cell h 1, lies_cell h 2, lies_cell h 3, lies_cell h 4, lies_cell h 5, lies_cell h 6, lies_cell h 7, lies_cell h 8, lies_cell h 9, lies_cell h 10, lies_cell h 11, lies_cell h 12, lies_cell h 13⟩
theorem parts_b {w : World} {g : Nat} {A B : Pk} (h : w.heap[g]? = some (partsC A B)) : w.cell? ⟨g, 14, none⟩ = some (.int .i64 B.id) ∧ w.cell? ⟨g, 15, none⟩ = some (.bool B.m) ∧ w.cell? ⟨g, 16, none⟩ = some (.int .i64 B.off) ∧ w.cell? ⟨g, 17, none⟩ = some (.int .i64 B.ttl) ∧ w.cell? ⟨g, 18, none⟩ = some (.int .i64 B.pr) ∧ w.cell? ⟨g, 19, none⟩ = some (.int .u8 B.a.a.toNat) ∧ w.cell? ⟨g, 20, none⟩ = some (.int .u8 B.a.b.toNat) ∧ w.cell? ⟨g, 21, none⟩ = some (.int .u8 B.a.c.toNat) ∧ w.cell? ⟨g, 22, none⟩ = some (.int .u8 B.a.d.toNat) ∧ w.cell? ⟨g, 23, none⟩ = some (.int .u8 B.b.a.toNat) ∧ w.cell? ⟨g, 24, none⟩ = some (.int .u8 B.b.b.toNat) ∧ w.cell? ⟨g, 25, none⟩ = some (.int .u8 B.b.c.toNat) ∧ w.cell? ⟨g, 26, none⟩ = some (.int .u8 B.b.d.toNat) ∧ w.cell? ⟨g, 27, none⟩ = some (.string B.s) := ⟨lies_cell h 14, lies_cell h 15, lies_cell h 16, lies_cell h 17, lies_cell h 18, lies_cell h 19, lies_cell h 20, lies_cell h 21, lies_cell h 22, lies_cell h 23, lies_cell h 24, lies_cell h 25, lies_cell h 26, lies_cell h 27⟩

set_option maxHeartbeats 4000000 in
theorem awake_any (w : World) : Calls Try.prog 11 #[] w fun e w' => e = .returned (.bool true) ∧ Below w.heap.size w w' := by
  have HN : Calls Try.prog 9 #[.int .i64 4, .int .i64 5] w fun e w' => ∃ tp, e = .returned (.tuple #[.pointer (some ⟨tp, 0, none⟩), .int .i64 0]) ∧ TabAt w.heap.size w' tp ((4 : Nat) : Int) 5 t0 ∧ Below w.heap.size w w' := new_ok w 4 5 (by omega) (by omega) (by omega) (by omega)
  have HN := Lib.hid HN
  obtain ⟨h1, g1⟩ := call_put (base := w.heap.size) (p := pA) wfA (k := kA) rfl (put1 4 5 0 (by omega) (by omega) (by omega)) (good_new 4) (by omega) (by decide) (by omega) (by omega) (by decide)
  obtain ⟨h2, g2⟩ := call_put (base := w.heap.size) (p := pB) wfB (k := kA) rfl (put2 4 5 1 0 0 (by omega) (by omega) (by omega)) g1 (by omega) (by decide) (by omega) (by omega) (by decide)
  obtain ⟨h3, g3⟩ := call_put (base := w.heap.size) (p := pA) wfA (k := kA) rfl (put1e 4 5 10 1 0 (by omega) (by omega) (by omega)) g2 (by omega) (by decide) (by omega) (by omega) (by decide)
  obtain ⟨h4, g4⟩ := call_put (base := w.heap.size) (p := pB) wfB (k := kA) rfl (put2' 4 5 16 10 0 (by omega) (by omega) (by omega)) g3 (by omega) (by decide) (by omega) (by omega) (by decide)
  clear g1 g2 g3 g4
  have HD := fun (V : World) (tp : Nat) (h : TabAt w.heap.size V tp ((4 : Nat) : Int) 5 ⟨[], 16, 0 + 1⟩) => dropped_any h
  have HPA := fun w => parts_any w
  obtain ⟨Q, HQ⟩ : ∃ Q : Pk, Hid (Q = ansP pB (some (dA ++ [57]))) := ⟨ansP pB (some (dA ++ [57])), Lib.hid rfl⟩
  obtain ⟨Z1, HZ1⟩ : ∃ Q : Pk, Hid (Q = ansP pA none) := ⟨_, rfl⟩
  obtain ⟨Z2, HZ2⟩ : ∃ Q : Pk, Hid (Q = ansP pB none) := ⟨_, rfl⟩
  have hq : (Q.s.toList == [49, 50, 51, 52, 53, 54, 55, 56, 57]) = true := by rw [HQ.out, ByteArray.toList_eq]; rfl
  rw [← HZ1.out] at h1 h3
  rw [← HZ2.out] at h4
  rw [← HQ.out] at h2
  obtain ⟨A, HA⟩ : ∃ A, Hid (A = pA) := ⟨_, rfl⟩
  obtain ⟨B, HB⟩ : ∃ A, Hid (A = pB) := ⟨_, rfl⟩
  obtain ⟨S1, HT1⟩ : ∃ T : Tb K UInt8, Hid (T = ⟨[⟨kA, 0, dA⟩], 0, 0⟩) := ⟨_, rfl⟩
  obtain ⟨S2, HT2⟩ : ∃ T : Tb K UInt8, Hid (T = ⟨[], 1, 0⟩) := ⟨_, rfl⟩
  obtain ⟨S3, HT3⟩ : ∃ T : Tb K UInt8, Hid (T = ⟨[⟨kA, 10, dA⟩], 10, 0⟩) := ⟨_, rfl⟩
  obtain ⟨S4, HT4⟩ : ∃ T : Tb K UInt8, Hid (T = ⟨[], 16, 0 + 1⟩) := ⟨_, rfl⟩
  rw [← HT1.out, ← HA.out] at h1
  rw [← HT1.out, ← HT2.out, ← HB.out] at h2
  rw [← HT2.out, ← HT3.out, ← HA.out] at h3
  rw [← HT3.out, ← HT4.out, ← HB.out] at h4
  rw [← HT4.out] at HD
  rw [← HA.out, ← HB.out] at HPA
  simp only [Option.isSome_none, Option.isSome_some] at h1 h2 h3 h4
  have H1 := Lib.hid h1; have H2 := Lib.hid h2; have H3 := Lib.hid h3; have H4 := Lib.hid h4
  have HD : Hid (∀ (V : World) (tp : Nat), TabAt w.heap.size V tp ((4 : Nat) : Int) 5 S4 → Calls Try.prog 18 #[.pointer (some ⟨tp, 0, none⟩)] V fun e w' => e = .returned (.int .i64 1) ∧ w' = V) := fun V tp h => by
    have := HD V tp h
    rw [HT4.out] at this
    exact this
  have HPA := Lib.hid HPA
  clear h1 h2 h3 h4
  go_enter Try.func11, Try.ntmps11
  go_upto_region 5 with (first
    | (go_at_call 9; (with_reducible refine HN.out.mono ?_); rintro e Vn ⟨tp, rfl, hTn, hBn⟩)
    | (go_at_call 22; (with_reducible refine (HPA.out _).mono ?_); rintro e V0 ⟨rfl, hV⟩
       (have T0 : Hid (TabAt w.heap.size V0 tp ((4 : Nat) : Int) 5 t0) := by show TabAt _ _ _ _ _ _; rw [hV]; exact hTn.alloc _)
       (have L0 : Hid (V0.heap[Vn.heap.size]? = some (partsC A B)) := by show _ = _; rw [hV]; exact heap_alloc_new Vn _)
       (have B0 : Hid (Below w.heap.size w V0) := by show Below _ _ _; rw [hV]; exact hBn.alloc hBn.size _)
       (clear hTn hBn hV)))
  generalize Vn.heap.size = g at L0 ⊢
  have hgl := Lib.hid (lies_lt L0.out)
  obtain ⟨a0, a1, a2, a3, a4, a5, a6, a7, a8, a9, a10, a11, a12, a13⟩ := parts_a L0.out
  go_upto_region 6 with (first
    | (go_at_call 14; (with_reducible refine (H1.out _ _ T0.out).mono ?_); rintro e V1 ⟨rfl, hT, hF⟩
       (have T1 := Lib.hid hT; have L1 := Lib.hid (fr_parts L0.out hF); have B1 := Lib.hid (B0.out.trans hF.below); clear hT hF a0 a1 a2 a3 a4 a5 a6 a7 a8 a9 a10 a11 a12 a13)))
  have T1a : Hid (TabAt w.heap.size (V1.alloc Z1.obj) tp ((4 : Nat) : Int) 5 S1) := T1.out.alloc _
  have L1a : Hid ((V1.alloc Z1.obj).heap[g]? = some (partsC A B)) := lies_alloc L1.out _
  have B1a : Hid (Below w.heap.size w (V1.alloc Z1.obj)) := B1.out.alloc B1.out.size _
  generalize V1.alloc Z1.obj = W1 at T1a L1a B1a ⊢
  clear T1 L1 B1
  obtain ⟨a0, a1, a2, a3, a4, a5, a6, a7, a8, a9, a10, a11, a12, a13⟩ := parts_b L1a.out
  go_upto_region 7 with (first
    | (go_at_call 14; (with_reducible refine (H2.out _ _ T1a.out).mono ?_); rintro e V2 ⟨rfl, hT, hF⟩
       (have T2 := Lib.hid hT; have L2 := Lib.hid (fr_parts L1a.out hF); have B2 := Lib.hid (B1a.out.trans hF.below); clear hT hF a0 a1 a2 a3 a4 a5 a6 a7 a8 a9 a10 a11 a12 a13)))
  have T2a : Hid (TabAt w.heap.size (V2.alloc Q.obj) tp ((4 : Nat) : Int) 5 S2) := T2.out.alloc _
  have L2a : Hid ((V2.alloc Q.obj).heap[g]? = some (partsC A B)) := lies_alloc L2.out _
  have B2a : Hid (Below w.heap.size w (V2.alloc Q.obj)) := B2.out.alloc B2.out.size _
  have Q2a : Hid ((V2.alloc Q.obj).heap[V2.heap.size]? = some Q.obj) := heap_alloc_new V2 _
  generalize V2.alloc Q.obj = W2 at T2a L2a B2a Q2a ⊢
  generalize V2.heap.size = qb at Q2a ⊢
  clear T2 L2 B2
  obtain ⟨a0, a1, a2, a3, a4, a5, a6, a7, a8, a9, a10, a11, a12, a13⟩ := parts_a L2a.out
  go_upto_region 8 with (first
    | (go_at_call 14; (with_reducible refine (H3.out _ _ T2a.out).mono ?_); rintro e V3 ⟨rfl, hT, hF⟩
       (have T3 := Lib.hid hT; have L3 := Lib.hid (fr_parts L2a.out hF); have B3 := Lib.hid (B2a.out.trans hF.below); have Q3 := Lib.hid (fr_pk Q2a.out hF); clear hT hF a0 a1 a2 a3 a4 a5 a6 a7 a8 a9 a10 a11 a12 a13)))
  obtain ⟨a0, a1, a2, a3, a4, a5, a6, a7, a8, a9, a10, a11, a12, a13⟩ := parts_b L3.out
  go_upto_region 9 with (first
    | (go_at_call 14; (with_reducible refine (H4.out _ _ T3.out).mono ?_); rintro e V4 ⟨rfl, hT, hF⟩
       (have T4 := Lib.hid hT; have B4 := Lib.hid (B3.out.trans hF.below); have Q4 := Lib.hid (fr_pk Q3.out hF); clear hT hF a0 a1 a2 a3 a4 a5 a6 a7 a8 a9 a10 a11 a12 a13)))
  have T4a : Hid (TabAt w.heap.size (V4.alloc Z2.obj) tp ((4 : Nat) : Int) 5 S4) := T4.out.alloc _
  have B4a : Hid (Below w.heap.size w (V4.alloc Z2.obj)) := B4.out.alloc B4.out.size _
  have Q4a : Hid ((V4.alloc Z2.obj).heap[qb]? = some Q.obj) := lies_alloc Q4.out _
  generalize V4.alloc Z2.obj = W4 at T4a B4a Q4a ⊢
  have hq13 : W4.cell? ⟨qb, 13, none⟩ = some (.string Q.s) := lies_cell Q4a.out 13
  go_wp2_with (first
    | (go_at_call 18; (with_reducible refine (HD.out _ _ T4a.out).mono ?_); rintro e V5 ⟨rfl, hV5⟩))
  go_returns
  subst hV5
  exact ⟨rfl, B4a.out⟩
end Go.Proofs.Ytgdjcoodjdckkaa
