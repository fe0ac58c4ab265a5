/- Contract of Put, a part. -/
import Derived.Test.YtgdjcoodjdckkaaPv
set_option maxRecDepth 100000
namespace Go.Proofs.Ytgdjcoodjdckkaa
open Go.RowKit Go.Proofs.PitotIp Go.Maps
open Go.Proofs.PitotReasm (Bg Tb Fine bad first next passed passE put keep)
open Go.Proofs.Ytgdjcoodjdckkaa.Bi (lies_lt lies_cell lies_frozen lies_alloc lies_set)

set_option maxHeartbeats 4000000 in
theorem put_bad {base : Nat} {w : World} {tp : Nat} {most : Nat} {wait : Int} {t : Tb K UInt8} (h : TabAt base w tp most wait t) (hG : Good most t) (hmost : most ≤ 64) (hdr : t.dr ≤ 10000000000) (hw0 : 0 ≤ wait) (hw1 : wait ≤ 1125899906842624) (n : Int) (p : Pk) (hw : p.Wf) (hs : p.s.size ≤ 1000000000) (hp : passE t n ≠ 0) :
    Calls Try.prog 14 #[.pointer (some ⟨tp, 0, none⟩), .int .i64 n, p.val] w fun e w' => e = .returned (ans p (put most wait t n (p.key hw) p.m p.off p.d).2.1 (put most wait t n (p.key hw) p.m p.off p.d).2.2) ∧ TabAt base w' tp most wait (put most wait t n (p.key hw) p.m p.off p.d).1 ∧ Fr base w w' := by
  have e0 : put most wait t n (p.key hw) p.m p.off p.d = (t, none, passE t n) := by unfold put; rw [if_pos hp]
  rw [e0]; clear e0
  have hb0 := h.base
  have k1 := ((Below.refl w.heap.size w).alloc (Nat.le_refl _) p.obj)
  have k2 := k1.alloc k1.size pkz
  have H1 : Hid (TabAt base ((w.alloc p.obj).alloc pkz) tp most wait t) := h.below k2
  have P1 : Hid (((w.alloc p.obj).alloc pkz).heap[w.heap.size]? = some p.obj) := lies_alloc (heap_alloc_new w _) _
  have R1 : Hid (((w.alloc p.obj).alloc pkz).heap[w.heap.size + 1]? = some pkz) := by
    have e := heap_alloc_new (w.alloc p.obj) pkz
    rw [World.size_alloc] at e
    exact e
  have F1 : Hid (Fr base w ((w.alloc p.obj).alloc pkz)) := Fr.of k2 hb0
  have Hb : Hid (base ≤ w.heap.size) := hb0
  clear h k1 k2 hb0
  have HP := Lib.hid (pass_bad H1.out n hp)
  obtain ⟨E, HE⟩ : ∃ E, Hid (E = passE t n) := ⟨_, rfl⟩
  rw [← HE.out] at HP hp ⊢
  have hE0 : (E != 0) = true := by simpa using hp
  have Hp := Lib.hid hp; clear hp
  go_enter Try.func14, Try.ntmps14
  go_upto_region 3 with (first
    | (go_at_call 12; (with_reducible refine (HP.out).mono ?_); rintro e V2 ⟨rfl, hV⟩
       (have HV := Lib.hid hV; clear hV)))
  have H2 : Hid (TabAt base V2 tp most wait t) := by show TabAt _ _ _ _ _ _; rw [HV.out]; exact H1.out
  have F2 : Hid (Fr base w V2) := by show Fr _ _ _; rw [HV.out]; exact F1.out
  have LX : Hid (V2.heap[w.heap.size + 1]? = some pkz) := by show _ = _; rw [HV.out]; exact R1.out
  clear HP
  obtain ⟨r0, r1, r2, r3, r4, r5, r6, r7, r8, r9, r10, r11, r12, r13⟩ := cells14 LX.out
  have f0 := lies_frozen LX.out 0
  have f1 := lies_frozen LX.out 1
  have f2 := lies_frozen LX.out 2
  have f3 := lies_frozen LX.out 3
  have f4 := lies_frozen LX.out 4
  have f5 := lies_frozen LX.out 5
  have f6 := lies_frozen LX.out 6
  have f7 := lies_frozen LX.out 7
  have f8 := lies_frozen LX.out 8
  have f9 := lies_frozen LX.out 9
  have f10 := lies_frozen LX.out 10
  have f11 := lies_frozen LX.out 11
  have f12 := lies_frozen LX.out 12
  have f13 := lies_frozen LX.out 13
  go_wp2
  (try simp only [Exit.inBlock, Exit.then])
  obtain ⟨k0, k1, k2, k3, k4, k5, k6, k7, k8, k9, k10, k11, k12, k13, _⟩ := read_14 (y0 := .int .i64 0) (y1 := .bool false) (y2 := .int .i64 0) (y3 := .int .i64 0) (y4 := .int .i64 0) (y5 := .int .u8 0) (y6 := .int .u8 0) (y7 := .int .u8 0) (y8 := .int .u8 0) (y9 := .int .u8 0) (y10 := .int .u8 0) (y11 := .int .u8 0) (y12 := .int .u8 0) (y13 := .string ⟨#[]⟩) LX.out
  refine bodyPost_ret (by simp [results, Try.results14, go_sem, k0, k1, k2, k3, k4, k5, k6, k7, k8, k9, k10, k11, k12, k13]; try rfl) rfl ?_
  exact ⟨rfl, stored_14 H2.out F2.out Hb.out (by omega) LX.out _ _ _ _ _ _ _ _ _ _ _ _ _ _⟩
end Go.Proofs.Ytgdjcoodjdckkaa
