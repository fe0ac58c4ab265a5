/- Contract of Put, a part. -/
import Derived.Test.YtgdjcoodjdckkaaPv
set_option maxRecDepth 100000
namespace Go.Proofs.Ytgdjcoodjdckkaa
open Go.RowKit Go.Proofs.PitotIp Go.Maps
open Go.Proofs.PitotReasm (Bg Tb Fine bad first next passed passE put keep)
open Go.Proofs.Ytgdjcoodjdckkaa.Bi (lies_lt lies_cell lies_frozen lies_alloc lies_set)

set_option maxHeartbeats 4000000 in
theorem put_whole {base : Nat} {w : World} {tp : Nat} {most : Nat} {wait : Int} {t : Tb K UInt8} (h : TabAt base w tp most wait t) (hG : Good most t) (hmost : most ≤ 64) (hdr : t.dr ≤ 10000000000) (hw0 : 0 ≤ wait) (hw1 : wait ≤ 1125899906842624) (n : Int) (p : Pk) (hw : p.Wf) (hs : p.s.size ≤ 1000000000) (hp : passE t n = 0) (ho : p.off = 0) (hm : p.m = false) :
    Calls Try.prog 14 #[.pointer (some ⟨tp, 0, none⟩), .int .i64 n, p.val] w fun e w' => e = .returned (ans p (put most wait t n (p.key hw) p.m p.off p.d).2.1 (put most wait t n (p.key hw) p.m p.off p.d).2.2) ∧ TabAt base w' tp most wait (put most wait t n (p.key hw) p.m p.off p.d).1 ∧ Fr base w w' := by
  have e0 : put most wait t n (p.key hw) p.m p.off p.d = (passed t wait n, some p.d, 0) := by unfold put; rw [if_neg (by omega), if_pos ⟨hm, ho⟩]
  rw [e0]; clear e0
  have hb0 := h.base
  have k1 := ((Below.refl w.heap.size w).alloc (Nat.le_refl _) p.obj)
  have k2 := k1.alloc k1.size pkz
  have H1 : Hid (TabAt base ((w.alloc p.obj).alloc pkz) tp most wait t) := h.below k2
  have P1 : Hid (((w.alloc p.obj).alloc pkz).heap[w.heap.size]? = some p.obj) := lies_alloc (heap_alloc_new w _) _
  have R1 : Hid (((w.alloc p.obj).alloc pkz).heap[w.heap.size + 1]? = some pkz) := by
    have e := heap_alloc_new (w.alloc p.obj) pkz
    rw [World.size_alloc] at e
    exact e
  have F1 : Hid (Fr base w ((w.alloc p.obj).alloc pkz)) := Fr.of k2 hb0
  have Hb : Hid (base ≤ w.heap.size) := hb0
  clear h k1 k2 hb0
  have HP := Lib.hid (pass_ok H1.out hG hmost (by omega) hw0 hw1 n hp)
  generalize passed t wait n = t2 at HP ⊢
  have HA : Hid (ans p (some p.d) 0 = .tuple #[p.val, .bool true, .int .i64 0]) := by
    show _ = _
    rw [ans_eq, ansP, whole_self p ho]; rfl
  have Hp := Lib.hid hp; clear hp
  have Ho := Lib.hid ho; clear ho
  have Hm := Lib.hid hm; clear hm
  clear hG
  go_enter Try.func14, Try.ntmps14
  go_upto_region 4 with (first
    | (go_at_call 12; (with_reducible refine (HP.out).mono ?_); rintro e V2 ⟨rfl, hT2, hF2⟩
       (have P2 : Hid (V2.heap[w.heap.size]? = some p.obj) := hF2.kind _ _ _ _ (by decide) (by decide) (by decide) P1.out)
       (have R2 : Hid (V2.heap[w.heap.size + 1]? = some pkz) := hF2.kind _ _ _ _ (by decide) (by decide) (by decide) R1.out)
       (have F2 : Hid (Fr base w V2) := F1.out.trans hF2)
       (have H2 := Lib.hid hT2)
       (clear hT2 hF2)))
  have x2 : V2.cell? ⟨w.heap.size, 2, none⟩ = some (.int .i64 0) := by rw [← Ho.out]; exact lies_cell P2.out 2
  have x1 : V2.cell? ⟨w.heap.size, 1, none⟩ = some (.bool false) := by rw [← Hm.out]; exact lies_cell P2.out 1
  go_upto_region 8 with (fail)
  clear x1 x2
  obtain ⟨d0, d1, d2, d3, d4, d5, d6, d7, d8, d9, d10, d11, d12, d13⟩ := cells14 P2.out
  have LX := R2
  obtain ⟨r0, r1, r2, r3, r4, r5, r6, r7, r8, r9, r10, r11, r12, r13⟩ := cells14 LX.out
  have f0 := lies_frozen LX.out 0
  have f1 := lies_frozen LX.out 1
  have f2 := lies_frozen LX.out 2
  have f3 := lies_frozen LX.out 3
  have f4 := lies_frozen LX.out 4
  have f5 := lies_frozen LX.out 5
  have f6 := lies_frozen LX.out 6
  have f7 := lies_frozen LX.out 7
  have f8 := lies_frozen LX.out 8
  have f9 := lies_frozen LX.out 9
  have f10 := lies_frozen LX.out 10
  have f11 := lies_frozen LX.out 11
  have f12 := lies_frozen LX.out 12
  have f13 := lies_frozen LX.out 13
  go_wp2
  (try simp only [Exit.inBlock, Exit.then])
  obtain ⟨k0, k1, k2, k3, k4, k5, k6, k7, k8, k9, k10, k11, k12, k13, _⟩ := read_14 (y0 := .int .i64 p.id) (y1 := .bool p.m) (y2 := .int .i64 p.off) (y3 := .int .i64 p.ttl) (y4 := .int .i64 p.pr) (y5 := .int .u8 p.a.a.toNat) (y6 := .int .u8 p.a.b.toNat) (y7 := .int .u8 p.a.c.toNat) (y8 := .int .u8 p.a.d.toNat) (y9 := .int .u8 p.b.a.toNat) (y10 := .int .u8 p.b.b.toNat) (y11 := .int .u8 p.b.c.toNat) (y12 := .int .u8 p.b.d.toNat) (y13 := .string p.s) LX.out
  refine bodyPost_ret (by simp [results, Try.results14, go_sem, k0, k1, k2, k3, k4, k5, k6, k7, k8, k9, k10, k11, k12, k13]; try rfl) rfl ?_
  exact ⟨by rw [HA.out], stored_14 H2.out F2.out Hb.out (by omega) LX.out _ _ _ _ _ _ _ _ _ _ _ _ _ _⟩
end Go.Proofs.Ytgdjcoodjdckkaa
