/- Contracts of Decode. -/
import Derived.Test.YtneiemaepdknjaaDe
namespace Go.Proofs.Ytneiemaepdknjaa
open Go.RowKit Go.Proofs.PitotIp
open Go.Proofs.Ytneiemaepdknjaa.Bi (lies_lt lies_cell lies_frozen lies_alloc)
section
variable (s LB FB KB : ByteArray) (vk vz va vb vs S vi vo vt vr : Int) (M : Bool) (n : Nat) (S4 D4 : Q4) (w : World)

set_option maxRecDepth 100000 in
set_option maxHeartbeats 4000000 in
theorem decode_yes (DB : ByteArray) (hsz : 20 ≤ s.size) (hm : s.size ≤ 200000) (x0 : s.extract 0 20 = LB) (hR : HeadIs LB (pk vi M vo vt vr S4 D4 ⟨#[]⟩) (hd 69 0 0 0 n vs)) (x1 : s.extract 0 10 = FB) (x2 : s.extract 12 20 = KB) (z1 : FB.size = 10) (z2 : KB.size = 8) (hO : OnesIs (FB ++ ⟨#[0, 0]⟩ ++ KB) S) (hn : 20 ≤ n) (hS : vs = S) (hl : n ≤ s.size) (x3 : s.extract 20 n = DB) :
    Calls Try.prog 13 #[.string s] w fun e w' => e = .returned (.tuple #[pk vi M vo vt vr S4 D4 DB, .int .i64 0]) ∧ Below w.heap.size w w' := by
  have HR := Lib.hid hR; clear hR
  have HO := Lib.hid hO; clear hO
  subst hS
  go_enter Try.func13, Try.ntmps13
  go_upto_region 4 with (first
    | (go_at_call 21; (with_reducible refine (HR.out _).mono ?_); rintro r w1 ⟨rfl, hb1⟩
       (have L1 : w1.heap[w.heap.size]? = some pkz := lies_below (heap_alloc_new w _) hb1 (by simp))
       (have L2 : ∀ o o', ((w1.alloc o).alloc o').heap[w.heap.size]? = some pkz := fun o o' => lies_alloc (lies_alloc L1 o) o')
       (have k1 := Lib.hid (((Below.refl _ w).alloc (Nat.le_refl _) pkz).trans (hb1.mono (by simp))))
       (have L2 := Lib.hid L2)
       (have V1 := Lib.hid (lies_lt L1))
       (clear L1 hb1)))
  have LX : ((w1.alloc (pkC vi M vo vt vr S4 D4 ⟨#[]⟩)).alloc (hdC 69 0 0 0 n vs)).heap[w.heap.size]? = some pkz := L2.out _ _
  have LP : ((w1.alloc (pkC vi M vo vt vr S4 D4 ⟨#[]⟩)).alloc (hdC 69 0 0 0 n vs)).heap[w1.heap.size]? = some (pkC vi M vo vt vr S4 D4 ⟨#[]⟩) := lies_alloc (heap_alloc_new w1 _) _
  have LH : ((w1.alloc (pkC vi M vo vt vr S4 D4 ⟨#[]⟩)).alloc (hdC 69 0 0 0 n vs)).heap[w1.heap.size + 1]? = some (hdC 69 0 0 0 n vs) := by have := heap_alloc_new (w1.alloc (pkC vi M vo vt vr S4 D4 ⟨#[]⟩)) (hdC 69 0 0 0 n vs); simpa using this
  have kX : Below w.heap.size w ((w1.alloc (pkC vi M vo vt vr S4 D4 ⟨#[]⟩)).alloc (hdC 69 0 0 0 n vs)) := by have := k1.out.alloc k1.out.size (pkC vi M vo vt vr S4 D4 ⟨#[]⟩); exact this.alloc this.size _
  have v1 : w.heap.size < w1.heap.size := V1.out
  generalize ((w1.alloc (pkC vi M vo vt vr S4 D4 ⟨#[]⟩)).alloc (hdC 69 0 0 0 n vs)) = X at LX LP LH kX ⊢
  generalize w1.heap.size = gp at *
  have v2 : ¬ gp = w.heap.size := by omega
  have v3 : ¬ gp + 1 = w.heap.size := by omega
  have vL : w.heap.size ≤ gp := by omega
  clear v1 V1 L2 k1
  obtain ⟨h0, h1, h2, h3, h4, h5⟩ := cells6 LH
  obtain ⟨p0, p1, p2, p3, p4, p5, p6, p7, p8, p9, p10, p11, p12, p13⟩ := cells14 LP
  obtain ⟨r0, r1, r2, r3, r4, r5, r6, r7, r8, r9, r10, r11, r12, r13⟩ := cells14 LX
  have f0 := lies_frozen LX 0
  have f1 := lies_frozen LX 1
  have f2 := lies_frozen LX 2
  have f3 := lies_frozen LX 3
  have f4 := lies_frozen LX 4
  have f5 := lies_frozen LX 5
  have f6 := lies_frozen LX 6
  have f7 := lies_frozen LX 7
  have f8 := lies_frozen LX 8
  have f9 := lies_frozen LX 9
  have f10 := lies_frozen LX 10
  have f11 := lies_frozen LX 11
  have f12 := lies_frozen LX 12
  have f13 := lies_frozen LX 13
  have fp := lies_frozen LP 13
  have LX := Lib.hid LX; have LP := Lib.hid LP; have LH := Lib.hid LH; have kX := Lib.hid kX
  go_upto_region 8 with fail
  have b1 : (10 : Int) ≤ (s.size : Int) := by omega
  have b2 : (20 : Int) ≤ (s.size : Int) := by omega
  have b3 : (12 : Int) ≤ (s.size : Int) := by omega
  have h5d : X.drew.cell? ⟨gp + 1, 5, none⟩ = some (.int .i64 vs) := h5
  go_region_held3 (fun w' => w'.cell? ⟨gp + 1, 5, none⟩ = some (.int .i64 vs)) (exact h5d)
    (first | (go_at_call 18; (with_reducible refine (HO.out _).mono ?_); rintro r w2 ⟨rfl, rfl⟩))
  go_wp2
  (try simp only [Exit.inBlock, Exit.then])
  have LY : (X.setCell ⟨gp, 13, none⟩ (.string DB)).heap[w.heap.size]? = some pkz := (Below.heap_setCell X _ _ _ (by show w.heap.size ≠ gp; omega)).trans LX.out
  obtain ⟨k0, k1, k2, k3, k4, k5, k6, k7, k8, k9, k10, k11, k12, k13, E14⟩ := read_14 (y0 := .int .i64 vi) (y1 := .bool M) (y2 := .int .i64 vo) (y3 := .int .i64 vt) (y4 := .int .i64 vr) (y5 := .int .u8 S4.a.toNat) (y6 := .int .u8 S4.b.toNat) (y7 := .int .u8 S4.c.toNat) (y8 := .int .u8 S4.d.toNat) (y9 := .int .u8 D4.a.toNat) (y10 := .int .u8 D4.b.toNat) (y11 := .int .u8 D4.c.toNat) (y12 := .int .u8 D4.d.toNat) (y13 := .string DB) LY
  refine bodyPost_ret (by simp [results, Try.results13, go_sem, k0, k1, k2, k3, k4, k5, k6, k7, k8, k9, k10, k11, k12, k13]; try rfl) rfl ?_
  have kY : Below w.heap.size w (X.setCell ⟨gp, 13, none⟩ (.string DB)) := kX.out.setCell (show w.heap.size ≤ (⟨gp, 13, none⟩ : Addr).block from vL) _
  first
  | exact ⟨rfl, (below_14 kY (Nat.le_refl _) _ _ _ _ _ _ _ _ _ _ _ _ _ _).drew⟩
  | exact ⟨rfl, below_14 kY.drew (Nat.le_refl _) _ _ _ _ _ _ _ _ _ _ _ _ _ _⟩
end
end Go.Proofs.Ytneiemaepdknjaa
