/- A nil table: Put. -/
import Derived.Test.YtgdjcoodjdckkaaAk
import Derived.Test.YtgdjcoodjdckkaaJe
set_option maxRecDepth 100000
namespace Go.Proofs.Ytgdjcoodjdckkaa
open Go.RowKit Go.Proofs.PitotIp Go.Maps
open Go.Proofs.PitotReasm (Bg Tb Fine bad first next passed passE put keep)
open Go.Proofs.Ytgdjcoodjdckkaa.Bi (lies_lt lies_cell lies_frozen lies_alloc lies_set)

set_option maxHeartbeats 4000000 in
theorem put_nil (n : Int) (p : Pk) (w : World) : Calls Try.prog 14 #[.pointer none, .int .i64 n, p.val] w fun e w' => e = .returned (.tuple #[pkN.val, .bool false, .int .i64 2]) ∧ Below w.heap.size w w' := by
  have k1 := ((Below.refl w.heap.size w).alloc (Nat.le_refl _) p.obj)
  have R1 : Hid (((w.alloc p.obj).alloc pkz).heap[w.heap.size + 1]? = some pkz) := by
    have e := heap_alloc_new (w.alloc p.obj) pkz
    rw [World.size_alloc] at e
    exact e
  have F1 : Hid (Below w.heap.size w ((w.alloc p.obj).alloc pkz)) := k1.alloc k1.size pkz
  have HP := Lib.hid (pass_nil ((w.alloc p.obj).alloc pkz) n)
  clear k1
  go_enter Try.func14, Try.ntmps14
  go_upto_region 3 with (first
    | (go_at_call 12; (with_reducible refine (HP.out).mono ?_); rintro e V2 ⟨rfl, hV⟩
       (have HV := Lib.hid hV; clear hV)))
  have LX : Hid (V2.heap[w.heap.size + 1]? = some pkz) := by show _ = _; rw [HV.out]; exact R1.out
  have F2 : Hid (Below w.heap.size w V2) := by show Below _ _ _; rw [HV.out]; exact F1.out
  clear HP
  obtain ⟨r0, r1, r2, r3, r4, r5, r6, r7, r8, r9, r10, r11, r12, r13⟩ := cells14 LX.out
  have f0 := lies_frozen LX.out 0
  have f1 := lies_frozen LX.out 1
  have f2 := lies_frozen LX.out 2
  have f3 := lies_frozen LX.out 3
  have f4 := lies_frozen LX.out 4
  have f5 := lies_frozen LX.out 5
  have f6 := lies_frozen LX.out 6
  have f7 := lies_frozen LX.out 7
  have f8 := lies_frozen LX.out 8
  have f9 := lies_frozen LX.out 9
  have f10 := lies_frozen LX.out 10
  have f11 := lies_frozen LX.out 11
  have f12 := lies_frozen LX.out 12
  have f13 := lies_frozen LX.out 13
  go_wp2
  (try simp only [Exit.inBlock, Exit.then])
  obtain ⟨k0, k1, k2, k3, k4, k5, k6, k7, k8, k9, k10, k11, k12, k13, _⟩ := read_14 (y0 := .int .i64 0) (y1 := .bool false) (y2 := .int .i64 0) (y3 := .int .i64 0) (y4 := .int .i64 0) (y5 := .int .u8 0) (y6 := .int .u8 0) (y7 := .int .u8 0) (y8 := .int .u8 0) (y9 := .int .u8 0) (y10 := .int .u8 0) (y11 := .int .u8 0) (y12 := .int .u8 0) (y13 := .string ⟨#[]⟩) LX.out
  refine bodyPost_ret (by simp [results, Try.results14, go_sem, k0, k1, k2, k3, k4, k5, k6, k7, k8, k9, k10, k11, k12, k13]; try rfl) rfl ?_
  exact ⟨rfl, below_14 F2.out (by omega) _ _ _ _ _ _ _ _ _ _ _ _ _ _⟩

theorem pkb_self (p : Pk) : pkb p p = true := (pkb_iff p p).2 rfl
theorem eq_zero (w : World) : (Go.Op.equalIn 10000 34 pkN.val (.agg #[.int .i64 0, .bool false, .int .i64 0, .int .i64 0, .int .i64 0, .int .u8 0, .int .u8 0, .int .u8 0, .int .u8 0, .int .u8 0, .int .u8 0, .int .u8 0, .int .u8 0, .string ⟨#[]⟩])).run Try.prog w = .ok true w := by
  have := eqP pkN pkN w
  rw [pkb_self] at this
  exact this
end Go.Proofs.Ytgdjcoodjdckkaa
