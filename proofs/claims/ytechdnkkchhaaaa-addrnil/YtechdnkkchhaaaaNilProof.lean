/- For every address and number the law AddrNil answers true: where there is no book, it has nothing. No conditions. -/
import Derived.Test.YtechdnkkchhaaaaRows
import Derived.Test.YtechdnkkchhaaaaAw
import Derived.Test.YtechdnkkchhaaaaAo
import Derived.Test.YtechdnkkchhaaaaNl
import Derived.WalkKit
import Derived.ProofKit
import Derived.OpenShut
import Derived.ShutString
import Derived.ChangeOld
import Derived.Below
namespace Go.Proofs.Ytechdnkkchhaaaa
open Go.ChangeShapes Go.WideShapes Go.ChangeAt Go.RowKit
open Go.ChangeMaps (open_string shut_string)
set_option linter.unusedVariables false

theorem addrNil_own : ownKnob Try.prog.godebug = none := by kernel_rfl
theorem addrNil_laid : laidOutB Try.prog = true := by kernel_rfl

theorem bstep' {w w1 w2 : World} (h : Below w.heap.size w w1) (g : Below w1.heap.size w1 w2) : Below w.heap.size w w2 := h.trans (g.mono h.size)
open Go.Proofs.PitotAddr in
set_option maxRecDepth 100000 in
set_option maxHeartbeats 2000000 in
theorem addrNil_walk (a b c d e f : UInt8) (n : Int) (_hn : (Lit.int .i64 n).wf = true) (w : World) :
    Calls Try.prog 8 #[mac a b c d e f, .int .i64 n] w fun e w' => e = .returned (.bool true) ∧ Below w.heap.size w w' := by
  clear _hn
  go_enter Try.func8, Try.ntmps8
  go_wp2_with (first
    | (go_at_call 32; (with_reducible refine (put_nil a b c d e f n _).mono ?_); rintro r w1 ⟨rfl, hb⟩
       (have LX := lies_below (heap_alloc_new w _) hb (by simp)); (obtain ⟨i0, i1, i2, i3, i4, i5⟩ := six LX); (have LX := Lib.hid LX)
       (have BX := Lib.hid (bstep' (below_new (Below.refl _ w) _) hb)); clear hb)
    | (go_at_call 34; (with_reducible refine (get_nil a b c d e f _).mono ?_); rintro r w2 ⟨rfl, hb⟩
       (have LX := lies_below LX.out hb (lies_lt LX.out)); (obtain ⟨j0, j1, j2, j3, j4, j5⟩ := six LX); (have LX := Lib.hid LX)
       (have BX := Lib.hid (bstep' BX.out hb)); clear hb)
    | (go_at_call 36; (with_reducible refine (drop_nil a b c d e f _).mono ?_); rintro r w3 ⟨rfl, hb⟩
       (have BX := Lib.hid (bstep' BX.out hb)); clear hb)
    | (go_at_call 38; (with_reducible refine (all_nil _).mono ?_); rintro r w4 ⟨rfl, rfl⟩)
    | (go_at_call 20; (with_reducible refine (awake_any _).mono ?_); rintro r w5 ⟨rfl, hb⟩
       (have BX := Lib.hid (bstep' BX.out hb)); clear hb))
  go_returns
  exact ⟨rfl, BX.out⟩

set_option maxRecDepth 100000 in
theorem addrNil_lifted (os : Os) (started : os.Started) (H : Type) (enc : TypeId × Value → H) :
    ReturnsInHanded {} Try.checked os 8 .any (Rows.addrNilSpec.pre6 enc Try.prog Try.f8 Rows.addrNilRow.domain false) (Rows.addrNilSpec.post enc Try.prog Try.f8 false true false false) := by
  refine returnsInHanded_of_change (C := Try.checked) addrNil_own started (by kernel_rfl) Try.func8
    (ChangeSpec.witness6 (enc := enc) (C := Try.checked) false ⟨#[], #[.agg #[.int .u8 0, .int .u8 0, .int .u8 0, .int .u8 0, .int .u8 0, .int .u8 0], .int .i64 0], []⟩ 8 (by kernel_rfl) (by kernel_rfl) (by kernel_rfl) (by kernel_rfl)) ?_
  intro W base args ds gs before hval0 hW hcnd _
  have hval : ∀ (j : Nat) t v, Try.f8.params[j]? = some t → args[j]? = some v → Value.okWide Try.prog W .any base t v := hval0
  have hW' := hW
  obtain ⟨p, q, hA0, hV, rfl, hfz, hnd⟩ := hW
  have hA : DataW.TrodAll enc Try.prog W 0 (fun _ => true) true Try.f8.params.toList args.toList ds p := hA0
  rw [Try.params8] at hA hval
  obtain ⟨v0, vs0, d0, ds0, p0, q0, hargs, rfl, rfl, h0, r0⟩ := trodAll_cons hA
  obtain ⟨v1, vs1, d1, ds1, p1, q1, rfl, rfl, rfl, h1, r1⟩ := trodAll_cons r0
  obtain ⟨rfl, rfl, rfl⟩ := trodAll_nil r1
  obtain rfl : args = #[v0, v1] := by cases args; simp_all
  obtain ⟨rfl, rfl⟩ := trodVars_none hV
  have k0 := h0
  have lt0 : ∀ x ∈ p0, x.block < W.heap.size := by obtain ⟨m, hm⟩ := k0; exact DataW.trod_lt m _ _ _ hm
  obtain ⟨fu0, hf0⟩ := h0
  obtain ⟨a0, b0, c0, d0, e0, f0, rfl⟩ := mac_open (hval 0 23 v0 rfl rfl) hf0
  obtain ⟨a1, rfl, rfl, rfl, w1⟩ := open_int Try.underlying3 (hval 1 3 v1 rfl rfl) h1
  clear hA0 hval0
  have hwalk := addrNil_walk a0 b0 c0 d0 e0 f0 a1 w1 W

  refine hwalk.mono fun e W' ⟨he, bel⟩ => ?_
  subst he
  exact ⟨_, rfl, _, _, _, [], _, [], hW', trodAll_mk1 (shut_bool Try.underlying4 _), (trodAll_cons_mk (Below.trod addrNil_laid (by kernel_rfl) (of_decide_eq_true (by kernel_rfl)) k0 bel lt0) (trodAll_cons_mk (shut_int Try.underlying3 w1) trodAll_mk0)), rfl, bel.frame _, fun h => by cases h⟩

theorem addrNil_over : Rows.addrNilRow.holds Try.pinned (OpenSpec.ofChange Rows.addrNilSpec) :=
  OpenClaim.holds_of_wide 8 Try.f8 rfl rfl rfl rfl rfl rfl rfl ⟨rfl, rfl, rfl, rfl, rfl⟩ rfl rfl rfl rfl rfl (by kernel_rfl) Try.func8 (by kernel_rfl)
    (of_decide_eq_true (by kernel_rfl)) (by unfold Func.isWrapper; first | (rw [if_pos (by decide +kernel)]; kernel_rfl) | (rw [if_neg (by decide +kernel)]; exact ⟨rfl, rfl⟩))
    (fun os started H enc _ => addrNil_lifted os started H enc)

theorem addrNil_holds : Rows.AddrNilSaid := addrNil_over
#print axioms addrNil_holds
end Go.Proofs.Ytechdnkkchhaaaa
