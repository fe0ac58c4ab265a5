/- For every tick and packet the law ReasmNil answers true: a nil table has nothing. No conditions. -/
import Derived.Test.YtgdjcoodjdckkaaRows
import Derived.Test.YtgdjcoodjdckkaaM9
import Derived.WalkKit
import Derived.Deep.RegionHeld3
import Derived.StillTailTactics
import Derived.ProofKit
import Derived.OpenShut
import Derived.ShutString
import Derived.ChangeOld
import Derived.Below
set_option linter.unusedVariables false
namespace Go.Proofs.Ytgdjcoodjdckkaa
open Go.ChangeShapes Go.WideShapes Go.ChangeAt Go.RowKit
open Go.ChangeMaps (open_string shut_string)
set_option linter.unusedVariables false

theorem reasmNil_own : ownKnob Try.prog.godebug = none := by kernel_rfl
theorem reasmNil_laid : laidOutB Try.prog = true := by kernel_rfl


open Go.Proofs.PitotIp Go.Maps
open Go.Proofs.PitotReasm (Bg Tb Fine bad first next passed passE put keep)
open Go.Proofs.Ytgdjcoodjdckkaa.Bi (lies_lt lies_cell lies_frozen lies_alloc lies_set)
set_option maxRecDepth 100000 in
set_option maxHeartbeats 4000000 in
theorem reasmNil_walk (n : Int) (_hn : (Lit.int .i64 n).wf = true) (id : Int) (m : Bool) (off ttl pr : Int) (a b : PitotIp.Q4) (s : ByteArray) (_hi : (Lit.int .i64 id).wf = true) (_ho : (Lit.int .i64 off).wf = true) (_ht : (Lit.int .i64 ttl).wf = true) (_hp : (Lit.int .i64 pr).wf = true) (hs : s.size ≤ maxLen) (w : World) :
    Calls Try.prog 7 #[.int .i64 n, pk id m off ttl pr a b s] w fun e w' => e = .returned (.bool true) ∧ Below w.heap.size w w' := by
  have kb : Hid (Below w.heap.size w (w.alloc (pkC id m off ttl pr a b s))) := (Below.refl _ w).alloc (Nat.le_refl _) _
  have L0 : Hid ((w.alloc (pkC id m off ttl pr a b s)).heap[w.heap.size]? = some (pkC id m off ttl pr a b s)) := heap_alloc_new w _
  have HA := Lib.hid awake_any
  have HP := Lib.hid (fun w => put_nil n ⟨id, m, off, ttl, pr, a, b, s⟩ w)
  have HT := Lib.hid (fun w => pass_nil w n)
  have HE := eq_zero
  obtain ⟨Z, HZ⟩ : ∃ Z, Hid (Z = pkN) := ⟨_, rfl⟩
  rw [← HZ.out] at HP HE
  by_cases hbig : 1000 < s.size
  · go_enter Try.func7, Try.ntmps7
    go_wp2_with (first
      | (go_at_call 11; (with_reducible refine (HA.out _).mono ?_); rintro e w2 ⟨rfl, hb2⟩))
    go_returns
    exact ⟨rfl, kb.out.trans (hb2.mono kb.out.size)⟩
  · go_enter Try.func7, Try.ntmps7
    go_upto_region 5 with (first
      | (go_at_call 14; (with_reducible refine (HP.out _).mono ?_); rintro e V1 ⟨rfl, hb1⟩
         (have K1 := Lib.hid (kb.out.trans (hb1.mono kb.out.size)))
         (clear hb1)))
    have K2 : Hid (Below w.heap.size w (V1.alloc Z.obj)) := K1.out.alloc K1.out.size _
    have LZ : Hid ((V1.alloc Z.obj).heap[V1.heap.size]? = some Z.obj) := heap_alloc_new V1 _
    generalize V1.alloc Z.obj = W1 at K2 LZ ⊢
    obtain ⟨d0, d1, d2, d3, d4, d5, d6, d7, d8, d9, d10, d11, d12, d13⟩ := cells14 LZ.out
    go_wp2_with (first
      | (go_at_call 12; (with_reducible refine (HT.out _).mono ?_); rintro e w2 ⟨rfl, rfl⟩)
      | (go_at_call 17; (with_reducible refine (keys_nil _).mono ?_); rintro e w2 ⟨rfl, rfl⟩)
      | (go_at_call 18; (with_reducible refine (dropped_nil _).mono ?_); rintro e w2 ⟨rfl, rfl⟩)
      | (go_at_call 11; (with_reducible refine (HA.out _).mono ?_); rintro e w2 ⟨rfl, hb2⟩))
    go_returns
    exact ⟨rfl, K2.out.trans (hb2.mono K2.out.size)⟩


set_option maxRecDepth 100000 in
theorem reasmNil_lifted (os : Os) (started : os.Started) (H : Type) (enc : TypeId × Value → H) :
    ReturnsInHanded {} Try.checked os 7 .any (Rows.reasmNilSpec.pre6 enc Try.prog Try.f7 Rows.reasmNilRow.domain false) (Rows.reasmNilSpec.post enc Try.prog Try.f7 false true false false) := by
  refine returnsInHanded_of_change (C := Try.checked) reasmNil_own started (by kernel_rfl) Try.func7
    (ChangeSpec.witness6 (enc := enc) (C := Try.checked) false ⟨#[], #[.int .i64 0, .agg #[.int .i64 0, .bool false, .int .i64 0, .int .i64 0, .int .i64 0, .int .u8 0, .int .u8 0, .int .u8 0, .int .u8 0, .int .u8 0, .int .u8 0, .int .u8 0, .int .u8 0, .string ByteArray.empty]], []⟩ 8 (by kernel_rfl) (by kernel_rfl) (by kernel_rfl) (by kernel_rfl)) ?_
  intro W base args ds gs before hval0 hW hcnd _
  have hval : ∀ (j : Nat) t v, Try.f7.params[j]? = some t → args[j]? = some v → Value.okWide Try.prog W .any base t v := hval0
  have hW' := hW
  obtain ⟨p, q, hA0, hV, rfl, hfz, hnd⟩ := hW
  have hA : DataW.TrodAll enc Try.prog W 0 (fun _ => true) true Try.f7.params.toList args.toList ds p := hA0
  rw [Try.params7] at hA hval
  obtain ⟨v0, vs0, d0, ds0, p0, q0, hargs, rfl, rfl, h0, r0⟩ := trodAll_cons hA
  obtain ⟨v1, vs1, d1, ds1, p1, q1, rfl, rfl, rfl, h1, r1⟩ := trodAll_cons r0
  obtain ⟨rfl, rfl, rfl⟩ := trodAll_nil r1
  obtain rfl : args = #[v0, v1] := by cases args; simp_all
  obtain ⟨rfl, rfl⟩ := trodVars_none hV
  obtain ⟨a0, rfl, rfl, rfl, w0⟩ := open_int Try.underlying3 (hval 0 3 v0 rfl rfl) h0
  have k1 := h1
  have lt1 : ∀ x ∈ p1, x.block < W.heap.size := by obtain ⟨m, hm⟩ := k1; exact DataW.trod_lt m _ _ _ hm
  obtain ⟨fu1, hf1⟩ := h1
  obtain ⟨fi1, fm1, fo1, ft1, fp1, fa1, fb1, fs1, gi1, go1, gt1, gp1, gs1, rfl⟩ := packet_open (hval 1 34 v1 rfl rfl) hf1
  clear hA0 hval0
  have hwalk := reasmNil_walk a0 w0 fi1 fm1 fo1 ft1 fp1 fa1 fb1 fs1 gi1 go1 gt1 gp1 gs1 W

  refine hwalk.mono fun e W' ⟨he, bel⟩ => ?_
  subst he
  exact ⟨_, rfl, _, _, _, [], _, [], hW', trodAll_mk1 (shut_bool Try.underlying4 _), (trodAll_cons_mk (shut_int Try.underlying3 w0) (trodAll_cons_mk (Below.trod reasmNil_laid (by kernel_rfl) (of_decide_eq_true (by kernel_rfl)) k1 bel lt1) trodAll_mk0)), rfl, bel.frame _, fun h => by cases h⟩

theorem reasmNil_over : Rows.reasmNilRow.holds Try.pinned (OpenSpec.ofChange Rows.reasmNilSpec) :=
  OpenClaim.holds_of_wide 7 Try.f7 rfl rfl rfl rfl rfl rfl rfl ⟨rfl, rfl, rfl, rfl, rfl⟩ rfl rfl rfl rfl rfl (by kernel_rfl) Try.func7 (by kernel_rfl)
    (of_decide_eq_true (by kernel_rfl)) (by unfold Func.isWrapper; first | (rw [if_pos (by decide +kernel)]; kernel_rfl) | (rw [if_neg (by decide +kernel)]; exact ⟨rfl, rfl⟩))
    (fun os started H enc _ => reasmNil_lifted os started H enc)

theorem reasmNil_holds : Rows.ReasmNilSaid := reasmNil_over
#print axioms reasmNil_holds
end Go.Proofs.Ytgdjcoodjdckkaa
