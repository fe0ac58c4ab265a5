/- For every packet the law Ipv4Encodes answers true: the program's Encode answers as the document's. No conditions. -/
import Derived.Test.YtneiemaepdknjaaRows
import Derived.Test.YtneiemaepdknjaaEx
import Derived.Test.YtneiemaepdknjaaPo
import Derived.Test.YtneiemaepdknjaaRe
import Derived.Test.YtneiemaepdknjaaPl
import Derived.WalkKit
import Derived.ProofKit
import Derived.OpenShut
import Derived.ShutString
import Derived.ChangeOld
import Derived.Below
namespace Go.Proofs.Ytneiemaepdknjaa
open Go.ChangeShapes Go.WideShapes Go.ChangeAt Go.RowKit
open Go.ChangeMaps (open_string shut_string)
set_option linter.unusedVariables false

theorem ipv4Encodes_own : ownKnob Try.prog.godebug = none := by kernel_rfl
theorem ipv4Encodes_laid : laidOutB Try.prog = true := by kernel_rfl


open Go.Proofs.PitotIp
set_option maxRecDepth 100000 in
set_option maxHeartbeats 2000000 in
theorem ipv4Encodes_walk (id : Int) (m : Bool) (off ttl pr : Int) (a b : PitotIp.Q4) (s : ByteArray) (_hi : (Lit.int .i64 id).wf = true) (_ho : (Lit.int .i64 off).wf = true) (_ht : (Lit.int .i64 ttl).wf = true) (_hp : (Lit.int .i64 pr).wf = true) (hs : s.size ≤ maxLen) (w : World) :
    Calls Try.prog 3 #[pk id m off ttl pr a b s] w fun e w' => e = .returned (.bool true) ∧ Below w.heap.size w w' := by
  unfold maxLen at hs
  clear _hi _ho _ht _hp
  by_cases hbig : 70000 < s.size
  · go_enter Try.func3, Try.ntmps3
    go_wp2_with (go_at_call 9; (with_reducible refine (awake_any _).mono ?_); rintro e w1 ⟨rfl, hb1⟩)
    go_returns
    exact ⟨rfl, ((Below.refl _ w).alloc (Nat.le_refl _) _).trans (hb1.mono (by simp))⟩
  · obtain ⟨S, e, H0, H1⟩ := enc_both id m off ttl pr a b s (by omega)
    have H2 := plain_false id m off ttl pr a b s
    have HA := Lib.hid H0; have HB := Lib.hid H1; have HC := Lib.hid H2
    clear H0 H1 H2
    generalize ipB a = A at HB HC
    generalize ipB b = B at HB HC
    go_enter Try.func3, Try.ntmps3
    go_wp2_with (first
      | (go_at_call 10; (with_reducible refine (HA.out _).mono ?_); rintro r w1 ⟨rfl, hb1⟩
         (have L1 := lies_below (heap_alloc_new w (pkC id m off ttl pr a b s)) hb1 (by simp))
         (obtain ⟨c0, c1, c2, c3, c4, c5, c6, c7, c8, c9, c10, c11, c12, c13⟩ := cells14 L1)
         (clear L1))
      | (go_at_call 12; (with_reducible refine (HC.out _).mono ?_); rintro r w2 ⟨rfl, hb2⟩)
      | (go_at_call 11; (with_reducible refine (HB.out _).mono ?_); rintro r w3 ⟨rfl, hb3⟩)
      | (go_at_call 9; (with_reducible refine (awake_any _).mono ?_); rintro r w4 ⟨rfl, hb4⟩))
    go_returns
    have k1 : Below w.heap.size w w1 := ((Below.refl _ w).alloc (Nat.le_refl _) _).trans (hb1.mono (by simp))
    have k2 := k1.trans (hb2.mono k1.size)
    have k3 := k2.trans (hb3.mono k2.size)
    exact ⟨rfl, k3.trans (hb4.mono k3.size)⟩


set_option maxRecDepth 100000 in
theorem ipv4Encodes_lifted (os : Os) (started : os.Started) (H : Type) (enc : TypeId × Value → H) :
    ReturnsInHanded {} Try.checked os 3 .any (Rows.ipv4EncodesSpec.pre6 enc Try.prog Try.f3 Rows.ipv4EncodesRow.domain false) (Rows.ipv4EncodesSpec.post enc Try.prog Try.f3 false true false false) := by
  refine returnsInHanded_of_change (C := Try.checked) ipv4Encodes_own started (by kernel_rfl) Try.func3
    (ChangeSpec.witness6 (enc := enc) (C := Try.checked) false ⟨#[], #[.agg #[.int .i64 0, .bool false, .int .i64 0, .int .i64 0, .int .i64 0, .int .u8 0, .int .u8 0, .int .u8 0, .int .u8 0, .int .u8 0, .int .u8 0, .int .u8 0, .int .u8 0, .string ByteArray.empty]], []⟩ 8 (by kernel_rfl) (by kernel_rfl) (by kernel_rfl) (by kernel_rfl)) ?_
  intro W base args ds gs before hval0 hW hcnd _
  have hval : ∀ (j : Nat) t v, Try.f3.params[j]? = some t → args[j]? = some v → Value.okWide Try.prog W .any base t v := hval0
  have hW' := hW
  obtain ⟨p, q, hA0, hV, rfl, hfz, hnd⟩ := hW
  have hA : DataW.TrodAll enc Try.prog W 0 (fun _ => true) true Try.f3.params.toList args.toList ds p := hA0
  rw [Try.params3] at hA hval
  obtain ⟨v0, vs0, d0, ds0, p0, q0, hargs, rfl, rfl, h0, r0⟩ := trodAll_cons hA
  obtain ⟨rfl, rfl, rfl⟩ := trodAll_nil r0
  obtain rfl : args = #[v0] := by cases args; simp_all
  obtain ⟨rfl, rfl⟩ := trodVars_none hV
  have k0 := h0
  have lt0 : ∀ x ∈ p0, x.block < W.heap.size := by obtain ⟨m, hm⟩ := k0; exact DataW.trod_lt m _ _ _ hm
  obtain ⟨fu0, hf0⟩ := h0
  obtain ⟨fi0, fm0, fo0, ft0, fp0, fa0, fb0, fs0, gi0, go0, gt0, gp0, gs0, rfl⟩ := packet_open (hval 0 25 v0 rfl rfl) hf0
  clear hA0 hval0
  have hwalk := ipv4Encodes_walk fi0 fm0 fo0 ft0 fp0 fa0 fb0 fs0 gi0 go0 gt0 gp0 gs0 W

  refine hwalk.mono fun e W' ⟨he, bel⟩ => ?_
  subst he
  exact ⟨_, rfl, _, _, _, [], _, [], hW', trodAll_mk1 (shut_bool Try.underlying4 _), (trodAll_cons_mk (Below.trod ipv4Encodes_laid (by kernel_rfl) (of_decide_eq_true (by kernel_rfl)) k0 bel lt0) trodAll_mk0), rfl, bel.frame _, fun h => by cases h⟩

theorem ipv4Encodes_over : Rows.ipv4EncodesRow.holds Try.pinned (OpenSpec.ofChange Rows.ipv4EncodesSpec) :=
  OpenClaim.holds_of_wide 3 Try.f3 rfl rfl rfl rfl rfl rfl rfl ⟨rfl, rfl, rfl, rfl, rfl⟩ rfl rfl rfl rfl rfl (by kernel_rfl) Try.func3 (by kernel_rfl)
    (of_decide_eq_true (by kernel_rfl)) (by unfold Func.isWrapper; first | (rw [if_pos (by decide +kernel)]; kernel_rfl) | (rw [if_neg (by decide +kernel)]; exact ⟨rfl, rfl⟩))
    (fun os started H enc _ => ipv4Encodes_lifted os started H enc)

theorem ipv4Encodes_holds : Rows.Ipv4EncodesSaid := ipv4Encodes_over
#print axioms ipv4Encodes_holds
end Go.Proofs.Ytneiemaepdknjaa
