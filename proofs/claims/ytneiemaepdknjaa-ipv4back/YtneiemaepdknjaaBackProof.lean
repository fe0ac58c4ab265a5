/- For every packet and bytes behind it the law Ipv4Back answers true: what was encoded is decoded, whatever is behind it. No conditions. -/
import Derived.Test.YtneiemaepdknjaaRows
import Derived.Test.YtneiemaepdknjaaEx
import Derived.Test.YtneiemaepdknjaaPo
import Derived.Test.YtneiemaepdknjaaEq
import Derived.WalkKit
import Derived.ProofKit
import Derived.OpenShut
import Derived.ShutString
import Derived.ChangeOld
import Derived.Below
namespace Go.Proofs.Ytneiemaepdknjaa
open Go.ChangeShapes Go.WideShapes Go.ChangeAt Go.RowKit
open Go.ChangeMaps (open_string shut_string)
set_option linter.unusedVariables false

theorem ipv4Back_own : ownKnob Try.prog.godebug = none := by kernel_rfl
theorem ipv4Back_laid : laidOutB Try.prog = true := by kernel_rfl


open Go.Proofs.PitotIp
set_option maxRecDepth 100000 in
set_option maxHeartbeats 2000000 in
theorem ipv4Back_walk (id : Int) (m : Bool) (off ttl pr : Int) (a b : PitotIp.Q4) (s : ByteArray) (_hi : (Lit.int .i64 id).wf = true) (_ho : (Lit.int .i64 off).wf = true) (_ht : (Lit.int .i64 ttl).wf = true) (_hp : (Lit.int .i64 pr).wf = true) (hs : s.size ≤ maxLen) (rest : ByteArray) (hr : rest.size ≤ maxLen) (w : World) :
    Calls Try.prog 5 #[pk id m off ttl pr a b s, .string rest] w fun e w' => e = .returned (.bool true) ∧ Below w.heap.size w w' := by
  unfold maxLen at hs hr
  clear _hi _ho _ht _hp
  by_cases hbig : 5000 < s.size
  · go_enter Try.func5, Try.ntmps5
    go_wp2_with (go_at_call 9; (with_reducible refine (awake_any _).mono ?_); rintro e w1 ⟨rfl, hb1⟩)
    go_returns
    exact ⟨rfl, ((Below.refl _ w).alloc (Nat.le_refl _) _).trans (hb1.mono (by simp))⟩
  · by_cases hbig2 : 1000 < rest.size
    · go_enter Try.func5, Try.ntmps5
      go_wp2_with (go_at_call 9; (with_reducible refine (awake_any _).mono ?_); rintro e w1 ⟨rfl, hb1⟩)
      go_returns
      exact ⟨rfl, ((Below.refl _ w).alloc (Nat.le_refl _) _).trans (hb1.mono (by simp))⟩
    · rcases enc_cases id m off ttl pr a b s (by omega) with ⟨e, he, H⟩ | ⟨i, o, t, p, rfl, rfl, rfl, rfl, hmay⟩
      · have H10 := Lib.hid H; clear H
        have he0 : ((e : Int) != 0) = true := by simpa using he
        have he1 : ¬ (e : Int) = 0 := he
        clear he
        go_enter Try.func5, Try.ntmps5
        go_wp2_with (first
          | (go_at_call 10; (with_reducible refine (H10.out _).mono ?_); rintro r w1 ⟨rfl, hb1⟩)
          | (go_at_call 9; (with_reducible refine (awake_any _).mono ?_); rintro r w2 ⟨rfl, hb2⟩))
        go_returns
        have k1 : Below w.heap.size w w1 := ((Below.refl _ w).alloc (Nat.le_refl _) _).trans (hb1.mono (by simp))
        exact ⟨rfl, k1.trans (hb2.mono k1.size)⟩
      · have H10 := Lib.hid (fun w => encode_ok i m o t p a b s w hmay)
        have H13 := Lib.hid (fun w => dec_back i m o t p a b s rest hmay (by omega) w)
        have hB := outB_size i m o t p a b s
        obtain ⟨B, HB⟩ : ∃ B, Hid (B = outB i m o t p a b s) := ⟨_, rfl⟩
        rw [← HB.out] at H10 H13 hB
        clear hmay
        have hqa := same9 a
        have hqb := same9 b
        go_enter Try.func5, Try.ntmps5
        go_wp2_with (first
          | (go_at_call 10; (with_reducible refine (H10.out _).mono ?_); rintro r w1 ⟨rfl, hb1⟩
             (have L1 := lies_below (heap_alloc_new w (pkC i m o t p a b s)) hb1 (by simp))
             (obtain ⟨c0, c1, c2, c3, c4, c5, c6, c7, c8, c9, c10, c11, c12, c13⟩ := cells14 L1)
             (have L1 := Lib.hid L1))
          | (go_at_call 13; (with_reducible refine (H13.out _).mono ?_); rintro r w2 ⟨rfl, hb2⟩
             (have L2 := fun o => Bi.lies_alloc (lies_below L1.out hb2 (Bi.lies_lt L1.out)) o)
             (obtain ⟨d0, d1, d2, d3, d4, d5, d6, d7, d8, d9, d10, d11, d12, d13⟩ := cells14 (L2 (pkC i m o t p a b s)))
             (clear L2))
          | (go_at_call 9; (with_reducible refine (awake_any _).mono ?_); rintro r w3 ⟨rfl, hb3⟩))
        go_returns
        have k1 : Below w.heap.size w w1 := ((Below.refl _ w).alloc (Nat.le_refl _) _).trans (hb1.mono (by simp))
        have k2 := k1.trans (hb2.mono k1.size)
        have k3 := k2.alloc k2.size (pkC i m o t p a b s)
        exact ⟨rfl, k3.trans (hb3.mono k3.size)⟩


set_option maxRecDepth 100000 in
theorem ipv4Back_lifted (os : Os) (started : os.Started) (H : Type) (enc : TypeId × Value → H) :
    ReturnsInHanded {} Try.checked os 5 .any (Rows.ipv4BackSpec.pre6 enc Try.prog Try.f5 Rows.ipv4BackRow.domain false) (Rows.ipv4BackSpec.post enc Try.prog Try.f5 false true false false) := by
  refine returnsInHanded_of_change (C := Try.checked) ipv4Back_own started (by kernel_rfl) Try.func5
    (ChangeSpec.witness6 (enc := enc) (C := Try.checked) false ⟨#[], #[.agg #[.int .i64 0, .bool false, .int .i64 0, .int .i64 0, .int .i64 0, .int .u8 0, .int .u8 0, .int .u8 0, .int .u8 0, .int .u8 0, .int .u8 0, .int .u8 0, .int .u8 0, .string ByteArray.empty], .string ByteArray.empty], []⟩ 8 (by kernel_rfl) (by kernel_rfl) (by kernel_rfl) (by kernel_rfl)) ?_
  intro W base args ds gs before hval0 hW hcnd _
  have hval : ∀ (j : Nat) t v, Try.f5.params[j]? = some t → args[j]? = some v → Value.okWide Try.prog W .any base t v := hval0
  have hW' := hW
  obtain ⟨p, q, hA0, hV, rfl, hfz, hnd⟩ := hW
  have hA : DataW.TrodAll enc Try.prog W 0 (fun _ => true) true Try.f5.params.toList args.toList ds p := hA0
  rw [Try.params5] at hA hval
  obtain ⟨v0, vs0, d0, ds0, p0, q0, hargs, rfl, rfl, h0, r0⟩ := trodAll_cons hA
  obtain ⟨v1, vs1, d1, ds1, p1, q1, rfl, rfl, rfl, h1, r1⟩ := trodAll_cons r0
  obtain ⟨rfl, rfl, rfl⟩ := trodAll_nil r1
  obtain rfl : args = #[v0, v1] := by cases args; simp_all
  obtain ⟨rfl, rfl⟩ := trodVars_none hV
  have k0 := h0
  have lt0 : ∀ x ∈ p0, x.block < W.heap.size := by obtain ⟨m, hm⟩ := k0; exact DataW.trod_lt m _ _ _ hm
  obtain ⟨fu0, hf0⟩ := h0
  obtain ⟨fi0, fm0, fo0, ft0, fp0, fa0, fb0, fs0, gi0, go0, gt0, gp0, gs0, rfl⟩ := packet_open (hval 0 25 v0 rfl rfl) hf0
  obtain ⟨a1, rfl, rfl, rfl, w1⟩ := open_string Try.underlying9 (hval 1 9 v1 rfl rfl) h1
  clear hA0 hval0
  have hwalk := ipv4Back_walk fi0 fm0 fo0 ft0 fp0 fa0 fb0 fs0 gi0 go0 gt0 gp0 gs0 a1 w1 W

  refine hwalk.mono fun e W' ⟨he, bel⟩ => ?_
  subst he
  exact ⟨_, rfl, _, _, _, [], _, [], hW', trodAll_mk1 (shut_bool Try.underlying4 _), (trodAll_cons_mk (Below.trod ipv4Back_laid (by kernel_rfl) (of_decide_eq_true (by kernel_rfl)) k0 bel lt0) (trodAll_cons_mk (shut_string Try.underlying9 w1) trodAll_mk0)), rfl, bel.frame _, fun h => by cases h⟩

theorem ipv4Back_over : Rows.ipv4BackRow.holds Try.pinned (OpenSpec.ofChange Rows.ipv4BackSpec) :=
  OpenClaim.holds_of_wide 5 Try.f5 rfl rfl rfl rfl rfl rfl rfl ⟨rfl, rfl, rfl, rfl, rfl⟩ rfl rfl rfl rfl rfl (by kernel_rfl) Try.func5 (by kernel_rfl)
    (of_decide_eq_true (by kernel_rfl)) (by unfold Func.isWrapper; first | (rw [if_pos (by decide +kernel)]; kernel_rfl) | (rw [if_neg (by decide +kernel)]; exact ⟨rfl, rfl⟩))
    (fun os started H enc _ => ipv4Back_lifted os started H enc)

theorem ipv4Back_holds : Rows.Ipv4BackSaid := ipv4Back_over
#print axioms ipv4Back_holds
end Go.Proofs.Ytneiemaepdknjaa
