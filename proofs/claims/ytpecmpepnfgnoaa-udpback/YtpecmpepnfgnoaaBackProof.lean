/- For every ends and data the law UdpBack answers true: what was encoded is decoded by the same addresses. No conditions. -/
import Derived.Test.YtpecmpepnfgnoaaRows
import Derived.Test.YtpecmpepnfgnoaaEx
import Derived.Test.YtpecmpepnfgnoaaPo
import Derived.WalkKit
import Derived.Deep.RegionHeld3
import Derived.ProofKit
import Derived.OpenShut
import Derived.ShutString
import Derived.ChangeOld
import Derived.Below
namespace Go.Proofs.Ytpecmpepnfgnoaa
open Go.ChangeShapes Go.WideShapes Go.ChangeAt Go.RowKit
open Go.ChangeMaps (open_string shut_string)
set_option linter.unusedVariables false

theorem udpBack_own : ownKnob Try.prog.godebug = none := by kernel_rfl
theorem udpBack_laid : laidOutB Try.prog = true := by kernel_rfl


open Go.Proofs.PitotIp
open Go.Proofs.Ytpecmpepnfgnoaa.Bi (lies_lt lies_cell lies_frozen lies_alloc)
set_option maxRecDepth 100000 in
set_option maxHeartbeats 4000000 in
theorem udpBack_walk (a b : PitotIp.Q4) (f t : Int) (_hf : (Lit.int .i64 f).wf = true) (_ht : (Lit.int .i64 t).wf = true) (s : ByteArray) (hs : s.size ≤ maxLen) (w : World) :
    Calls Try.prog 5 #[en a b f t, .string s] w fun e w' => e = .returned (.bool true) ∧ Below w.heap.size w w' := by
  unfold maxLen at hs
  clear _hf _ht
  have K0 : Hid (Below w.heap.size w (w.alloc (enC a b f t))) := (Below.refl _ w).alloc (Nat.le_refl _) _
  rcases enc_cases a b f t s (by omega) with ⟨e, he, he', H⟩ | ⟨f, t, rfl, rfl, hmay⟩
  · have H10 := Lib.hid H; clear H
    have he0 : ((e : Int) != 0) = true := by simpa using he
    have he1 : ¬ (e : Int) = 0 := he
    clear he he'
    go_enter Try.func5, Try.ntmps5
    go_wp2_with (first
      | (go_at_call 10; (with_reducible refine (H10.out _).mono ?_); rintro r w1 ⟨rfl, hb1⟩)
      | (go_at_call 9; (with_reducible refine (awake_any _).mono ?_); rintro r w2 ⟨rfl, hb2⟩))
    go_returns
    have k1 : Below w.heap.size w w1 := K0.out.trans (hb1.mono K0.out.size)
    exact ⟨rfl, k1.trans (hb2.mono k1.size)⟩
  · have H10 := Lib.hid (fun w => encode_ok a b f t s w hmay)
    have H13 := Lib.hid (fun w => dec_back a b f t s hmay w)
    have hB := outB_size a b f t s
    have hd := hmay.d
    obtain ⟨B, HB⟩ : ∃ B, Hid (B = outB a b f t s) := ⟨_, rfl⟩
    rw [← HB.out] at H10 H13 hB
    clear hmay
    have hB2 : (B.size : Int) = (s.size : Int) + 8 := by omega
    have hqa := same9 a
    have hqb := same9 b
    clear hB
    go_enter Try.func5, Try.ntmps5
    go_wp2_with (first
      | (go_at_call 10; (with_reducible refine (H10.out _).mono ?_); rintro r w1 ⟨rfl, hb1⟩
         (have L1 := lies_below (heap_alloc_new w (enC a b f t)) hb1 (by simp))
         (obtain ⟨c0, c1, c2, c3, c4, c5, c6, c7, c8, c9⟩ := cells10 L1)
         (have L1 := Lib.hid L1))
      | (go_at_call 13; (with_reducible refine (H13.out _).mono ?_); rintro r w2 ⟨rfl, hb2⟩
         (have L2 := fun o => lies_alloc (lies_below L1.out hb2 (lies_lt L1.out)) o)
         (obtain ⟨d0, d1, d2, d3, d4, d5, d6, d7, d8, d9⟩ := cells10 (L2 (enC a b f t)))
         (clear L2))
      | (go_at_call 9; (with_reducible refine (awake_any _).mono ?_); rintro r w3 ⟨rfl, hb3⟩))
    go_returns
    have k1 : Below w.heap.size w w1 := K0.out.trans (hb1.mono K0.out.size)
    have k2 := k1.trans (hb2.mono k1.size)
    have k3 := k2.alloc k2.size (enC a b f t)
    exact ⟨rfl, k3.trans (hb3.mono k3.size)⟩


set_option maxRecDepth 100000 in
theorem udpBack_lifted (os : Os) (started : os.Started) (H : Type) (enc : TypeId × Value → H) :
    ReturnsInHanded {} Try.checked os 5 .any (Rows.udpBackSpec.pre6 enc Try.prog Try.f5 Rows.udpBackRow.domain false) (Rows.udpBackSpec.post enc Try.prog Try.f5 false true false false) := by
  refine returnsInHanded_of_change (C := Try.checked) udpBack_own started (by kernel_rfl) Try.func5
    (ChangeSpec.witness6 (enc := enc) (C := Try.checked) false ⟨#[], #[.agg #[.int .u8 0, .int .u8 0, .int .u8 0, .int .u8 0, .int .u8 0, .int .u8 0, .int .u8 0, .int .u8 0, .int .i64 0, .int .i64 0], .string ByteArray.empty], []⟩ 8 (by kernel_rfl) (by kernel_rfl) (by kernel_rfl) (by kernel_rfl)) ?_
  intro W base args ds gs before hval0 hW hcnd _
  have hval : ∀ (j : Nat) t v, Try.f5.params[j]? = some t → args[j]? = some v → Value.okWide Try.prog W .any base t v := hval0
  have hW' := hW
  obtain ⟨p, q, hA0, hV, rfl, hfz, hnd⟩ := hW
  have hA : DataW.TrodAll enc Try.prog W 0 (fun _ => true) true Try.f5.params.toList args.toList ds p := hA0
  rw [Try.params5] at hA hval
  obtain ⟨v0, vs0, d0, ds0, p0, q0, hargs, rfl, rfl, h0, r0⟩ := trodAll_cons hA
  obtain ⟨v1, vs1, d1, ds1, p1, q1, rfl, rfl, rfl, h1, r1⟩ := trodAll_cons r0
  obtain ⟨rfl, rfl, rfl⟩ := trodAll_nil r1
  obtain rfl : args = #[v0, v1] := by cases args; simp_all
  obtain ⟨rfl, rfl⟩ := trodVars_none hV
  have k0 := h0
  have lt0 : ∀ x ∈ p0, x.block < W.heap.size := by obtain ⟨m, hm⟩ := k0; exact DataW.trod_lt m _ _ _ hm
  obtain ⟨fu0, hf0⟩ := h0
  obtain ⟨fa0, fb0, ff0, ft0, gf0, gt0, rfl⟩ := ends_open (hval 0 25 v0 rfl rfl) hf0
  obtain ⟨a1, rfl, rfl, rfl, w1⟩ := open_string Try.underlying9 (hval 1 9 v1 rfl rfl) h1
  clear hA0 hval0
  have hwalk := udpBack_walk fa0 fb0 ff0 ft0 gf0 gt0 a1 w1 W

  refine hwalk.mono fun e W' ⟨he, bel⟩ => ?_
  subst he
  exact ⟨_, rfl, _, _, _, [], _, [], hW', trodAll_mk1 (shut_bool Try.underlying4 _), (trodAll_cons_mk (Below.trod udpBack_laid (by kernel_rfl) (of_decide_eq_true (by kernel_rfl)) k0 bel lt0) (trodAll_cons_mk (shut_string Try.underlying9 w1) trodAll_mk0)), rfl, bel.frame _, fun h => by cases h⟩

theorem udpBack_over : Rows.udpBackRow.holds Try.pinned (OpenSpec.ofChange Rows.udpBackSpec) :=
  OpenClaim.holds_of_wide 5 Try.f5 rfl rfl rfl rfl rfl rfl rfl ⟨rfl, rfl, rfl, rfl, rfl⟩ rfl rfl rfl rfl rfl (by kernel_rfl) Try.func5 (by kernel_rfl)
    (of_decide_eq_true (by kernel_rfl)) (by unfold Func.isWrapper; first | (rw [if_pos (by decide +kernel)]; kernel_rfl) | (rw [if_neg (by decide +kernel)]; exact ⟨rfl, rfl⟩))
    (fun os started H enc _ => udpBack_lifted os started H enc)

theorem udpBack_holds : Rows.UdpBackSaid := udpBack_over
#print axioms udpBack_holds
end Go.Proofs.Ytpecmpepnfgnoaa
