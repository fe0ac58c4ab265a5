/- For every packet the law Ipv4Parts answers true: a packet's first twenty bytes tell how many there are in all, and the bytes carried stand behind them as they are. No conditions. -/
import Derived.Test.YtneiemaepdknjaaRows
import Derived.Test.YtneiemaepdknjaaRz
import Derived.Test.YtneiemaepdknjaaEx
import Derived.Test.YtneiemaepdknjaaPo
import Derived.WalkKit
import Derived.Deep.RegionHeld3
import Derived.ProofKit
import Derived.OpenShut
import Derived.ShutString
import Derived.ChangeOld
import Derived.Below
namespace Go.Proofs.Ytneiemaepdknjaa
open Go.ChangeShapes Go.WideShapes Go.ChangeAt Go.RowKit
open Go.ChangeMaps (open_string shut_string)
set_option linter.unusedVariables false

theorem ipv4Parts_own : ownKnob Try.prog.godebug = none := by kernel_rfl
theorem ipv4Parts_laid : laidOutB Try.prog = true := by kernel_rfl


open Go.Proofs.PitotIp
open Go.Proofs.PitotAddr (hi lo)
open Go.Proofs.Ytneiemaepdknjaa.Bi (lies_lt lies_alloc)
set_option maxRecDepth 100000 in
set_option maxHeartbeats 2000000 in
theorem ipv4Parts_walk (id : Int) (m : Bool) (off ttl pr : Int) (a b : PitotIp.Q4) (s : ByteArray) (_hi : (Lit.int .i64 id).wf = true) (_ho : (Lit.int .i64 off).wf = true) (_ht : (Lit.int .i64 ttl).wf = true) (_hp : (Lit.int .i64 pr).wf = true) (hs : s.size ≤ maxLen) (w : World) :
    Calls Try.prog 8 #[pk id m off ttl pr a b s] w fun e w' => e = .returned (.bool true) ∧ Below w.heap.size w w' := by
  unfold maxLen at hs
  clear _hi _ho _ht _hp
  by_cases hbig : 5000 < s.size
  · go_enter Try.func8, Try.ntmps8
    go_wp2_with (go_at_call 9; (with_reducible refine (awake_any _).mono ?_); rintro e w1 ⟨rfl, hb1⟩)
    go_returns
    exact ⟨rfl, ((Below.refl _ w).alloc (Nat.le_refl _) _).trans (hb1.mono (by simp))⟩
  · rcases enc_cases id m off ttl pr a b s (by omega) with ⟨e, he, H⟩ | ⟨i, o, t, p, rfl, rfl, rfl, rfl, hmay⟩
    · have H10 := Lib.hid H; clear H
      have he0 : ((e : Int) != 0) = true := by simpa using he
      have he1 : ¬ (e : Int) = 0 := he
      clear he
      go_enter Try.func8, Try.ntmps8
      go_wp2_with (first
        | (go_at_call 10; (with_reducible refine (H10.out _).mono ?_); rintro r w1 ⟨rfl, hb1⟩)
        | (go_at_call 9; (with_reducible refine (awake_any _).mono ?_); rintro r w2 ⟨rfl, hb2⟩))
      go_returns
      have k1 : Below w.heap.size w w1 := ((Below.refl _ w).alloc (Nat.le_refl _) _).trans (hb1.mono (by simp))
      exact ⟨rfl, k1.trans (hb2.mono k1.size)⟩
    · have H10 := Lib.hid (fun w => encode_ok i m o t p a b s w hmay)
      have hB := outB_size i m o t p a b s
      have f : Front (outB i m o t p a b s) (okH i m o t p a b s.size) s.data.toList := ⟨outB_is i m o t p a b s⟩
      have hd := hmay.d
      have hid := hmay.i
      obtain ⟨B, HB⟩ : ∃ B, Hid (B = outB i m o t p a b s) := ⟨_, rfl⟩
      rw [← HB.out] at H10 hB f
      have hBm : B.size ≤ 200000 := by omega
      obtain ⟨v2, e2⟩ : ∃ v, v = (hi (20 + s.size)).toNat := ⟨_, rfl⟩
      obtain ⟨v3, e3⟩ : ∃ v, v = (lo (20 + s.size)).toNat := ⟨_, rfl⟩
      obtain ⟨v4, e4⟩ : ∃ v, v = (hi i).toNat := ⟨_, rfl⟩
      obtain ⟨v5, e5⟩ : ∃ v, v = (lo i).toNat := ⟨_, rfl⟩
      have i2 : IdxIs B 2 v2 := by rw [e2]; exact f.idx hBm 2 (by omega) _ rfl
      have i3 : IdxIs B 3 v3 := by rw [e3]; exact f.idx hBm 3 (by omega) _ rfl
      have i4 : IdxIs B 4 v4 := by rw [e4]; exact f.idx hBm 4 (by omega) _ rfl
      have i5 : IdxIs B 5 v5 := by rw [e5]; exact f.idx hBm 5 (by omega) _ rfl
      have u2 : v2 < 256 := by rw [e2]; exact UInt8.toNat_lt _
      have u3 : v3 < 256 := by rw [e3]; exact UInt8.toNat_lt _
      have u4 : v4 < 256 := by rw [e4]; exact UInt8.toNat_lt _
      have u5 : v5 < 256 := by rw [e5]; exact UInt8.toNat_lt _
      have q1 : v2 * 256 + v3 = 20 + s.size := by rw [e2, e3, PitotAddr.hi_nat, PitotAddr.lo_nat]; omega
      have q2 : v4 * 256 + v5 = i := by rw [e4, e5, PitotAddr.hi_nat, PitotAddr.lo_nat]; omega
      have a2 : IntKind.i64.wrap (v2 : Int) = v2 := IntWalk.i64_in _ (by omega)
      have a3 : IntKind.i64.wrap (v3 : Int) = v3 := IntWalk.i64_in _ (by omega)
      have a4 : IntKind.i64.wrap (v4 : Int) = v4 := IntWalk.i64_in _ (by omega)
      have a5 : IntKind.i64.wrap (v5 : Int) = v5 := IntWalk.i64_in _ (by omega)
      have m2 : IntKind.i64.wrap ((v2 : Int) * 256) = (v2 : Int) * 256 := IntWalk.i64_in _ (by omega)
      have m4 : IntKind.i64.wrap ((v4 : Int) * 256) = (v4 : Int) * 256 := IntWalk.i64_in _ (by omega)
      have p2 : IntKind.i64.wrap ((v2 : Int) * 256 + (v3 : Int)) = (B.size : Int) := by rw [IntWalk.i64_in _ (by omega), hB]; omega
      have p4 : IntKind.i64.wrap ((v4 : Int) * 256 + (v5 : Int)) = (i : Int) := by rw [IntWalk.i64_in _ (by omega)]; omega
      have x1 : B.extract 20 B.size = s := by
        rw [f.rest B.size (by omega), hB, show 20 + s.size - 20 = s.data.toList.length by rw [← size_toList]; omega, List.take_length]
      have x2 : B.extract 12 16 = ipB a := f.part.1
      have x3 : B.extract 16 20 = ipB b := f.part.2
      have b1 : (20 : Int) ≤ (B.size : Int) := by omega
      have b2 : (16 : Int) ≤ (B.size : Int) := by omega
      have b3 : ¬ B.size < 20 := by omega
      have HA := ip_any a
      have HD := ip_any b
      generalize ipB a = SA at x2 HA
      generalize ipB b = SD at x3 HD
      have HA := Lib.hid HA; have HD := Lib.hid HD
      clear e2 e3 e4 e5 q1 q2 u2 u3 u4 u5 f hmay hd hid hB
      go_enter Try.func8, Try.ntmps8
      go_upto_region 8 with (first
        | (go_at_call 10; (with_reducible refine (H10.out _).mono ?_); rintro r w1 ⟨rfl, hb⟩
           (have L0 : Hid (w1.heap[w.heap.size]? = some (pkC i m o t p a b s)) := lies_below (heap_alloc_new w _) hb (by simp))
           (have k0 : Hid (Below w.heap.size w w1) := ((Below.refl _ w).alloc (Nat.le_refl _) _).trans (hb.mono (by simp)))
           (clear hb)))
      have L0 : Hid (w1.drew.heap[w.heap.size]? = some (pkC i m o t p a b s)) := L0.out
      have k0 : Hid (Below w.heap.size w w1.drew) := k0.out.drew
      go_region_held3 (fun w' => w'.cell? ⟨w.heap.size, 0, none⟩ = some (.int .i64 i) ∧ w'.cell? ⟨w.heap.size, 1, none⟩ = some (.bool m) ∧ w'.cell? ⟨w.heap.size, 2, none⟩ = some (.int .i64 o) ∧ w'.cell? ⟨w.heap.size, 3, none⟩ = some (.int .i64 t) ∧ w'.cell? ⟨w.heap.size, 4, none⟩ = some (.int .i64 p) ∧ w'.cell? ⟨w.heap.size, 5, none⟩ = some (.int .u8 a.a.toNat) ∧ w'.cell? ⟨w.heap.size, 6, none⟩ = some (.int .u8 a.b.toNat) ∧ w'.cell? ⟨w.heap.size, 7, none⟩ = some (.int .u8 a.c.toNat) ∧ w'.cell? ⟨w.heap.size, 8, none⟩ = some (.int .u8 a.d.toNat) ∧ w'.cell? ⟨w.heap.size, 9, none⟩ = some (.int .u8 b.a.toNat) ∧ w'.cell? ⟨w.heap.size, 10, none⟩ = some (.int .u8 b.b.toNat) ∧ w'.cell? ⟨w.heap.size, 11, none⟩ = some (.int .u8 b.c.toNat) ∧ w'.cell? ⟨w.heap.size, 12, none⟩ = some (.int .u8 b.d.toNat) ∧ w'.cell? ⟨w.heap.size, 13, none⟩ = some (.string s))
        (with_reducible exact cells14 L0.out)
        (first
          | (go_at_call 15; (with_reducible refine (HA.out _).mono ?_); rintro r w2 ⟨rfl, hb⟩
             (have k0 : Hid (Below w.heap.size w w2) := k0.out.trans (hb.mono k0.out.size))
             (have L0 : Hid (w2.heap[w.heap.size]? = some (pkC i m o t p a b s)) := lies_below L0.out hb (lies_lt L0.out))
             (clear hb))
          | (go_at_call 15; (with_reducible refine (HD.out _).mono ?_); rintro r w3 ⟨rfl, hb⟩
             (have k0 : Hid (Below w.heap.size w w3) := k0.out.trans (hb.mono k0.out.size))
             (have L0 : Hid (w3.heap[w.heap.size]? = some (pkC i m o t p a b s)) := lies_below L0.out hb (lies_lt L0.out))
             (clear hb))
          | (go_at_call 9; (with_reducible refine (awake_any _).mono ?_); rintro r w4 ⟨rfl, hb⟩
             (have k0 : Hid (Below w.heap.size w w4) := k0.out.trans (hb.mono k0.out.size))
             (have L0 : Hid (w4.heap[w.heap.size]? = some (pkC i m o t p a b s)) := lies_below L0.out hb (lies_lt L0.out))
             (clear hb)))
      all_goals
        go_wp2
        go_returns
        exact ⟨rfl, k0.out⟩


set_option maxRecDepth 100000 in
theorem ipv4Parts_lifted (os : Os) (started : os.Started) (H : Type) (enc : TypeId × Value → H) :
    ReturnsInHanded {} Try.checked os 8 .any (Rows.ipv4PartsSpec.pre6 enc Try.prog Try.f8 Rows.ipv4PartsRow.domain false) (Rows.ipv4PartsSpec.post enc Try.prog Try.f8 false true false false) := by
  refine returnsInHanded_of_change (C := Try.checked) ipv4Parts_own started (by kernel_rfl) Try.func8
    (ChangeSpec.witness6 (enc := enc) (C := Try.checked) false ⟨#[], #[.agg #[.int .i64 0, .bool false, .int .i64 0, .int .i64 0, .int .i64 0, .int .u8 0, .int .u8 0, .int .u8 0, .int .u8 0, .int .u8 0, .int .u8 0, .int .u8 0, .int .u8 0, .string ByteArray.empty]], []⟩ 8 (by kernel_rfl) (by kernel_rfl) (by kernel_rfl) (by kernel_rfl)) ?_
  intro W base args ds gs before hval0 hW hcnd _
  have hval : ∀ (j : Nat) t v, Try.f8.params[j]? = some t → args[j]? = some v → Value.okWide Try.prog W .any base t v := hval0
  have hW' := hW
  obtain ⟨p, q, hA0, hV, rfl, hfz, hnd⟩ := hW
  have hA : DataW.TrodAll enc Try.prog W 0 (fun _ => true) true Try.f8.params.toList args.toList ds p := hA0
  rw [Try.params8] at hA hval
  obtain ⟨v0, vs0, d0, ds0, p0, q0, hargs, rfl, rfl, h0, r0⟩ := trodAll_cons hA
  obtain ⟨rfl, rfl, rfl⟩ := trodAll_nil r0
  obtain rfl : args = #[v0] := by cases args; simp_all
  obtain ⟨rfl, rfl⟩ := trodVars_none hV
  have k0 := h0
  have lt0 : ∀ x ∈ p0, x.block < W.heap.size := by obtain ⟨m, hm⟩ := k0; exact DataW.trod_lt m _ _ _ hm
  obtain ⟨fu0, hf0⟩ := h0
  obtain ⟨fi0, fm0, fo0, ft0, fp0, fa0, fb0, fs0, gi0, go0, gt0, gp0, gs0, rfl⟩ := packet_open (hval 0 25 v0 rfl rfl) hf0
  clear hA0 hval0
  have hwalk := ipv4Parts_walk fi0 fm0 fo0 ft0 fp0 fa0 fb0 fs0 gi0 go0 gt0 gp0 gs0 W

  refine hwalk.mono fun e W' ⟨he, bel⟩ => ?_
  subst he
  exact ⟨_, rfl, _, _, _, [], _, [], hW', trodAll_mk1 (shut_bool Try.underlying4 _), (trodAll_cons_mk (Below.trod ipv4Parts_laid (by kernel_rfl) (of_decide_eq_true (by kernel_rfl)) k0 bel lt0) trodAll_mk0), rfl, bel.frame _, fun h => by cases h⟩

theorem ipv4Parts_over : Rows.ipv4PartsRow.holds Try.pinned (OpenSpec.ofChange Rows.ipv4PartsSpec) :=
  OpenClaim.holds_of_wide 8 Try.f8 rfl rfl rfl rfl rfl rfl rfl ⟨rfl, rfl, rfl, rfl, rfl⟩ rfl rfl rfl rfl rfl (by kernel_rfl) Try.func8 (by kernel_rfl)
    (of_decide_eq_true (by kernel_rfl)) (by unfold Func.isWrapper; first | (rw [if_pos (by decide +kernel)]; kernel_rfl) | (rw [if_neg (by decide +kernel)]; exact ⟨rfl, rfl⟩))
    (fun os started H enc _ => ipv4Parts_lifted os started H enc)

theorem ipv4Parts_holds : Rows.Ipv4PartsSaid := ipv4Parts_over
#print axioms ipv4Parts_holds
end Go.Proofs.Ytneiemaepdknjaa
