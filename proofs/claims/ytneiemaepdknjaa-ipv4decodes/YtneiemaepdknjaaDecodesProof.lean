/- For every string the law Ipv4Decodes answers true: the program's Decode answers as the document's. No conditions. -/
import Derived.Test.YtneiemaepdknjaaRows
import Derived.Test.YtneiemaepdknjaaRz
import Derived.WalkKit
import Derived.Deep.RegionHeld3
import Derived.ProofKit
import Derived.OpenShut
import Derived.ShutString
import Derived.ChangeOld
import Derived.Below
namespace Go.Proofs.Ytneiemaepdknjaa
open Go.ChangeShapes Go.WideShapes Go.ChangeAt Go.RowKit
open Go.ChangeMaps (open_string shut_string)
set_option linter.unusedVariables false

theorem ipv4Decodes_own : ownKnob Try.prog.godebug = none := by kernel_rfl
theorem ipv4Decodes_laid : laidOutB Try.prog = true := by kernel_rfl


open Go.Proofs.PitotIp
open Go.Proofs.Ytneiemaepdknjaa.Bi (lies_lt lies_alloc)
theorem cells22 {w : World} {g g' : Nat} {t t' : TypeId} {x0 x1 x2 x3 x4 x5 x6 x7 x8 x9 x10 x11 x12 x13 y0 y1 y2 y3 y4 y5 y6 y7 : Value} (h : w.heap[g]? = some (.cells #[x0, x1, x2, x3, x4, x5, x6, x7, x8, x9, x10, x11, x12, x13] t)) (h' : w.heap[g']? = some (.cells #[y0, y1, y2, y3, y4, y5, y6, y7] t')) :
    w.cell? ⟨g, 0, none⟩ = some x0 ∧ w.cell? ⟨g, 1, none⟩ = some x1 ∧ w.cell? ⟨g, 2, none⟩ = some x2 ∧ w.cell? ⟨g, 3, none⟩ = some x3 ∧ w.cell? ⟨g, 4, none⟩ = some x4 ∧ w.cell? ⟨g, 5, none⟩ = some x5 ∧ w.cell? ⟨g, 6, none⟩ = some x6 ∧ w.cell? ⟨g, 7, none⟩ = some x7 ∧ w.cell? ⟨g, 8, none⟩ = some x8 ∧ w.cell? ⟨g, 9, none⟩ = some x9 ∧ w.cell? ⟨g, 10, none⟩ = some x10 ∧ w.cell? ⟨g, 11, none⟩ = some x11 ∧ w.cell? ⟨g, 12, none⟩ = some x12 ∧ w.cell? ⟨g, 13, none⟩ = some x13 ∧ w.cell? ⟨g', 0, none⟩ = some y0 ∧ w.cell? ⟨g', 1, none⟩ = some y1 ∧ w.cell? ⟨g', 2, none⟩ = some y2 ∧ w.cell? ⟨g', 3, none⟩ = some y3 ∧ w.cell? ⟨g', 4, none⟩ = some y4 ∧ w.cell? ⟨g', 5, none⟩ = some y5 ∧ w.cell? ⟨g', 6, none⟩ = some y6 ∧ w.cell? ⟨g', 7, none⟩ = some y7 := by
  obtain ⟨c0, c1, c2, c3, c4, c5, c6, c7, c8, c9, c10, c11, c12, c13⟩ := cells14 h
  obtain ⟨d0, d1, d2, d3, d4, d5, d6, d7⟩ := cells8 h'
  exact ⟨c0, c1, c2, c3, c4, c5, c6, c7, c8, c9, c10, c11, c12, c13, d0, d1, d2, d3, d4, d5, d6, d7⟩

set_option maxRecDepth 100000 in
set_option maxHeartbeats 2000000 in
theorem ipv4Decodes_walk (s : ByteArray) (hs : s.size ≤ maxLen) (w : World) :
    Calls Try.prog 4 #[.string s] w fun e w' => e = .returned (.bool true) ∧ Below w.heap.size w w' := by
  unfold maxLen at hs
  by_cases hbig : 5000 < s.size
  · go_enter Try.func4, Try.ntmps4
    go_wp2_with (go_at_call 9; (with_reducible refine (awake_any _).mono ?_); rintro e w1 ⟨rfl, hb1⟩)
    go_returns
    exact ⟨rfl, hb1⟩
  · obtain ⟨i, m, o, t, p, a, b, d, A, B, e, z, hz, H0, H1, H2⟩ := dec_both s (by omega)
    have HA := Lib.hid H0; have HB := Lib.hid H1
    rw [hz] at H2
    have HC := Lib.hid H2
    clear H0 H1 H2 hz
    go_enter Try.func4, Try.ntmps4
    go_upto_region 5 with (first
      | (go_at_call 13; (with_reducible refine (HA.out _).mono ?_); rintro r w1 ⟨rfl, hb⟩
         (have k0 : Hid (Below w.heap.size w (w1.alloc (pkC i m o t p a b d))) := hb.alloc hb.size _)
         (have L0 : Hid ((w1.alloc (pkC i m o t p a b d)).heap[w1.heap.size]? = some (pkC i m o t p a b d)) := heap_alloc_new w1 _)
         (clear hb))
      | (go_at_call 14; (with_reducible refine (HB.out _).mono ?_); rintro r w2 ⟨rfl, hb⟩
         (have k0 : Hid (Below w.heap.size w (w2.alloc (rpC i m o t p A B d))) := by
            have := k0.out.trans (hb.mono k0.out.size)
            exact this.alloc this.size _)
         (have L0 : Hid ((w2.alloc (rpC i m o t p A B d)).heap[w1.heap.size]? = some (pkC i m o t p a b d)) := lies_alloc (lies_below L0.out hb (lies_lt L0.out)) _)
         (have L1 : Hid ((w2.alloc (rpC i m o t p A B d)).heap[w2.heap.size]? = some (rpC i m o t p A B d)) := heap_alloc_new w2 _)
         (clear hb)))
    generalize w2.alloc (rpC i m o t p A B d) = X at k0 L0 L1 ⊢
    have k0 : Hid (Below w.heap.size w X.drew) := k0.out.drew
    have L0 : Hid (X.drew.heap[w1.heap.size]? = some (pkC i m o t p a b d)) := L0.out
    have L1 : Hid (X.drew.heap[w2.heap.size]? = some (rpC i m o t p A B d)) := L1.out
    go_region_held3 (fun w' => w'.cell? ⟨w1.heap.size, 0, none⟩ = some (.int .i64 i) ∧ w'.cell? ⟨w1.heap.size, 1, none⟩ = some (.bool m) ∧ w'.cell? ⟨w1.heap.size, 2, none⟩ = some (.int .i64 o) ∧ w'.cell? ⟨w1.heap.size, 3, none⟩ = some (.int .i64 t) ∧ w'.cell? ⟨w1.heap.size, 4, none⟩ = some (.int .i64 p) ∧ w'.cell? ⟨w1.heap.size, 5, none⟩ = some (.int .u8 a.a.toNat) ∧ w'.cell? ⟨w1.heap.size, 6, none⟩ = some (.int .u8 a.b.toNat) ∧ w'.cell? ⟨w1.heap.size, 7, none⟩ = some (.int .u8 a.c.toNat) ∧ w'.cell? ⟨w1.heap.size, 8, none⟩ = some (.int .u8 a.d.toNat) ∧ w'.cell? ⟨w1.heap.size, 9, none⟩ = some (.int .u8 b.a.toNat) ∧ w'.cell? ⟨w1.heap.size, 10, none⟩ = some (.int .u8 b.b.toNat) ∧ w'.cell? ⟨w1.heap.size, 11, none⟩ = some (.int .u8 b.c.toNat) ∧ w'.cell? ⟨w1.heap.size, 12, none⟩ = some (.int .u8 b.d.toNat) ∧ w'.cell? ⟨w1.heap.size, 13, none⟩ = some (.string d) ∧ w'.cell? ⟨w2.heap.size, 0, none⟩ = some (.int .i64 i) ∧ w'.cell? ⟨w2.heap.size, 1, none⟩ = some (.bool m) ∧ w'.cell? ⟨w2.heap.size, 2, none⟩ = some (.int .i64 o) ∧ w'.cell? ⟨w2.heap.size, 3, none⟩ = some (.int .i64 t) ∧ w'.cell? ⟨w2.heap.size, 4, none⟩ = some (.int .i64 p) ∧ w'.cell? ⟨w2.heap.size, 5, none⟩ = some (.string A) ∧ w'.cell? ⟨w2.heap.size, 6, none⟩ = some (.string B) ∧ w'.cell? ⟨w2.heap.size, 7, none⟩ = some (.string d))
      (with_reducible exact cells22 L0.out L1.out)
      (first
        | (go_at_call 12; (with_reducible refine (HC.out _).mono ?_); rintro r w3 ⟨rfl, hb⟩
           (have k0 : Hid (Below w.heap.size w w3) := k0.out.trans (hb.mono k0.out.size))
           (have L0 : Hid (w3.heap[w1.heap.size]? = some (pkC i m o t p a b d)) := lies_below L0.out hb (lies_lt L0.out))
           (have L1 : Hid (w3.heap[w2.heap.size]? = some (rpC i m o t p A B d)) := lies_below L1.out hb (lies_lt L1.out))
           (clear hb))
        | (go_at_call 9; (with_reducible refine (awake_any _).mono ?_); rintro r w4 ⟨rfl, hb⟩
           (have k0 : Hid (Below w.heap.size w w4) := k0.out.trans (hb.mono k0.out.size))
           (have L0 : Hid (w4.heap[w1.heap.size]? = some (pkC i m o t p a b d)) := lies_below L0.out hb (lies_lt L0.out))
           (have L1 : Hid (w4.heap[w2.heap.size]? = some (rpC i m o t p A B d)) := lies_below L1.out hb (lies_lt L1.out))
           (clear hb)))
    all_goals
      go_wp2
      go_returns
      exact ⟨rfl, k0.out⟩


set_option maxRecDepth 100000 in
theorem ipv4Decodes_lifted (os : Os) (started : os.Started) (H : Type) (enc : TypeId × Value → H) :
    ReturnsInHanded {} Try.checked os 4 .any (Rows.ipv4DecodesSpec.pre6 enc Try.prog Try.f4 Rows.ipv4DecodesRow.domain false) (Rows.ipv4DecodesSpec.post enc Try.prog Try.f4 false true false false) := by
  refine returnsInHanded_of_change (C := Try.checked) ipv4Decodes_own started (by kernel_rfl) Try.func4
    (ChangeSpec.witness6 (enc := enc) (C := Try.checked) false ⟨#[], #[.string ByteArray.empty], []⟩ 8 (by kernel_rfl) (by kernel_rfl) (by kernel_rfl) (by kernel_rfl)) ?_
  intro W base args ds gs before hval0 hW hcnd _
  have hval : ∀ (j : Nat) t v, Try.f4.params[j]? = some t → args[j]? = some v → Value.okWide Try.prog W .any base t v := hval0
  have hW' := hW
  obtain ⟨p, q, hA0, hV, rfl, hfz, hnd⟩ := hW
  have hA : DataW.TrodAll enc Try.prog W 0 (fun _ => true) true Try.f4.params.toList args.toList ds p := hA0
  rw [Try.params4] at hA hval
  obtain ⟨v0, vs0, d0, ds0, p0, q0, hargs, rfl, rfl, h0, r0⟩ := trodAll_cons hA
  obtain ⟨rfl, rfl, rfl⟩ := trodAll_nil r0
  obtain rfl : args = #[v0] := by cases args; simp_all
  obtain ⟨rfl, rfl⟩ := trodVars_none hV
  obtain ⟨a0, rfl, rfl, rfl, w0⟩ := open_string Try.underlying9 (hval 0 9 v0 rfl rfl) h0
  clear hA0 hval0
  have hwalk := ipv4Decodes_walk a0 w0 W

  refine hwalk.mono fun e W' ⟨he, bel⟩ => ?_
  subst he
  exact ⟨_, rfl, _, _, _, [], _, [], hW', trodAll_mk1 (shut_bool Try.underlying4 _), (trodAll_cons_mk (shut_string Try.underlying9 w0) trodAll_mk0), rfl, bel.frame _, fun h => by cases h⟩

theorem ipv4Decodes_over : Rows.ipv4DecodesRow.holds Try.pinned (OpenSpec.ofChange Rows.ipv4DecodesSpec) :=
  OpenClaim.holds_of_wide 4 Try.f4 rfl rfl rfl rfl rfl rfl rfl ⟨rfl, rfl, rfl, rfl, rfl⟩ rfl rfl rfl rfl rfl (by kernel_rfl) Try.func4 (by kernel_rfl)
    (of_decide_eq_true (by kernel_rfl)) (by unfold Func.isWrapper; first | (rw [if_pos (by decide +kernel)]; kernel_rfl) | (rw [if_neg (by decide +kernel)]; exact ⟨rfl, rfl⟩))
    (fun os started H enc _ => ipv4Decodes_lifted os started H enc)

theorem ipv4Decodes_holds : Rows.Ipv4DecodesSaid := ipv4Decodes_over
#print axioms ipv4Decodes_holds
end Go.Proofs.Ytneiemaepdknjaa
