/- For every two strings the law CrcGoes answers true: a sum goes on over what comes behind, however a text is parted. No conditions. -/
import Derived.Test.YtplknfdbgcdaoaaRows
import Derived.Test.YtplknfdbgcdaoaaOp
import Derived.WalkKit
import Derived.ProofKit
import Derived.OpenShut
import Derived.ShutString
import Derived.ChangeOld
import Derived.Below
namespace Go.Proofs.Ytplknfdbgcdaoaa
open Go.ChangeShapes Go.WideShapes Go.ChangeAt Go.RowKit
open Go.ChangeMaps (open_string shut_string)
set_option linter.unusedVariables false

theorem crcGoes_own : ownKnob Try.prog.godebug = none := by kernel_rfl
theorem crcGoes_laid : laidOutB Try.prog = true := by kernel_rfl

open Go.Proofs.PitotCrc in
theorem sum_two (a b : ByteArray) (t : TypeId) (w : World) (ha : a.size ≤ 100000) (hb : b.size ≤ 100000) (S : Nat) (hS : S = sum (a.data.toList ++ b.data.toList)) :
    Calls Try.prog 14 #[.slice (some ⟨w.heap.size, 0, none⟩) 2 2] (w.alloc (.cells #[.string a, .string b] t)) fun e w' => e = .returned (.int .u32 S) ∧ Below w.heap.size w w' := by
  have hbl : Below w.heap.size w (w.alloc (.cells #[.string a, .string b] t)) := (Below.refl _ _).alloc (Nat.le_refl _) _
  have hst : StrsAt (w.alloc (.cells #[.string a, .string b] t)) (some ⟨w.heap.size, 0, none⟩) [a, b] := by
    intro _
    refine ⟨w.heap.size, 0, rfl, by simp, fun i hi => ?_⟩
    have : i = 0 ∨ i = 1 := by simp at hi; omega
    rcases this with rfl | rfl
    · exact lies_cell (heap_alloc_new w _) 0
    · exact lies_cell (heap_alloc_new w _) 1
  refine (sum_any _ 2 [a, b] _ hst (by simp) (by simp; exact ⟨ha, hb⟩) 2 rfl S (by rw [hS]; simp [cat])).mono fun e w' ⟨he, hw⟩ => ⟨he, hbl.trans (hw.mono hbl.size)⟩

open Go.Proofs.PitotCrc in
theorem sum_three (a b : ByteArray) (t : TypeId) (w : World) (ha : a.size ≤ 100000) (hb : b.size ≤ 100000) (S : Nat) (hS : S = sum (a.data.toList ++ b.data.toList)) :
    Calls Try.prog 14 #[.slice (some ⟨w.heap.size, 0, none⟩) 3 3] (w.alloc (.cells #[.string a, .string ⟨#[]⟩, .string b] t)) fun e w' => e = .returned (.int .u32 S) ∧ Below w.heap.size w w' := by
  have hbl : Below w.heap.size w (w.alloc (.cells #[.string a, .string ⟨#[]⟩, .string b] t)) := (Below.refl _ _).alloc (Nat.le_refl _) _
  have hst : StrsAt (w.alloc (.cells #[.string a, .string ⟨#[]⟩, .string b] t)) (some ⟨w.heap.size, 0, none⟩) [a, ⟨#[]⟩, b] := by
    intro _
    refine ⟨w.heap.size, 0, rfl, by simp, fun i hi => ?_⟩
    have : i = 0 ∨ i = 1 ∨ i = 2 := by simp at hi; omega
    rcases this with rfl | rfl | rfl
    · exact lies_cell (heap_alloc_new w _) 0
    · exact lies_cell (heap_alloc_new w _) 1
    · exact lies_cell (heap_alloc_new w _) 2
  refine (sum_any _ 3 [a, ⟨#[]⟩, b] _ hst (by simp) (by simp; exact ⟨ha, by decide, hb⟩) 3 rfl S (by rw [hS]; simp [cat])).mono fun e w' ⟨he, hw⟩ => ⟨he, hbl.trans (hw.mono hbl.size)⟩

open Go.Proofs.PitotCrc in
set_option maxRecDepth 100000 in
set_option maxHeartbeats 2000000 in
theorem crcGoes_walk (a : ByteArray) (_ha : a.size ≤ maxLen) (b : ByteArray) (_hb : b.size ≤ maxLen) (w : World) :
    Calls Try.prog 7 #[.string a, .string b] w fun e w' => e = .returned (.bool true) ∧ Below w.heap.size w w' := by
  unfold maxLen at _ha _hb
  by_cases h1 : 3000 < a.size
  · go_enter Try.func7, Try.ntmps7
    go_wp2_with (first
      | (go_at_call 9; refine (make_any _).mono ?_; rintro e w1 ⟨rfl, ht1, hb1⟩; (have HT := Lib.hid ht1); clear ht1)
      | (go_at_call 10; refine (awake_any _).mono ?_; rintro e w2 ⟨rfl, hb2⟩))
    go_returns
    exact ⟨rfl, hb1.trans (hb2.mono hb1.size)⟩
  · by_cases h2 : 3000 < b.size
    · go_enter Try.func7, Try.ntmps7
      go_wp2_with (first
        | (go_at_call 9; refine (make_any _).mono ?_; rintro e w1 ⟨rfl, ht1, hb1⟩; (have HT := Lib.hid ht1); clear ht1)
        | (go_at_call 10; refine (awake_any _).mono ?_; rintro e w2 ⟨rfl, hb2⟩))
      go_returns
      exact ⟨rfl, hb1.trans (hb2.mono hb1.size)⟩
    · have ha : a.size ≤ 100000 := by omega
      have hb : b.size ≤ 100000 := by omega
      have hab : (a ++ b).size ≤ 100000 := by rw [ByteArray.size_append]; omega
      have hcat : (a ++ b).data.toList = a.data.toList ++ b.data.toList := by simp
      obtain ⟨S, HS⟩ : ∃ S, Hid (S = sum (a.data.toList ++ b.data.toList)) := ⟨_, rfl⟩
      have s1 := fun w => sum_one (a ++ b) 9 w hab
      rw [hcat, ← HS.out] at s1
      have s2 := fun w => sum_two a b 9 w ha hb S HS.out
      have s3 := fun w => sum_three a b 9 w ha hb S HS.out
      have hr1 := go_lt 5 a.data.toList (by decide)
      have g1 : ∀ w1, TabAt w1 w.heap.size 256 → Calls Try.prog 12 #[.pointer (some ⟨w.heap.size, 0, none⟩), .int .u32 5, .string a] w1 fun e w' => e = .returned (.int .u32 (go 5 a.data.toList : Nat)) ∧ Below w1.heap.size w1 w' := fun w1 ht => go_any w.heap.size 5 a w1 ht (by decide) ha
      have g3 : ∀ w1, TabAt w1 w.heap.size 256 → Calls Try.prog 12 #[.pointer (some ⟨w.heap.size, 0, none⟩), .int .u32 5, .string (a ++ b)] w1 fun e w' => e = .returned (.int .u32 (go 5 (a ++ b).data.toList : Nat)) ∧ Below w1.heap.size w1 w' := fun w1 ht => go_any w.heap.size 5 (a ++ b) w1 ht (by decide) hab
      have g2 := fun w1 ht => go_any w.heap.size (go 5 a.data.toList) b w1 ht hr1 hb
      rw [hcat, go_append] at g3
      obtain ⟨R1, HR1⟩ : ∃ R1, Hid (R1 = go 5 a.data.toList) := ⟨_, rfl⟩
      rw [← HR1.out] at g1 g2 g3
      obtain ⟨R2, HR2⟩ : ∃ R2, Hid (R2 = go R1 b.data.toList) := ⟨_, rfl⟩
      rw [← HR2.out] at g2 g3
      have S1 := Lib.hid s1
      have S2 := Lib.hid s2
      have S3 := Lib.hid s3
      have G1 := Lib.hid g1
      have G2 := Lib.hid g2
      have G3 := Lib.hid g3
      clear s1 s2 s3 g1 g2 g3 hr1 hcat
      go_enter Try.func7, Try.ntmps7
      go_wp2_with (first
        | (go_at_call 9; refine (make_any _).mono ?_; rintro e w1 ⟨rfl, ht1, hb1⟩; (have T1 := Lib.hid ht1); clear ht1)
        | (go_at_call 12; (with_reducible refine (G1.out _ T1.out).mono ?_); rintro e w2 ⟨rfl, hb2⟩; (have T2 := Lib.hid (T1.out.keep hb2)))
        | (go_at_call 12; (with_reducible refine (G2.out _ T2.out).mono ?_); rintro e w3 ⟨rfl, hb3⟩; (have T3 := Lib.hid (T2.out.keep hb3)))
        | (go_at_call 12; (with_reducible refine (G3.out _ T3.out).mono ?_); rintro e w4 ⟨rfl, hb4⟩)
        | (go_at_call 14; (with_reducible refine (S2.out w4).mono ?_); rintro e w5 ⟨rfl, hb5⟩)
        | (go_at_call 14; (with_reducible refine (S1.out w5).mono ?_); rintro e w6 ⟨rfl, hb6⟩)
        | (go_at_call 14; (with_reducible refine (S3.out w6).mono ?_); rintro e w7 ⟨rfl, hb7⟩)
        | (go_at_call 14; (with_reducible refine (S1.out w7).mono ?_); rintro e w8 ⟨rfl, hb8⟩)
        | (go_at_call 10; refine (awake_any _).mono ?_; rintro e w9 ⟨rfl, hb9⟩))
      go_returns
      have k2 := hb1.trans (hb2.mono hb1.size)
      have k3 := k2.trans (hb3.mono k2.size)
      have k4 := k3.trans (hb4.mono k3.size)
      have k5 := k4.trans (hb5.mono k4.size)
      have k6 := k5.trans (hb6.mono k5.size)
      have k7 := k6.trans (hb7.mono k6.size)
      have k8 := k7.trans (hb8.mono k7.size)
      exact ⟨rfl, k8.trans (hb9.mono k8.size)⟩

set_option maxRecDepth 100000 in
theorem crcGoes_lifted (os : Os) (started : os.Started) (H : Type) (enc : TypeId × Value → H) :
    ReturnsInHanded {} Try.checked os 7 .any (Rows.crcGoesSpec.pre6 enc Try.prog Try.f7 Rows.crcGoesRow.domain false) (Rows.crcGoesSpec.post enc Try.prog Try.f7 false true false false) := by
  refine returnsInHanded_of_change (C := Try.checked) crcGoes_own started (by kernel_rfl) Try.func7
    (ChangeSpec.witness6 (enc := enc) (C := Try.checked) false ⟨#[], #[.string ByteArray.empty, .string ByteArray.empty], []⟩ 8 (by kernel_rfl) (by kernel_rfl) (by kernel_rfl) (by kernel_rfl)) ?_
  intro W base args ds gs before hval0 hW hcnd _
  have hval : ∀ (j : Nat) t v, Try.f7.params[j]? = some t → args[j]? = some v → Value.okWide Try.prog W .any base t v := hval0
  have hW' := hW
  obtain ⟨p, q, hA0, hV, rfl, hfz, hnd⟩ := hW
  have hA : DataW.TrodAll enc Try.prog W 0 (fun _ => true) true Try.f7.params.toList args.toList ds p := hA0
  rw [Try.params7] at hA hval
  obtain ⟨v0, vs0, d0, ds0, p0, q0, hargs, rfl, rfl, h0, r0⟩ := trodAll_cons hA
  obtain ⟨v1, vs1, d1, ds1, p1, q1, rfl, rfl, rfl, h1, r1⟩ := trodAll_cons r0
  obtain ⟨rfl, rfl, rfl⟩ := trodAll_nil r1
  obtain rfl : args = #[v0, v1] := by cases args; simp_all
  obtain ⟨rfl, rfl⟩ := trodVars_none hV
  obtain ⟨a0, rfl, rfl, rfl, w0⟩ := open_string Try.underlying9 (hval 0 9 v0 rfl rfl) h0
  obtain ⟨a1, rfl, rfl, rfl, w1⟩ := open_string Try.underlying9 (hval 1 9 v1 rfl rfl) h1
  clear hA0 hval0
  have hwalk := crcGoes_walk a0 w0 a1 w1 W

  refine hwalk.mono fun e W' ⟨he, bel⟩ => ?_
  subst he
  exact ⟨_, rfl, _, _, _, [], _, [], hW', trodAll_mk1 (shut_bool Try.underlying4 _), (trodAll_cons_mk (shut_string Try.underlying9 w0) (trodAll_cons_mk (shut_string Try.underlying9 w1) trodAll_mk0)), rfl, bel.frame _, fun h => by cases h⟩

theorem crcGoes_over : Rows.crcGoesRow.holds Try.pinned (OpenSpec.ofChange Rows.crcGoesSpec) :=
  OpenClaim.holds_of_wide 7 Try.f7 rfl rfl rfl rfl rfl rfl rfl ⟨rfl, rfl, rfl, rfl, rfl⟩ rfl rfl rfl rfl rfl (by kernel_rfl) Try.func7 (by kernel_rfl)
    (of_decide_eq_true (by kernel_rfl)) (by unfold Func.isWrapper; first | (rw [if_pos (by decide +kernel)]; kernel_rfl) | (rw [if_neg (by decide +kernel)]; exact ⟨rfl, rfl⟩))
    (fun os started H enc _ => crcGoes_lifted os started H enc)

theorem crcGoes_holds : Rows.CrcGoesSaid := crcGoes_over
#print axioms crcGoes_holds
end Go.Proofs.Ytplknfdbgcdaoaa
