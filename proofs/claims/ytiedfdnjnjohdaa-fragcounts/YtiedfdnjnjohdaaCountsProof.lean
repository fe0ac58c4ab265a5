/- For all two numbers the law FragCounts answers true: the program's Room and Count answer as the document's. No conditions. -/
import Derived.Test.YtiedfdnjnjohdaaRows
import Derived.Test.YtiedfdnjnjohdaaAw
import Derived.WalkKit
import Derived.Deep.RegionHeld3
import Derived.ProofKit
import Derived.OpenShut
import Derived.ShutString
import Derived.ChangeOld
import Derived.Below
namespace Go.Proofs.Ytiedfdnjnjohdaa
open Go.ChangeShapes Go.WideShapes Go.ChangeAt Go.RowKit
open Go.ChangeMaps (open_string shut_string)
set_option linter.unusedVariables false

theorem fragCounts_own : ownKnob Try.prog.godebug = none := by kernel_rfl
theorem fragCounts_laid : laidOutB Try.prog = true := by kernel_rfl


open Go.Proofs.PitotFrag
open Go.Proofs.Ytiedfdnjnjohdaa.Bi (lies_lt lies_cell lies_frozen lies_alloc)
set_option maxRecDepth 100000 in
set_option maxHeartbeats 4000000 in
theorem fragCounts_go (y x : Int) (A B C D : Int) (h9 : ∀ w, Calls Try.prog 9 #[.int .i64 x] w fun e w' => e = .returned (.tuple #[.int .i64 A, .int .i64 B]) ∧ w = w') (h10 : ∀ w, Calls Try.prog 10 #[.int .i64 x] w fun e w' => e = .returned (.tuple #[.int .i64 A, .int .i64 B]) ∧ w = w') (h11 : ∀ w, Calls Try.prog 11 #[.int .i64 y, .int .i64 x] w fun e w' => e = .returned (.tuple #[.int .i64 C, .int .i64 D]) ∧ w = w') (h12 : ∀ w, Calls Try.prog 12 #[.int .i64 y, .int .i64 x] w fun e w' => e = .returned (.tuple #[.int .i64 C, .int .i64 D]) ∧ w = w') (w : World) :
    Calls Try.prog 3 #[.int .i64 y, .int .i64 x] w fun e w' => e = .returned (.bool true) ∧ Below w.heap.size w w' := by
  have H9 := Lib.hid h9; have H10 := Lib.hid h10; have H11 := Lib.hid h11; have H12 := Lib.hid h12
  clear h9 h10 h11 h12
  go_enter Try.func3, Try.ntmps3
  go_wp2_with (first
    | (go_at_call 9; (with_reducible refine (H9.out _).mono ?_); rintro r w1 ⟨rfl, rfl⟩)
    | (go_at_call 10; (with_reducible refine (H10.out _).mono ?_); rintro r w1 ⟨rfl, rfl⟩)
    | (go_at_call 11; (with_reducible refine (H11.out _).mono ?_); rintro r w1 ⟨rfl, rfl⟩)
    | (go_at_call 12; (with_reducible refine (H12.out _).mono ?_); rintro r w1 ⟨rfl, rfl⟩)
    | (go_at_call 13; (with_reducible refine (awake_any _).mono ?_); rintro r w2 ⟨rfl, hb⟩))
  go_returns
  exact ⟨rfl, hb⟩

theorem fragCounts_walk (y : Int) (_hy : (Lit.int .i64 y).wf = true) (x : Int) (_hx : (Lit.int .i64 x).wf = true) (w : World) :
    Calls Try.prog 3 #[.int .i64 y, .int .i64 x] w fun e w' => e = .returned (.bool true) ∧ Below w.heap.size w w' := by
  by_cases hx : x < 64 ∨ 1518 < x
  · exact fragCounts_go y x 0 1 0 1 (room_arg x hx) (refRoom_arg x hx) (count_arg x y hx) (refCount_arg x y hx) w
  · obtain ⟨m, rfl⟩ : ∃ m : Nat, x = m + 39 := ⟨(x - 39).toNat, by omega⟩
    have h1 : 25 ≤ m := by omega
    have h2 : m ≤ 1479 := by omega
    by_cases hn : y < 0
    · exact fragCounts_go y _ _ 0 0 1 (room_ok m h1 h2) (refRoom_ok m h1 h2) (count_neg m y h1 h2 hn) (refCount_neg m y h1 h2 hn) w
    · by_cases hl : 65515 < y
      · exact fragCounts_go y _ _ 0 0 11 (room_ok m h1 h2) (refRoom_ok m h1 h2) (count_long m y h1 h2 hl) (refCount_long m y h1 h2 hl) w
      · obtain ⟨l, rfl⟩ : ∃ l : Nat, y = l := ⟨y.toNat, by omega⟩
        exact fragCounts_go _ _ _ 0 _ 0 (room_ok m h1 h2) (refRoom_ok m h1 h2) (count_ok m l h1 h2 (by omega)) (refCount_ok m l h1 h2 (by omega)) w


set_option maxRecDepth 100000 in
theorem fragCounts_lifted (os : Os) (started : os.Started) (H : Type) (enc : TypeId × Value → H) :
    ReturnsInHanded {} Try.checked os 3 .any (Rows.fragCountsSpec.pre6 enc Try.prog Try.f3 Rows.fragCountsRow.domain false) (Rows.fragCountsSpec.post enc Try.prog Try.f3 false true false false) := by
  refine returnsInHanded_of_change (C := Try.checked) fragCounts_own started (by kernel_rfl) Try.func3
    (ChangeSpec.witness6 (enc := enc) (C := Try.checked) false ⟨#[], #[.int .i64 0, .int .i64 0], []⟩ 8 (by kernel_rfl) (by kernel_rfl) (by kernel_rfl) (by kernel_rfl)) ?_
  intro W base args ds gs before hval0 hW hcnd _
  have hval : ∀ (j : Nat) t v, Try.f3.params[j]? = some t → args[j]? = some v → Value.okWide Try.prog W .any base t v := hval0
  have hW' := hW
  obtain ⟨p, q, hA0, hV, rfl, hfz, hnd⟩ := hW
  have hA : DataW.TrodAll enc Try.prog W 0 (fun _ => true) true Try.f3.params.toList args.toList ds p := hA0
  rw [Try.params3] at hA hval
  obtain ⟨v0, vs0, d0, ds0, p0, q0, hargs, rfl, rfl, h0, r0⟩ := trodAll_cons hA
  obtain ⟨v1, vs1, d1, ds1, p1, q1, rfl, rfl, rfl, h1, r1⟩ := trodAll_cons r0
  obtain ⟨rfl, rfl, rfl⟩ := trodAll_nil r1
  obtain rfl : args = #[v0, v1] := by cases args; simp_all
  obtain ⟨rfl, rfl⟩ := trodVars_none hV
  obtain ⟨a0, rfl, rfl, rfl, w0⟩ := open_int Try.underlying3 (hval 0 3 v0 rfl rfl) h0
  obtain ⟨a1, rfl, rfl, rfl, w1⟩ := open_int Try.underlying3 (hval 1 3 v1 rfl rfl) h1
  clear hA0 hval0
  have hwalk := fragCounts_walk a0 w0 a1 w1 W

  refine hwalk.mono fun e W' ⟨he, bel⟩ => ?_
  subst he
  exact ⟨_, rfl, _, _, _, [], _, [], hW', trodAll_mk1 (shut_bool Try.underlying4 _), (trodAll_cons_mk (shut_int Try.underlying3 w0) (trodAll_cons_mk (shut_int Try.underlying3 w1) trodAll_mk0)), rfl, bel.frame _, fun h => by cases h⟩

theorem fragCounts_over : Rows.fragCountsRow.holds Try.pinned (OpenSpec.ofChange Rows.fragCountsSpec) :=
  OpenClaim.holds_of_wide 3 Try.f3 rfl rfl rfl rfl rfl rfl rfl ⟨rfl, rfl, rfl, rfl, rfl⟩ rfl rfl rfl rfl rfl (by kernel_rfl) Try.func3 (by kernel_rfl)
    (of_decide_eq_true (by kernel_rfl)) (by unfold Func.isWrapper; first | (rw [if_pos (by decide +kernel)]; kernel_rfl) | (rw [if_neg (by decide +kernel)]; exact ⟨rfl, rfl⟩))
    (fun os started H enc _ => fragCounts_lifted os started H enc)

theorem fragCounts_holds : Rows.FragCountsSaid := fragCounts_over
#print axioms fragCounts_holds
end Go.Proofs.Ytiedfdnjnjohdaa
