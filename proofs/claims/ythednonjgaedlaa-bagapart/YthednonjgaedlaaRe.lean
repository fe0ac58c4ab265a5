/- Contracts of the document's: period, New, When, Take, Reset, Bound; and of the program's Bound. -/
import Derived.Test.YthednonjgaedlaaPa
set_option maxRecDepth 100000
namespace Go.Proofs.Ythednonjgaedlaa
open Go.RowKit

theorem gap_step {k b : Nat} (h : k ≤ b) (hb : b ≤ 7) : gap k ≤ 1600000 := gap_le (Nat.le_trans h hb)

set_option maxHeartbeats 1000000 in
theorem rperiod_any (b : Nat) (hb : b ≤ 7) (w : World) : Calls Try.prog 23 #[.int .i64 b] w fun e w' => e = .returned (.int .i64 (gap b : Nat)) ∧ w = w' := by
  go_enter Try.func23, Try.ntmps23
  go_wp2
  go_loopw [3, 4] (fun v3 v4 wr => ∃ k : Nat, k ≤ b ∧ v3 = .int .i64 (gap k : Nat) ∧ v4 = .int .i64 k ∧ w = wr) (fun _ v4 _ => b - (intOf v4).toNat)
  case atStart => exact ⟨0, Nat.zero_le _, rfl, rfl, (by first | rfl | trivial)⟩
  case round =>
    obtain ⟨k, hk, rfl, rfl, rfl⟩ := hrel
    by_cases hlt : k < b
    · have hg := gap_step hk hb
      have hg2 := gap_succ k
      have i1 : IntKind.i64.wrap (2 * (gap k : Nat)) = (gap (k + 1) : Nat) := by rw [IntKind.wrap_i64, hg2]; omega
      have hlt' : (k : Int) < b := by omega
      clear hg2
      generalize gap k = G at i1 hg ⊢
      go_wp2
      go_roundw
      case rel => exact ⟨k + 1, by omega, by go_num, by go_num, (by first | rfl | trivial)⟩
      case measure => simp [intOf]; omega
    · have e : k = b := by omega
      subst e
      go_wp2
      go_returns
      exact ⟨rfl, rfl⟩

set_option maxHeartbeats 400000 in
theorem rnew_yes (b : Nat) (hb : b ≤ 7) (w : World) : Calls Try.prog 10 #[.int .i64 b] w fun e w' => e = .returned (.tuple #[.pointer (some ⟨w.heap.size, 0, none⟩), .int .i64 0]) ∧ w' = w.alloc ((S.new b).ref 0) := by
  have HM := fun w => Lib.hid (rperiod_any b hb w)
  have h1 : (b : Int) ≤ 7 := by omega
  have h3 : ¬ (7 : Int) < b := by omega
  clear hb
  show Calls Try.prog 10 #[.int .i64 b] w fun e w' => e = _ ∧ w' = w.alloc (.cells #[.int .i64 (gap b : Nat), .bool false, .int .i64 0, .int .i64 0, .int .i64 0] 37)
  generalize gap b = G at HM ⊢
  go_enter Try.func10, Try.ntmps10
  go_wp2_with (go_at_call 23; refine (HM _).out.mono ?_; rintro e w1 ⟨rfl, rfl⟩)
  go_returns
  exact ⟨rfl, rfl⟩
set_option maxHeartbeats 400000 in
theorem rnew_no (x : Int) (hx : x < 0 ∨ 7 < x) (w : World) : Calls Try.prog 10 #[.int .i64 x] w fun e w' => e = .returned (.tuple #[.pointer none, .int .i64 1]) ∧ w = w' := by
  rcases hx with hx | hx
  · go_enter Try.func10, Try.ntmps10
    go_wp2
    go_returns
    exact ⟨rfl, rfl⟩
  · have h2 : 0 ≤ x := by omega
    have h3 : ¬ x < 0 := by omega
    go_enter Try.func10, Try.ntmps10
    go_wp2
    go_returns
    exact ⟨rfl, rfl⟩

set_option maxHeartbeats 400000 in
theorem rreset_any (p z : Nat) (s : S) (w : World) (h : w.heap[p]? = some (s.ref z)) : Calls Try.prog 17 #[.pointer (some ⟨p, 0, none⟩)] w fun e w' => e = .returned (.tuple #[]) ∧ w'.heap[p]? = some (s.reset.ref z) ∧ w.grownBy w' (some p) := by
  have f1 : w.frozen? ⟨p, 1, none⟩ = false := lies_frozen h 1
  have c1 : w.cell? ⟨p, 1, none⟩ = some (.bool s.g) := lies_cell h 1
  have H := Lib.hid h
  clear h
  generalize s.g = g at c1
  go_enter Try.func17, Try.ntmps17
  go_wp2
  go_returns
  exact ⟨rfl, lies_set H.out 1 (.bool false), grown_set p 1 _⟩

set_option maxHeartbeats 1000000 in
theorem rwhen_any (p z : Nat) (s : S) (hs : s.Ok) (hz : s.g = true → z = s.a) (x : Int) (hx : (Lit.int .i64 x).wf = true) (w : World) (h : w.heap[p]? = some (s.ref z)) :
    Calls Try.prog 15 #[.pointer (some ⟨p, 0, none⟩), .int .i64 x] w fun e w' => e = .returned (.int .i64 (s.soon x)) ∧ ∃ m, w' = w.drewN m := by
  have c0 : w.cell? ⟨p, 0, none⟩ = some (.int .i64 (gap s.b : Nat)) := lies_cell h 0
  have c1 : w.cell? ⟨p, 1, none⟩ = some (.bool s.g) := lies_cell h 1
  have c2 : w.cell? ⟨p, 2, none⟩ = some (.int .i64 z) := lies_cell h 2
  have ha := hs.a
  have hg := gap_le hs.b
  clear h hs
  unfold S.soon
  generalize gap s.b = G at c0 hg ⊢
  generalize s.g = g at c1 hz ⊢
  cases g
  · clear hz c0 c2
    go_enter Try.func15, Try.ntmps15
    go_wp2
    go_returns
    exact ⟨rfl, 0, rfl⟩
  · obtain rfl := hz rfl
    generalize s.a = a at c2 ha ⊢
    have i1 : IntKind.i64.wrap ((a : Int) + G) = (a : Int) + G := by rw [IntKind.wrap_i64]; omega
    clear hz
    go_enter Try.func15, Try.ntmps15
    go_wp2
    go_quiet (fail)
    all_goals go_wp2
    all_goals
      go_returns
      refine ⟨?_, _, rfl⟩
      show Ending.returned (.int .i64 _) = .returned (.int .i64 _)
      congr 2
      try omega
end Go.Proofs.Ythednonjgaedlaa
