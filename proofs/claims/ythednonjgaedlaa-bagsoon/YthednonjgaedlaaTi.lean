/- Contracts of time and When (the program's). -/
import Derived.Test.YthednonjgaedlaaPa
set_option maxRecDepth 100000
namespace Go.Proofs.Ythednonjgaedlaa
open Go.RowKit

set_option maxHeartbeats 1000000 in
theorem time_yes (p a : Nat) (w : World) (c2 : w.cell? ⟨p, 2, none⟩ = some (.bool true)) (c3 : w.cell? ⟨p, 3, none⟩ = some (.int .i64 a)) :
    Calls Try.prog 24 #[.pointer (some ⟨p, 2, none⟩)] w fun e w' => e = .returned (.tuple #[.int .i64 a, .bool true]) ∧ ∃ m, w' = w.drewN m := by
  go_enter Try.func24, Try.ntmps24
  go_wp2
  go_quiet (fail)
  go_wp2
  go_returns
  exact ⟨rfl, _, rfl⟩
set_option maxHeartbeats 1000000 in
theorem time_no (p : Nat) (w : World) (c2 : w.cell? ⟨p, 2, none⟩ = some (.bool false)) (c3 : w.cell? ⟨p, 3, none⟩ = some (.int .i64 0)) :
    Calls Try.prog 24 #[.pointer (some ⟨p, 2, none⟩)] w fun e w' => e = .returned (.tuple #[.int .i64 0, .bool false]) ∧ ∃ m, w' = w.drewN m := by
  go_enter Try.func24, Try.ntmps24
  go_wp2
  go_quiet (fail)
  go_wp2
  go_returns
  exact ⟨rfl, _, rfl⟩

set_option maxHeartbeats 1000000 in
theorem when_nil (x : Int) (w : World) : Calls Try.prog 14 #[.pointer none, .int .i64 x] w fun e w' => e = .returned (.int .i64 0) ∧ w = w' := by
  go_enter Try.func14, Try.ntmps14
  go_wp2
  go_returns
  exact ⟨rfl, rfl⟩

theorem drewN_cell (w : World) (m : Nat) (a : Addr) : (w.drewN m).cell? a = w.cell? a := rfl

set_option maxHeartbeats 1000000 in
theorem when_any (p : Nat) (s : S) (hs : s.Ok) (x : Int) (hx : (Lit.int .i64 x).wf = true) (w : World) (h : w.heap[p]? = some s.obj) :
    Calls Try.prog 14 #[.pointer (some ⟨p, 0, none⟩), .int .i64 x] w fun e w' => e = .returned (.int .i64 (s.soon x)) ∧ ∃ m, w' = w.drewN m := by
  have c0 : w.cell? ⟨p, 0, none⟩ = some (.int .i64 s.b) := lies_cell h 0
  have c2 : w.cell? ⟨p, 2, none⟩ = some (.bool s.g) := lies_cell h 2
  have c3 : w.cell? ⟨p, 3, none⟩ = some (.int .i64 s.a) := lies_cell h 3
  have hb := hs.b
  have ha := hs.a
  have hz := hs.z
  have HP := fun w h => Lib.hid (perM_any p s hb w h)
  have HH := Lib.hid h
  clear h hs
  have hg2 := gap_le hb
  have hg1 := gap_ge s.b
  unfold S.soon
  have HB : Hid (∀ m, (w.drewN m).heap[p]? = some s.obj) := fun m => HH.out
  obtain ⟨G, HG⟩ : ∃ G, Hid (G = gap s.b) := ⟨_, rfl⟩
  rw [← HG.out] at HP hg1 hg2 ⊢
  generalize hgg : s.g = g at c2 hz ⊢
  generalize hee : s.a = a at c3 hz ha ⊢
  clear hgg hee
  cases g
  · have ha0 : a = 0 := hz rfl
    subst ha0
    have HT := Lib.hid (time_no p w c2 c3)
    clear hz c0 c2 c3 ha hb hg1 hg2
    go_enter Try.func14, Try.ntmps14
    go_wp2_with (go_at_call 24; refine HT.out.mono ?_; rintro e w1 ⟨rfl, m, rfl⟩)
    go_returns
    exact ⟨rfl, _, rfl⟩
  · have HT := Lib.hid (time_yes p a w c2 c3)
    have i1 : IntKind.i64.wrap ((a : Int) + G) = (a : Int) + G := by rw [IntKind.wrap_i64]; omega
    clear hz c0 c2 c3 hb
    go_enter Try.func14, Try.ntmps14
    go_wp2_with (first
      | (go_at_call 24; refine HT.out.mono ?_; rintro e w1 ⟨rfl, m, rfl⟩)
      | (go_at_call 19; refine (HP _ (HB.out _)).out.mono ?_; rintro e w1 ⟨rfl, rfl⟩))
    all_goals
      go_returns
      refine ⟨?_, _, rfl⟩
      show Ending.returned (.int .i64 _) = .returned (.int .i64 _)
      congr 2
      omega
end Go.Proofs.Ythednonjgaedlaa
