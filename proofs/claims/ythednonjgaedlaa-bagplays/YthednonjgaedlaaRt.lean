/- Contract of the document's Take. -/
import Derived.Test.YthednonjgaedlaaRe
set_option maxRecDepth 100000
set_option linter.unusedVariables false
namespace Go.Proofs.Ythednonjgaedlaa
open Go.RowKit

set_option maxHeartbeats 2000000 in
theorem rtake_any (p z : Nat) (s : S) (hs : s.Ok) (hz : s.g = true → z = s.a) (x : Int) (w : World) (h : w.heap[p]? = some (s.ref z)) :
    Calls Try.prog 13 #[.pointer (some ⟨p, 0, none⟩), .int .i64 x] w fun e w' => e = .returned (.int .i64 (s.code x)) ∧ (∃ z', w'.heap[p]? = some ((s.next x).ref z') ∧ ((s.next x).g = true → z' = (s.next x).a)) ∧ w.grownBy w' (some p) := by
  have g0 := World.grownBy.refl w (some p)
  by_cases h1 : x < 0
  · have e1 : s.code x = 1 := by unfold S.code; rw [if_pos (Or.inl h1)]
    have e2 : s.next x = s := by unfold S.next; rw [if_neg (by rw [e1]; decide)]
    rw [e1, e2]
    have HH := Lib.hid h
    clear h hs e1 e2
    go_enter Try.func13, Try.ntmps13
    go_wp2
    go_returns
    exact ⟨rfl, ⟨z, HH.out, hz⟩, g0⟩
  by_cases h2 : 1125899906842624 < x
  · have e1 : s.code x = 1 := by unfold S.code; rw [if_pos (Or.inr h2)]
    have e2 : s.next x = s := by unfold S.next; rw [if_neg (by rw [e1]; decide)]
    rw [e1, e2]
    have HH := Lib.hid h
    have h1' : 0 ≤ x := by omega
    clear h hs e1 e2
    go_enter Try.func13, Try.ntmps13
    go_wp2
    go_returns
    exact ⟨rfl, ⟨z, HH.out, hz⟩, g0⟩
  have h1' : 0 ≤ x := by omega
  have h2' : x ≤ 1125899906842624 := by omega
  have n1 : ¬ (x < 0 ∨ 1125899906842624 < x) := by omega
  have c3 : w.cell? ⟨p, 3, none⟩ = some (.int .i64 s.l) := lies_cell h 3
  by_cases h3 : x < s.l
  · have e1 : s.code x = 24 := by unfold S.code; rw [if_neg n1, if_pos h3]
    have e2 : s.next x = s := by unfold S.next; rw [if_neg (by rw [e1]; decide)]
    rw [e1, e2]
    have HH := Lib.hid h
    generalize s.l = l at c3 h3
    clear h hs e1 e2 n1
    go_enter Try.func13, Try.ntmps13
    go_wp2
    go_returns
    exact ⟨rfl, ⟨z, HH.out, hz⟩, g0⟩
  have h3' : (s.l : Int) ≤ x := by omega
  have c0 : w.cell? ⟨p, 0, none⟩ = some (.int .i64 (gap s.b : Nat)) := lies_cell h 0
  have c1 : w.cell? ⟨p, 1, none⟩ = some (.bool s.g) := lies_cell h 1
  have c2 : w.cell? ⟨p, 2, none⟩ = some (.int .i64 z) := lies_cell h 2
  have c4 : w.cell? ⟨p, 4, none⟩ = some (.int .i64 s.n) := lies_cell h 4
  have ha := hs.a
  by_cases h4 : s.g = true ∧ x < s.a + gap s.b
  · have e1 : s.code x = 26 := by unfold S.code; rw [if_neg n1, if_neg h3, if_pos h4]
    have e2 : s.next x = s := by unfold S.next; rw [if_neg (by rw [e1]; decide)]
    rw [e1, e2]
    have HH := Lib.hid h
    have ez := hz h4.1
    rw [h4.1] at c1
    have HZ := Lib.hid hz
    have i1 : IntKind.i64.wrap (x - (z : Int)) = x - (z : Int) := by rw [IntKind.wrap_i64]; omega
    have h5 : x - (z : Int) < (gap s.b : Nat) := by have := h4.2; omega
    generalize s.l = l at c3 h3'
    generalize gap s.b = G at c0 h5
    generalize s.n = n at c4
    clear h hs hz e1 e2 n1 h3 h4 ez ha h1 h2
    go_enter Try.func13, Try.ntmps13
    go_wp2
    go_quiet (fail)
    go_wp2
    go_returns
    exact ⟨rfl, ⟨z, HH.out, HZ.out⟩, grown_drewN g0 _⟩
  · have e1 : s.code x = 0 := by unfold S.code; rw [if_neg n1, if_neg h3, if_neg h4]
    have e2 : s.next x = s.took x := by unfold S.next; rw [if_pos e1]
    rw [e1, e2]
    have hn := hs.n
    have i1 : IntKind.i64.wrap ((s.n : Int) + 1) = (s.n : Int) + 1 := by rw [IntKind.wrap_i64]; omega
    have f1 : w.frozen? ⟨p, 1, none⟩ = false := lies_frozen h 1
    have f2 : w.frozen? ⟨p, 2, none⟩ = false := lies_frozen h 2
    have f3 : w.frozen? ⟨p, 3, none⟩ = false := lies_frozen h 3
    have f4 : w.frozen? ⟨p, 4, none⟩ = false := lies_frozen h 4
    have hobj : Hid ((s.took x).ref x.toNat = .cells #[.int .i64 (gap s.b : Nat), .bool true, .int .i64 x, .int .i64 x, .int .i64 ((s.n : Int) + 1)] 37) := by
      show _ = _
      unfold S.took S.ref
      have : ((x.toNat : Nat) : Int) = x := by omega
      simp only [this]
      simp
    have hold : Hid (w.heap[p]? = some (.cells #[.int .i64 (gap s.b : Nat), .bool s.g, .int .i64 z, .int .i64 s.l, .int .i64 s.n] 37)) := h
    have hfin : Hid (∀ w' : World, w'.heap[p]? = some (.cells #[.int .i64 (gap s.b : Nat), .bool true, .int .i64 x, .int .i64 x, .int .i64 ((s.n : Int) + 1)] 37) → (∃ z', w'.heap[p]? = some ((s.took x).ref z') ∧ ((s.took x).g = true → z' = (s.took x).a))) :=
      fun w' h => ⟨x.toNat, by rw [hobj.out]; exact h, fun _ => rfl⟩
    clear hobj
    have hwalk : Calls Try.prog 13 #[.pointer (some ⟨p, 0, none⟩), .int .i64 x] w fun e w' => e = .returned (.int .i64 0) ∧ w'.heap[p]? = some (.cells #[.int .i64 (gap s.b : Nat), .bool true, .int .i64 x, .int .i64 x, .int .i64 ((s.n : Int) + 1)] 37) ∧ w.grownBy w' (some p) := by
      have hgg : s.g = true → (z : Int) = s.a ∧ ¬ x - (z : Int) < (gap s.b : Nat) := fun e => by
        have e3 := hz e
        have : ¬ x < s.a + gap s.b := fun h => h4 ⟨e, h⟩
        omega
      clear hfin
      generalize gap s.b = G at hold c0 hgg ⊢
      generalize s.n = sn at hold c4 i1 hn ⊢
      generalize hg : s.g = sg at hold c1 hgg
      generalize s.l = sl at hold c3 h3'
      clear h hs hz e1 e2 n1 h3 h4 hg h1 h2
      cases sg
      · clear hgg
        go_enter Try.func13, Try.ntmps13
        go_wp2
        go_quiet (fail)
        go_wp2
        go_returns
        refine ⟨rfl, ?_, ?_⟩
        · have k0 : (w.drewN nq).heap[p]? = some (.cells #[.int .i64 G, .bool false, .int .i64 z, .int .i64 sl, .int .i64 sn] 37) := hold.out
          have k1 := lies_set k0 1 (.bool true)
          have k2 := lies_set k1 2 (.int .i64 x)
          have k3 := lies_set k2 3 (.int .i64 x)
          exact lies_set k3 4 (.int .i64 ((sn : Int) + 1))
        · exact ((((grown_drewN g0 _).trans (grown_set p 1 _)).trans (grown_set p 2 _)).trans (grown_set p 3 _)).trans (grown_set p 4 _)
      · obtain ⟨ez, hlt⟩ := hgg rfl
        have i2 : IntKind.i64.wrap (x - (z : Int)) = x - (z : Int) := by rw [IntKind.wrap_i64]; omega
        clear ez ha hgg
        go_enter Try.func13, Try.ntmps13
        go_wp2
        go_quiet (fail)
        go_wp2
        go_returns
        refine ⟨rfl, ?_, ?_⟩
        · have k0 : (w.drewN nq).heap[p]? = some (.cells #[.int .i64 G, .bool true, .int .i64 z, .int .i64 sl, .int .i64 sn] 37) := hold.out
          have k1 := lies_set k0 1 (.bool true)
          have k2 := lies_set k1 2 (.int .i64 x)
          have k3 := lies_set k2 3 (.int .i64 x)
          exact lies_set k3 4 (.int .i64 ((sn : Int) + 1))
        · exact ((((grown_drewN g0 _).trans (grown_set p 1 _)).trans (grown_set p 2 _)).trans (grown_set p 3 _)).trans (grown_set p 4 _)
    exact hwalk.mono fun e w' ⟨a, b, c⟩ => ⟨a, hfin.out w' b, c⟩
end Go.Proofs.Ythednonjgaedlaa
