/- Contract of Take (the program's). -/
import Derived.Test.YthednonjgaedlaaTi
set_option maxRecDepth 100000
namespace Go.Proofs.Ythednonjgaedlaa
open Go.RowKit

set_option maxHeartbeats 1000000 in
theorem take_nil (x : Int) (w : World) : Calls Try.prog 12 #[.pointer none, .int .i64 x] w fun e w' => e = .returned (.int .i64 2) ∧ w = w' := by
  go_enter Try.func12, Try.ntmps12
  go_wp2
  go_returns
  exact ⟨rfl, rfl⟩

set_option maxHeartbeats 2000000 in
theorem take_any (p : Nat) (s : S) (hs : s.Ok) (x : Int) (hx : (Lit.int .i64 x).wf = true) (w : World) (h : w.heap[p]? = some s.obj) :
    Calls Try.prog 12 #[.pointer (some ⟨p, 0, none⟩), .int .i64 x] w fun e w' => e = .returned (.int .i64 (s.code x)) ∧ w'.heap[p]? = some (s.next x).obj ∧ w.grownBy w' (some p) := by
  have HW := Lib.hid (when_any p s hs x hx w h)
  have g0 := World.grownBy.refl w (some p)
  by_cases h1 : x < 0
  · have e1 : s.code x = 1 := by unfold S.code; rw [if_pos (Or.inl h1)]
    have e2 : s.next x = s := by unfold S.next; rw [if_neg (by rw [e1]; decide)]
    rw [e1, e2]
    have HH := Lib.hid h
    clear h hs HW e1 e2
    go_enter Try.func12, Try.ntmps12
    go_wp2
    go_returns
    exact ⟨rfl, HH.out, g0⟩
  by_cases h2 : 1125899906842624 < x
  · have e1 : s.code x = 1 := by unfold S.code; rw [if_pos (Or.inr h2)]
    have e2 : s.next x = s := by unfold S.next; rw [if_neg (by rw [e1]; decide)]
    rw [e1, e2]
    have HH := Lib.hid h
    have h1' : 0 ≤ x := by omega
    clear h hs HW e1 e2 h1
    go_enter Try.func12, Try.ntmps12
    go_wp2
    go_returns
    exact ⟨rfl, HH.out, g0⟩
  have h1' : 0 ≤ x := by omega
  have h2' : x ≤ 1125899906842624 := by omega
  have n1 : ¬ (x < 0 ∨ 1125899906842624 < x) := by omega
  by_cases h3 : x < s.l
  · have e1 : s.code x = 24 := by unfold S.code; rw [if_neg n1, if_pos h3]
    have e2 : s.next x = s := by unfold S.next; rw [if_neg (by rw [e1]; decide)]
    rw [e1, e2]
    have c4 : w.cell? ⟨p, 4, none⟩ = some (.int .i64 s.l) := lies_cell h 4
    have HH := Lib.hid h
    generalize s.l = l at c4 h3
    clear h hs HW e1 e2 h1 h2 n1
    go_enter Try.func12, Try.ntmps12
    go_wp2
    go_returns
    exact ⟨rfl, HH.out, g0⟩
  have h3' : (s.l : Int) ≤ x := by omega
  by_cases h4 : s.g = true ∧ x < s.a + gap s.b
  · have e1 : s.code x = 26 := by unfold S.code; rw [if_neg n1, if_neg h3, if_pos h4]
    have e2 : s.next x = s := by unfold S.next; rw [if_neg (by rw [e1]; decide)]
    have e3 : s.soon x = s.a + gap s.b := by unfold S.soon; rw [if_pos h4.1]; omega
    rw [e1, e2]
    rw [e3] at HW
    have c4 : w.cell? ⟨p, 4, none⟩ = some (.int .i64 s.l) := lies_cell h 4
    have HH := Lib.hid h
    have h5 := h4.2
    generalize s.l = l at c4 h3'
    generalize ((s.a : Int) + gap s.b) = z at h5 HW
    clear h hs e1 e2 e3 h1 h2 n1 h3 h4
    go_enter Try.func12, Try.ntmps12
    go_wp2_with (go_at_call 14; refine HW.out.mono ?_; rintro e w1 ⟨rfl, m, rfl⟩)
    go_returns
    exact ⟨rfl, HH.out, grown_drewN g0 _⟩
  · have e1 : s.code x = 0 := by unfold S.code; rw [if_neg n1, if_neg h3, if_neg h4]
    have e2 : s.next x = s.took x := by unfold S.next; rw [if_pos e1]
    have e3 : s.soon x = x := by
      unfold S.soon
      split
      · rename_i hg
        have : ¬ x < s.a + gap s.b := fun h => h4 ⟨hg, h⟩
        omega
      · rfl
    rw [e1, e2]
    rw [e3] at HW
    have hn := hs.n
    have i1 : IntKind.i64.wrap ((s.n : Int) + 1) = (s.n : Int) + 1 := by rw [IntKind.wrap_i64]; omega
    have HH := Lib.hid h
    have c1 : w.cell? ⟨p, 1, none⟩ = some (.int .i64 s.n) := lies_cell h 1
    have c2 : w.cell? ⟨p, 2, none⟩ = some (.bool s.g) := lies_cell h 2
    have c3 : w.cell? ⟨p, 3, none⟩ = some (.int .i64 s.a) := lies_cell h 3
    have c4 : w.cell? ⟨p, 4, none⟩ = some (.int .i64 s.l) := lies_cell h 4
    have f1 : w.frozen? ⟨p, 1, none⟩ = false := lies_frozen h 1
    have f2 : w.frozen? ⟨p, 2, none⟩ = false := lies_frozen h 2
    have f3 : w.frozen? ⟨p, 3, none⟩ = false := lies_frozen h 3
    have f4 : w.frozen? ⟨p, 4, none⟩ = false := lies_frozen h 4
    have hobj : (s.took x).obj = .cells #[.int .i64 s.b, .int .i64 ((s.n : Int) + 1), .bool true, .int .i64 x, .int .i64 x] 50 := by
      unfold S.took S.obj
      have : ((x.toNat : Nat) : Int) = x := by omega
      simp only [this]
      simp
    have hold : Hid (w.heap[p]? = some (.cells #[.int .i64 s.b, .int .i64 s.n, .bool s.g, .int .i64 s.a, .int .i64 s.l] 50)) := h
    rw [hobj]
    generalize s.b = sb at hold ⊢
    generalize s.n = sn at hold c1 i1 hn ⊢
    generalize s.g = sg at hold c2
    generalize s.a = sa at hold c3
    generalize s.l = sl at hold c4 h3'
    clear h hs e1 e2 e3 h1 h2 n1 h3 h4 hobj HH hx
    go_enter Try.func12, Try.ntmps12
    go_wp2_with (go_at_call 14; refine HW.out.mono ?_; rintro e w1 ⟨rfl, m, rfl⟩)
    go_returns
    refine ⟨rfl, ?_, ?_⟩
    · have k0 : (w.drewN m).heap[p]? = some (.cells #[.int .i64 sb, .int .i64 sn, .bool sg, .int .i64 sa, .int .i64 sl] 50) := hold.out
      have k1 := lies_set k0 1 (.int .i64 ((sn : Int) + 1))
      have k2 := lies_set k1 2 (.bool true)
      have k3 := lies_set k2 3 (.int .i64 x)
      exact lies_set k3 4 (.int .i64 x)
    · exact ((((grown_drewN g0 m).trans (grown_set p 1 _)).trans (grown_set p 2 _)).trans (grown_set p 3 _)).trans (grown_set p 4 _)
end Go.Proofs.Ythednonjgaedlaa
