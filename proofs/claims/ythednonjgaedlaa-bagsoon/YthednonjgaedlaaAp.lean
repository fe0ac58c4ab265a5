/- How many frames go in an interval; a regulator in memory beside two numbers; lists of ticks. -/
import Derived.Test.YthednonjgaedlaaAw
import Derived.Test.YthednonjgaedlaaOp
set_option maxRecDepth 100000
set_option linter.unusedVariables false
namespace Go.Proofs.Ythednonjgaedlaa
open Go.RowKit Go.ChangeShapes Go.WideShapes

section
variable {H : Type} {enc : TypeId × Value → H} {w : World} {base : Nat} {spare : Nat → Bool} {held : Bool}
theorem ticks_open {fuel : Nat} {v : Value} {x : DataW H × List MemPlace} (h : DataW.trod enc Try.prog w base spare held fuel 42 [v] = some x) :
    ∃ Ad cap l, v = .slice Ad (List.length l) cap ∧ IntsAt w Ad l ∧ l.length ≤ maxLen ∧ ∀ n ∈ l, (Lit.int .i64 n).wf = true := by
  obtain ⟨A, cap, xs, e, h1, h2, h3⟩ := ints_open Try.underlying42 Try.underlying3 (by kernel_rfl) h
  exact ⟨A, cap, xs, e, h1, h2, h3⟩
end

/-- c frames went in the interval of L ticks from m on: the last frame is so far behind its begin. -/
def Cnt (m L : Int) (s : S) (c : Nat) : Prop := c = 0 ∨ (s.g = true ∧ m + (((c - 1) * gap s.b : Nat) : Int) ≤ s.a ∧ (((c - 1) * gap s.b : Nat) : Int) < L)
theorem cnt_zero (m L : Int) (s : S) : Cnt m L s 0 := Or.inl rfl
theorem took_next {s : S} {x : Int} (h : s.code x = 0) : s.next x = s.took x := by unfold S.next; rw [if_pos h]
theorem cnt_no {m L : Int} {s : S} {c : Nat} (h : Cnt m L s c) {x : Int} (h0 : s.code x = 0) : Cnt m L (s.took x) c := by
  obtain ⟨h1, h2, h3, h4⟩ := code_zero h0
  rcases h with h | ⟨hg, h5, h6⟩
  · exact Or.inl h
  · have h7 := h4 hg
    refine Or.inr ⟨rfl, ?_, h6⟩
    show m + (((c - 1) * gap s.b : Nat) : Int) ≤ (x.toNat : Nat)
    omega
theorem cnt_yes {m L : Int} {s : S} {c : Nat} (h : Cnt m L s c) {x : Int} (h0 : s.code x = 0) (hm : m ≤ x) (hl : x - m < L) : Cnt m L (s.took x) (c + 1) := by
  obtain ⟨h1, h2, h3, h4⟩ := code_zero h0
  refine Or.inr ⟨rfl, ?_, ?_⟩
  all_goals
    show _
    rw [show (s.took x).b = s.b from rfl, Nat.add_sub_cancel]
    try rw [show (s.took x).a = x.toNat from rfl]
  all_goals
    rcases h with rfl | ⟨hg, h5, h6⟩
    · rw [Nat.zero_mul]; omega
    · have h7 := h4 hg
      rcases Nat.eq_zero_or_pos c with hc | hc
      · subst hc; rw [Nat.zero_mul]; omega
      · have e : c * gap s.b = (c - 1) * gap s.b + gap s.b := by
          obtain ⟨d, rfl⟩ : ∃ d, c = d + 1 := ⟨c - 1, by omega⟩
          rw [Nat.add_sub_cancel, Nat.succ_mul]
        rw [e]
        omega
theorem cnt_le {m : Int} {t : Nat} {s : S} {c : Nat} (h : Cnt m t s c) : c ≤ bound s.b t := by
  unfold bound
  have hG := gap_pos s.b
  rcases h with rfl | ⟨_, _, h6⟩
  · exact Nat.zero_le _
  · rw [Nat.le_div_iff_mul_le hG]
    rcases Nat.eq_zero_or_pos c with hc | hc
    · subst hc; rw [Nat.zero_mul]; exact Nat.zero_le _
    · have e : c * gap s.b = (c - 1) * gap s.b + gap s.b := by
        obtain ⟨d, rfl⟩ : ∃ d, c = d + 1 := ⟨c - 1, by omega⟩
        rw [Nat.add_sub_cancel, Nat.succ_mul]
      have h7 : (c - 1) * gap s.b < t := by exact_mod_cast h6
      omega
/-- A regulator in block p, and whatever lies ahead of it. -/
structure Al (w : World) (B : Nat) (ob : Option Obj) (p : Nat) (s : S) (V : World) : Prop where
  ok : s.Ok
  pr : V.heap[p]? = some s.obj
  bel : Below B w V
  op : ∀ o, ob = some o → V.heap[B]? = some o
  far : B ≤ p ∧ (ob ≠ none → B < p)
theorem Al.next {w : World} {B : Nat} {ob : Option Obj} {p : Nat} {s : S} {V V' : World} (h : Al w B ob p s V) {s' : S} (ok : s'.Ok) (hp : V'.heap[p]? = some s'.obj) (hg : V.grownBy V' (some p)) (hB : B ≤ V.heap.size) : Al w B ob p s' V' :=
  ⟨ok, hp, h.bel.grown hg hB (fun k e => by cases e; exact h.far.1), fun o e => (hg.block B (Array.getElem?_eq_some_iff.1 (h.op o e)).1 (by have := h.far.2 (by rw [e]; simp); simp; omega)).trans (h.op o e), h.far⟩
theorem Al.drewN {w : World} {B : Nat} {ob : Option Obj} {p : Nat} {s : S} {V : World} (h : Al w B ob p s V) (m : Nat) : Al w B ob p s (V.drewN m) := ⟨h.ok, h.pr, below_drewN h.bel m, h.op, h.far⟩
theorem Al.size {w : World} {B : Nat} {ob : Option Obj} {p : Nat} {s : S} {V : World} (h : Al w B ob p s V) : B ≤ V.heap.size := Nat.le_trans h.far.1 (Nat.le_of_lt (lies_lt h.pr))
/-- Take, at whatever world the regulator lies in. -/
theorem Al.take {w : World} {B : Nat} {ob : Option Obj} {p : Nat} {s : S} {V : World} (h : Al w B ob p s V) (x : Int) (hx : (Lit.int .i64 x).wf = true) (hn : s.n < 1000000) :
    Calls Try.prog 12 #[.pointer (some ⟨p, 0, none⟩), .int .i64 x] V fun e V' => e = .returned (.int .i64 (s.code x)) ∧ Al w B ob p (s.next x) V' :=
  (take_any p s h.ok x hx V h.pr).mono fun e V' ⟨h1, h2, h3⟩ => ⟨h1, h.next (ok_next h.ok x hn) h2 h3 h.size⟩
end Go.Proofs.Ythednonjgaedlaa
