/- The program's Writer in memory; contracts of Text, fail, Bits. -/
import Derived.Test.YtiedfdnjnjohdaaBiWr
import Derived.BigRegion
import Derived.Handy
namespace Go.Proofs.Ytiedfdnjnjohdaa.Bi
open Go.RowKit Go.Proofs.PitotMath

section
variable {w w' : World} {g : Nat} {t : TypeId} {cs : Array Value}

theorem lies_lt (h : w.heap[g]? = some (.cells cs t)) : g < w.heap.size := by
  rcases Nat.lt_or_ge g w.heap.size with h1 | h1
  · exact h1
  · rw [Array.getElem?_eq_none h1] at h; cases h
theorem lies_cell (h : w.heap[g]? = some (.cells cs t)) (i : Nat) : w.cell? ⟨g, i, none⟩ = cs[i]? := by simp [World.cell?, h]
theorem lies_frozen (h : w.heap[g]? = some (.cells cs t)) (i : Nat) : w.frozen? ⟨g, i, none⟩ = false := by simp [World.frozen?, h]
theorem lies_set (h : w.heap[g]? = some (.cells cs t)) (i : Nat) (u : Value) : (w.setCell ⟨g, i, none⟩ u).heap[g]? = some (.cells (cs.setIfInBounds i u) t) := by
  simp [World.setCell, Array.getElem?_modify, h]
theorem lies_alloc (h : w.heap[g]? = some (.cells cs t)) (o : Obj) : (w.alloc o).heap[g]? = some (.cells cs t) := (Below.heap_alloc w o g (lies_lt h)).trans h
end

theorem new_at {w : World} {o : Obj} {k : Nat} (hk : w.heap.size = k) : (w.alloc o).drew.heap[k]? = some o := by
  subst hk; exact heap_alloc_new w o

/-- Pieces that are chained, the newest one first. -/
def Chain (w : World) (b : Nat) : Option Addr → List ByteArray → Prop
  | p, [] => p = none
  | p, t :: ts => ∃ c q, p = some ⟨c, 0, none⟩ ∧ c ≠ b ∧ w.heap[c]? = some (.cells #[.string t, .pointer q] 92) ∧ Chain w b q ts

theorem Chain.grown {w w' : World} {b : Nat} (hg : w.grownBy w' (some b)) : ∀ {ts : List ByteArray} {p : Option Addr}, Chain w b p ts → Chain w' b p ts
  | [], _, h => h
  | _ :: _, _, ⟨c, q, h1, h2, h3, h4⟩ => ⟨c, q, h1, h2, (hg.block c (lies_lt h3) (by simpa using h2)).trans h3, Chain.grown hg h4⟩

/-- What pieces are together, the eldest one first. -/
def flat : List ByteArray → List UInt8
  | [] => []
  | t :: ts => flat ts ++ t.data.toList

/-- The Writer in block b: none: something was wrong; some l: l was written, in no more than n pieces and what is last. -/
def WrAt (w : World) (b n : Nat) : Option (List UInt8) → Prop
  | none => w.heap[b]? = some (.cells #[.pointer none, .string ⟨#[]⟩, .bool true] 78)
  | some l => ∃ p last ts, w.heap[b]? = some (.cells #[.pointer p, .string last, .bool false] 78) ∧ Chain w b p ts ∧ ts.length ≤ n ∧ l = flat ts ++ last.data.toList

theorem grown_set {w : World} (b i : Nat) (u : Value) : w.grownBy (w.setCell ⟨b, i, none⟩ u) (some b) :=
  ⟨rfl, rfl, rfl, by simp [World.setCell], fun k _ hk => Below.heap_setCell w _ u k (by intro e; exact hk (by rw [e]))⟩

theorem grown_trans {a b c : World} {r : Option Nat} (h : a.grownBy b r) (k : b.grownBy c r) : a.grownBy c r :=
  ⟨k.os.trans h.os, k.tape.trans h.tape, k.output.trans h.output, Nat.le_trans h.size k.size, fun i hi hr => (k.block i (Nat.lt_of_lt_of_le hi h.size) hr).trans (h.block i hi hr)⟩

theorem grown_alloc {w : World} {r : Option Nat} (o : Obj) : w.grownBy (w.alloc o) r := World.grownBy_alloc w o r

theorem grown_drew {a w : World} {r : Option Nat} (h : a.grownBy w r) : a.grownBy w.drew r := ⟨h.os, h.tape, h.output, h.size, h.block⟩

set_option maxHeartbeats 400000 in
theorem text_wrong (b : Nat) (s : ByteArray) (w : World) (h : w.heap[b]? = some (.cells #[.pointer none, .string ⟨#[]⟩, .bool true] 78)) :
    Calls Try.prog 39 #[.pointer (some ⟨b, 0, none⟩), .string s] w fun e w' => e = .returned (.tuple #[]) ∧ w = w' := by
  have c2 : w.cell? ⟨b, 2, none⟩ = some (.bool true) := lies_cell h 2
  have H := Lib.hid h; clear h
  go_enter Try.func39, Try.ntmps39
  go_wp2
  go_returns
  exact ⟨rfl, rfl⟩

set_option maxHeartbeats 400000 in
theorem text_nil (s : ByteArray) (w : World) :
    Calls Try.prog 39 #[.pointer none, .string s] w fun e w' => e = .returned (.tuple #[]) ∧ w = w' := by
  go_enter Try.func39, Try.ntmps39
  go_wp2
  go_returns
  exact ⟨rfl, rfl⟩

set_option maxHeartbeats 400000 in
theorem text_small (b : Nat) (s last : ByteArray) (p : Option Addr) (w : World) (h : w.heap[b]? = some (.cells #[.pointer p, .string last, .bool false] 78)) (hs : last.size + s.size ≤ 64) :
    Calls Try.prog 39 #[.pointer (some ⟨b, 0, none⟩), .string s] w fun e w' => e = .returned (.tuple #[]) ∧ w' = w.setCell ⟨b, 1, none⟩ (.string (last ++ s)) := by
  have c0 : w.cell? ⟨b, 0, none⟩ = some (.pointer p) := lies_cell h 0
  have c1 : w.cell? ⟨b, 1, none⟩ = some (.string last) := lies_cell h 1
  have c2 : w.cell? ⟨b, 2, none⟩ = some (.bool false) := lies_cell h 2
  have f1 : w.frozen? ⟨b, 1, none⟩ = false := lies_frozen h 1
  have H := Lib.hid h; clear h
  go_enter Try.func39, Try.ntmps39
  go_wp2
  go_returns
  exact ⟨rfl, rfl⟩

set_option maxHeartbeats 400000 in
theorem text_big (b : Nat) (s last : ByteArray) (p : Option Addr) (w : World) (h : w.heap[b]? = some (.cells #[.pointer p, .string last, .bool false] 78)) (hs : 64 < last.size + s.size) (h1 : last.size ≤ 1000000) (h2 : s.size ≤ 1000000) :
    Calls Try.prog 39 #[.pointer (some ⟨b, 0, none⟩), .string s] w fun e w' => e = .returned (.tuple #[]) ∧
      w'.heap[b]? = some (.cells #[.pointer (some ⟨w.heap.size, 0, none⟩), .string s, .bool false] 78) ∧ w'.heap[w.heap.size]? = some (.cells #[.string last, .pointer p] 92) ∧ w.grownBy w' (some b) := by
  have c0 : w.cell? ⟨b, 0, none⟩ = some (.pointer p) := lies_cell h 0
  have c1 : w.cell? ⟨b, 1, none⟩ = some (.string last) := lies_cell h 1
  have c2 : w.cell? ⟨b, 2, none⟩ = some (.bool false) := lies_cell h 2
  have f1 : w.frozen? ⟨b, 1, none⟩ = false := lies_frozen h 1
  have f0 : w.frozen? ⟨b, 0, none⟩ = false := lies_frozen h 0
  have hlt := lies_lt h
  have H := Lib.hid h; clear h
  go_enter Try.func39, Try.ntmps39
  go_wp2
  go_region
  go_wp2
  go_returns
  have hz : (({ data := #[] } : ByteArray) ++ s) = s := by
    apply ByteArray.ext
    simp
  have H1 := lies_set (lies_set (lies_set H.out 0 (.pointer (some ⟨w.heap.size, 0, none⟩))) 1 (.string ⟨#[]⟩)) 1 (.string (({ data := #[] } : ByteArray) ++ s))
  have H2 := lies_alloc H1 (.cells #[.string last, .pointer p] 92)
  rw [hz] at H2
  refine ⟨rfl, ?_, ?_, ?_⟩
  · rw [hz]; exact H2
  · exact new_at (by simp)
  · exact grown_drew (grown_trans (grown_trans (grown_trans (grown_set b 0 _) (grown_set b 1 _)) (grown_set b 1 _)) (grown_alloc _))

theorem flat_bd {ts : List ByteArray} {last : ByteArray} {l : List UInt8} (h : l = flat ts ++ last.data.toList) : last.size ≤ l.length := by
  rw [h, List.length_append]; show last.data.size ≤ _; simp

/-- Text puts bytes behind, unless something was wrong. -/
theorem text_any (b n : Nat) (st : Option (List UInt8)) (s : ByteArray) (w : World) (h : WrAt w b n st) (h1 : ∀ l, st = some l → l.length ≤ 1000000) (h2 : s.size ≤ 1000000) :
    Calls Try.prog 39 #[.pointer (some ⟨b, 0, none⟩), .string s] w fun e w' => e = .returned (.tuple #[]) ∧ WrAt w' b (n + 1) (st.map (· ++ s.data.toList)) ∧ w.grownBy w' (some b) := by
  match st, h with
  | none, h => exact (text_wrong b s w h).mono fun e w' ⟨he, hw⟩ => by subst hw; exact ⟨he, h, World.grownBy.refl w _⟩
  | some l, ⟨p, last, ts, hb, hc, hn, hl⟩ =>
    have hll := h1 l rfl
    have hbd := flat_bd hl
    by_cases hs : last.size + s.size ≤ 64
    · refine (text_small b s last p w hb hs).mono fun e w' ⟨he, hw⟩ => ?_
      subst hw
      have hg : w.grownBy (w.setCell ⟨b, 1, none⟩ (.string (last ++ s))) (some b) := grown_set b 1 _
      refine ⟨he, ⟨p, last ++ s, ts, lies_set hb 1 _, Chain.grown hg hc, by omega, ?_⟩, hg⟩
      rw [hl]; simp
    · refine (text_big b s last p w hb (by omega) (by omega) h2).mono fun e w' ⟨he, hb', hp', hg⟩ => ?_
      refine ⟨he, ⟨_, s, last :: ts, hb', ⟨w.heap.size, p, rfl, by have := lies_lt hb; omega, hp', Chain.grown hg hc⟩, by simp; omega, ?_⟩, hg⟩
      rw [hl]; rfl

set_option maxHeartbeats 400000 in
theorem fail_any (b n : Nat) (l : List UInt8) (w : World) (h : WrAt w b n (some l)) :
    Calls Try.prog 43 #[.pointer (some ⟨b, 0, none⟩)] w fun e w' => e = .returned (.tuple #[]) ∧ WrAt w' b n none ∧ w.grownBy w' (some b) := by
  obtain ⟨p, last, ts, hb, hc, hn, hl⟩ := h
  have c0 : w.cell? ⟨b, 0, none⟩ = some (.pointer p) := lies_cell hb 0
  have c1 : w.cell? ⟨b, 1, none⟩ = some (.string last) := lies_cell hb 1
  have c2 : w.cell? ⟨b, 2, none⟩ = some (.bool false) := lies_cell hb 2
  have f0 : w.frozen? ⟨b, 0, none⟩ = false := lies_frozen hb 0
  have f1 : w.frozen? ⟨b, 1, none⟩ = false := lies_frozen hb 1
  have f2 : w.frozen? ⟨b, 2, none⟩ = false := lies_frozen hb 2
  have H := Lib.hid hb; clear hb hl hc hn
  go_enter Try.func43, Try.ntmps43
  go_wp2
  go_returns
  refine ⟨rfl, ?_, grown_trans (grown_trans (grown_set b 0 _) (grown_set b 1 _)) (grown_set b 2 _)⟩
  exact lies_set (lies_set (lies_set H.out 0 (.pointer none)) 1 (.string ⟨#[]⟩)) 2 (.bool true)
end Go.Proofs.Ytiedfdnjnjohdaa.Bi
