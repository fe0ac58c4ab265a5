/- The document's Load: its regions that append a number. -/
import Derived.Test.YtdgkanamceeheaaGreatM10
import Derived.Test.YtdgkanamceeheaaGreatM7
import Derived.Deep.RegionHeld3
import Derived.Deep.AppendSrc
import Derived.Test.YtdgkanamceeheaaGreatM11
import Derived.Deep.AppendLies
import Derived.Test.YtdgkanamceeheaaGreatM9
set_option linter.unusedVariables false
set_option maxRecDepth 100000
set_option linter.unusedVariables false
namespace Go.Proofs.YtdgkanamceeheaaGreat.Im
open Go.RowKit
open PitotImg (St rd)
theorem info3 : (Tryz.prog.info? 3).map (fun i => (i.zero, i.size, i.bytes)) = some (some (.int .i64 0), 1, 8) := by kernel_rfl
/-- Blocks below a bound are as they were, but two. -/
structure Fr (base a b : Nat) (w w' : World) : Prop where
  os : w'.os = w.os
  tape : w'.tape = w.tape
  output : w'.output = w.output
  size : w.heap.size ≤ w'.heap.size
  block : ∀ k, k < base → k ≠ a → k ≠ b → k < w.heap.size → w'.heap[k]? = w.heap[k]?
theorem Fr.dr {base a b : Nat} {w : World} : Fr base a b w w.drew := ⟨rfl, rfl, rfl, Nat.le_refl _, fun _ _ _ _ _ => rfl⟩
theorem Fr.refl {base a b : Nat} {w : World} : Fr base a b w w := ⟨rfl, rfl, rfl, Nat.le_refl _, fun _ _ _ _ _ => rfl⟩
theorem Fr.trans {base a b : Nat} {w w' w'' : World} (h : Fr base a b w w') (k : Fr base a b w' w'') : Fr base a b w w'' :=
  ⟨k.os.trans h.os, k.tape.trans h.tape, k.output.trans h.output, Nat.le_trans h.size k.size, fun i h1 h2 h3 h4 => (k.block i h1 h2 h3 (Nat.lt_of_lt_of_le h4 h.size)).trans (h.block i h1 h2 h3 h4)⟩
theorem Fr.grown {base a b : Nat} {w w' : World} (hg : w.grownBy w' (some a)) : Fr base a b w w' :=
  ⟨hg.os, hg.tape, hg.output, hg.size, fun k _ h2 _ h4 => hg.block k h4 (by simpa using h2)⟩
theorem Fr.of_grown {base a b : Nat} {w w' w'' : World} (h : Fr base a b w w') (hg : w'.grownBy w'' (some a)) : Fr base a b w w'' := h.trans (Fr.grown hg)
theorem Fr.al {base a b : Nat} {w w' : World} (h : Fr base a b w w') (o : Obj) : Fr base a b w (w'.alloc o) := h.of_grown (Bi.grown_alloc o)
theorem Fr.set {base a b : Nat} {w w' : World} {i : Nat} {u : Value} (h : Fr base a b w w') : Fr base a b w (w'.setCell ⟨b, i, none⟩ u) :=
  h.trans ⟨rfl, rfl, rfl, by simp [World.setCell], fun k _ _ h3 _ => Below.heap_setCell w' _ u k (by intro e; exact h3 (by rw [e]))⟩
theorem own_neg {w : World} {base n e sz : Nat} {v : Value} {xs : List Value} {k : Nat} (h : w.ownsRow base e sz v n xs) (hk : k < base) : some k ≠ v.ownBlock := fun e => by
  have := (h.lt k e.symm).1
  omega
theorem own_ne {w : World} {base n e sz : Nat} {v : Value} {xs : List Value} {k : Nat} (h : w.ownsRow base e sz v n xs) (hk : k < base) : v.ownBlock = none ∨ v.ownBlock ≠ some k := .inr fun e => own_neg h hk e.symm
theorem Fr.app {base a b e sz n : Nat} {w w' w'' : World} {v : Value} {xs : List Value} (h : Fr base a b w w') (hr : w'.ownsRow base e sz v n xs) (hg : w'.grownBy w'' v.ownBlock) : Fr base a b w w'' :=
  h.trans ⟨hg.os, hg.tape, hg.output, hg.size, fun k h1 _ _ h4 => hg.block k h4 (own_neg hr h1)⟩
theorem heap_set_ne {w : World} {k r i : Nat} {u : Value} (h : k ≠ r) : (w.setCell ⟨k, i, none⟩ u).heap[r]? = w.heap[r]? := Below.heap_setCell w _ u r (by intro e; exact h e.symm)
theorem RS.al {T : TypeId} {w : World} {r : Nat} {σ : St} (h : RS T w r σ) (o : Obj) : RS T (w.alloc o) r σ := h.keep (Below.heap_alloc w o r h.lt)
end Go.Proofs.YtdgkanamceeheaaGreat.Im
/- How great what is read may be. It imports nothing of the program. -/
set_option linter.unusedVariables false
namespace Go.Proofs.PitotImg
open Go.Proofs.PitotMath Go.Proofs.PitotConf

theorem flat_of {α : Type} (E : α → List UInt8) (c : Nat) : ∀ (xs : List α), (∀ x ∈ xs, c ≤ (E x).length) → c * xs.length ≤ (xs.flatMap E).length
  | [], _ => by simp
  | y :: ys, h => by
    rw [List.flatMap_cons, List.length_append, List.length_cons, Nat.mul_add]
    have := h y (List.mem_cons_self ..)
    have := flat_of E c ys (fun x hx => h x (List.mem_cons_of_mem _ hx))
    omega
theorem flat_mem {α : Type} (E : α → List UInt8) : ∀ (xs : List α) (x : α), x ∈ xs → (E x).length ≤ (xs.flatMap E).length
  | [], x, h => by cases h
  | y :: ys, x, h => by
    rw [List.flatMap_cons, List.length_append]
    rcases List.mem_cons.1 h with rfl | h
    · omega
    · have := flat_mem E ys x h; omega
theorem manyW_of {α : Type} (E : α → List UInt8) (xs : List α) : (manyW E xs).length = 2 + (xs.flatMap E).length := by rw [manyW, List.length_append, w_length]
theorem winW_l (x : Win) : (winW x).length = 10 := by simp only [winW, List.length_append, w_length]
theorem vlW_l (x : Vl) : 13 + 2 * x.to.length ≤ (vlW x).length := by
  have := flat_of (w 2) 2 x.to (fun y _ => by rw [w_length]; omega)
  simp only [vlW, List.length_append, w_length, manyW_of]; omega
theorem prtW_l (x : Prt) : (prtW x).length = 25 := by simp only [prtW, List.length_append, w_length]
/-- The lists of a network are no longer than its bytes. -/
theorem cf_sizes (c : Cf) : 2 * c.parts.length + 10 * c.wins.length + 13 * c.vls.length + 25 * c.ports.length ≤ (cfW c).length ∧ ∀ v ∈ c.vls, 2 * v.to.length ≤ (cfW c).length := by
  have a := flat_of (w 2) 2 c.parts (fun y _ => by rw [w_length]; omega)
  have b := flat_of winW 10 c.wins (fun y _ => by rw [winW_l]; omega)
  have d := flat_of vlW 13 c.vls (fun y _ => by have := vlW_l y; omega)
  have e := flat_of prtW 25 c.ports (fun y _ => by rw [prtW_l]; omega)
  simp only [cfW, List.length_append, w_length, manyW_of]
  refine ⟨by omega, fun v hv => ?_⟩
  have := flat_mem vlW c.vls v hv
  have := vlW_l v
  omega
/-- A number that no number of few bytes is beyond. -/
def Few8 (n : Int) : Prop := 0 ≤ n ∧ n ≤ 4398046511104
theorem u_few {k : Nat} (hk : k ≤ 4) {n : Int} {l r : List UInt8} (h : u k l = .ok (n, r)) : Few8 n := by
  have h2 := (u_ok h).2
  have h3 : ((256 ^ k : Nat) : Int) ≤ 4294967296 := by
    have : 256 ^ k ≤ 256 ^ 4 := Nat.pow_le_pow_right (by omega) hk
    have : 256 ^ k ≤ 4294967296 := this
    omega
  exact ⟨h2.1, by have := h2.2; omega⟩
def winB (x : Win) : Prop := Few8 x.part ∧ Few8 x.beg ∧ Few8 x.long
def vlB (x : Vl) : Prop := Few8 x.id ∧ Few8 x.host ∧ Few8 x.bag ∧ Few8 x.smax ∧ Few8 x.subs ∧ Few8 x.skew ∧ ∀ t ∈ x.to, Few8 t
def prtB (x : Prt) : Prop := Few8 x.id ∧ Few8 x.host ∧ Few8 x.part ∧ Few8 x.kind ∧ Few8 x.vl ∧ Few8 x.sub ∧ Few8 x.udp ∧ Few8 x.size ∧ Few8 x.depth ∧ Few8 x.fresh
def cfB (c : Cf) : Prop := Few8 c.hosts ∧ (∀ t ∈ c.parts, Few8 t) ∧ Few8 c.major ∧ (∀ x ∈ c.wins, winB x) ∧ (∀ x ∈ c.vls, vlB x) ∧ ∀ x ∈ c.ports, prtB x
theorem many_all {α : Type} {p : P α} {q : α → Prop} (hp : ∀ l a r, p l = .ok (a, r) → q a) {l : List UInt8} {az : List α} {r : List UInt8} (h : many p l = .ok (az, r)) : ∀ a ∈ az, q a := by
  obtain ⟨n, r1, h1, h2⟩ := bind_ok.1 h
  exact rep_all hp _ _ _ _ h2
theorem cf_few {l : List UInt8} {c : Cf} {r : List UInt8} (h : cfR l = .ok (c, r)) : cfB c := by
  obtain ⟨hosts, r1, h1, h⟩ := bind_ok.1 h
  obtain ⟨parts, r2, h2, h⟩ := bind_ok.1 h
  obtain ⟨major, r3, h3, h⟩ := bind_ok.1 h
  obtain ⟨wins, r4, h4, h⟩ := bind_ok.1 h
  obtain ⟨vls, r5, h5, h⟩ := bind_ok.1 h
  obtain ⟨ports, r6, h6, h⟩ := bind_ok.1 h
  have h : (Except.ok (⟨hosts, parts, major, wins, vls, ports⟩, r6) : Except Int (Cf × List UInt8)) = .ok (c, r) := h
  injection h with h
  injection h with e1 e2
  subst e1
  refine ⟨u_few (by omega) h1, many_all (fun l a r h => u_few (by omega) h) h2, u_few (by omega) h3, many_all (fun l a r h => ?_) h4, many_all (fun l a r h => ?_) h5, many_all (fun l a r h => ?_) h6⟩
  · obtain ⟨a1, _, g1, h⟩ := bind_ok.1 h
    obtain ⟨a2, _, g2, h⟩ := bind_ok.1 h
    obtain ⟨a3, _, g3, h⟩ := bind_ok.1 h
    injection h with h
    injection h with e1 e2
    subst e1
    exact ⟨u_few (by omega) g1, u_few (by omega) g2, u_few (by omega) g3⟩
  · obtain ⟨a1, _, g1, h⟩ := bind_ok.1 h
    obtain ⟨a2, _, g2, h⟩ := bind_ok.1 h
    obtain ⟨a3, _, g3, h⟩ := bind_ok.1 h
    obtain ⟨a4, _, g4, h⟩ := bind_ok.1 h
    obtain ⟨a5, _, g5, h⟩ := bind_ok.1 h
    obtain ⟨a6, _, g6, h⟩ := bind_ok.1 h
    injection h with h
    injection h with e1 e2
    subst e1
    have q3 := u_few (by omega) g3
    refine ⟨u_few (by omega) g1, u_few (by omega) g2, ?_, u_few (by omega) g4, ?_, u_few (by omega) g5, many_all (fun l a r h => u_few (by omega) h) g6⟩
    · unfold Few8 at q3 ⊢; show 0 ≤ a3 / 16 ∧ a3 / 16 ≤ _; omega
    · unfold Few8 at q3 ⊢; show 0 ≤ a3 % 8 ∧ a3 % 8 ≤ _; omega
  · obtain ⟨a1, _, g1, h⟩ := bind_ok.1 h
    obtain ⟨a2, _, g2, h⟩ := bind_ok.1 h
    obtain ⟨a3, _, g3, h⟩ := bind_ok.1 h
    obtain ⟨a4, _, g4, h⟩ := bind_ok.1 h
    obtain ⟨a5, _, g5, h⟩ := bind_ok.1 h
    obtain ⟨a6, _, g6, h⟩ := bind_ok.1 h
    obtain ⟨a7, _, g7, h⟩ := bind_ok.1 h
    obtain ⟨a8, _, g8, h⟩ := bind_ok.1 h
    obtain ⟨hi, _, g9, h⟩ := bind_ok.1 h
    obtain ⟨lo, _, g10, h⟩ := bind_ok.1 h
    by_cases hw : 1099511627776 < hi * 4294967296 + lo
    · rw [if_pos hw] at h; cases h
    rw [if_neg hw] at h
    injection h with h
    injection h with e1 e2
    subst e1
    have q4 := u_few (by omega) g4
    have q9 := u_few (by omega) g9
    have q10 := u_few (by omega) g10
    refine ⟨u_few (by omega) g1, u_few (by omega) g2, u_few (by omega) g3, ?_, u_few (by omega) g5, ?_, u_few (by omega) g6, u_few (by omega) g7, u_few (by omega) g8, ?_⟩
    · unfold Few8 at q4 ⊢; show 0 ≤ a4 / 64 ∧ a4 / 64 ≤ _; omega
    · unfold Few8 at q4 ⊢; show 0 ≤ a4 % 32 ∧ a4 % 32 ≤ _; omega
    · unfold Few8 at q9 q10 ⊢; show 0 ≤ hi * 4294967296 + lo ∧ hi * 4294967296 + lo ≤ _; omega
/-- What was read to the end has so many bytes. -/
theorem cf_read {t : List UInt8} {c : Cf} (h : cfR t = .ok (c, [])) (ht : t.length ≤ 5000) : cfB c ∧ c.parts.length ≤ 2500 ∧ c.wins.length ≤ 500 ∧ c.vls.length ≤ 400 ∧ c.ports.length ≤ 200 ∧ ∀ v ∈ c.vls, v.to.length ≤ 2500 := by
  have h1 := cfR_ok h
  rw [List.append_nil] at h1
  obtain ⟨h2, h3⟩ := cf_sizes c
  rw [← h1] at h2 h3
  exact ⟨cf_few h, by omega, by omega, by omega, by omega, fun v hv => by have := h3 v hv; omega⟩
end Go.Proofs.PitotImg
