/- Calls, ints and two numbers that come in are opened: what they are. -/
import Derived.Test.YthednonjgaedlaaProg
import Derived.Below
import Derived.Lib.Hide
import Derived.ProofKit
import Derived.OpenShut
import Derived.WideShapes
import Derived.Deep.Slices
import Derived.Deep.Fields
set_option maxRecDepth 100000
namespace Go.Proofs.Ythednonjgaedlaa
open Go.RowKit Go.ChangeShapes Go.WideShapes Go.Deep

theorem cell_lt {w : World} {a : Addr} {v : Value} (h : w.cell? a = some v) : a.block < w.heap.size := by
  rcases Nat.lt_or_ge a.block w.heap.size with h1 | h1
  · exact h1
  · simp [World.cell?, Array.getElem?_eq_none h1] at h
theorem list_of {α : Type} {P : Nat → α → Prop} : ∀ (n : Nat), (∀ i, i < n → ∃ t, P i t) → ∃ l : List α, l.length = n ∧ ∀ i (h : i < l.length), P i l[i]
  | 0, _ => ⟨[], rfl, fun i h => by simp at h⟩
  | n + 1, h => by
    obtain ⟨l, hl, hp⟩ := list_of n (fun i hi => h i (by omega))
    obtain ⟨t, ht⟩ := h n (by omega)
    refine ⟨l ++ [t], by simp [hl], fun i hi => ?_⟩
    by_cases hin : i < l.length
    · rw [List.getElem_append_left hin]; exact hp i hin
    · have : i = n := by simp at hi; omega
      subst this
      rw [List.getElem_append_right (by omega)]
      simpa [hl] using ht
/-- Ints as they lie in memory. -/
def IntsAt (w : World) (A : Option Addr) (xs : List Int) : Prop :=
  xs ≠ [] → ∃ b off, A = some ⟨b, off, none⟩ ∧ b < w.heap.size ∧ ∀ i (h : i < xs.length), w.cell? ⟨b, off + i, none⟩ = some (.int .i64 xs[i])
theorem IntsAt.get {w : World} {A : Option Addr} {xs : List Int} (h : IntsAt w A xs) {k : Nat} (hk : k < xs.length) :
    ∃ b off, A = some ⟨b, off, none⟩ ∧ b < w.heap.size ∧ w.cell? ⟨b, off + k, none⟩ = some (.int .i64 xs[k]) := by
  obtain ⟨b, off, h1, h2, h3⟩ := h (by intro e; subst e; simp at hk)
  exact ⟨b, off, h1, h2, h3 k hk⟩
theorem IntsAt.below {w w' : World} {A : Option Addr} {xs : List Int} (h : IntsAt w A xs) (hb : Below w.heap.size w w') : IntsAt w' A xs := fun hne => by
  obtain ⟨b, off, h1, h2, h3⟩ := h hne
  exact ⟨b, off, h1, Nat.lt_of_lt_of_le h2 hb.size, fun i hi => (hb.cell (p := ⟨b, off + i, none⟩) h2).trans (h3 i hi)⟩
section
variable {H : Type} {enc : TypeId × Value → H} {P : Program} {w : World} {base : Nat} {spare : Nat → Bool} {held : Bool}
/-- A list of ints that comes in. -/
theorem ints_open {t e : TypeId} {fuel : Nat} {v : Value} {x : DataW H × List MemPlace} (ht : P.underlying t = some (.slice e)) (he : P.underlying e = some (.int .i64)) (hc : P.cellsOf e = 1)
    (h : DataW.trod enc P w base spare held fuel t [v] = some x) : ∃ A cap xs, v = .slice A xs.length cap ∧ IntsAt w A xs ∧ xs.length ≤ maxLen ∧ ∀ n ∈ xs, (Lit.int .i64 n).wf = true := by
  rcases open_ints ht he hc h with ⟨hcs, _⟩ | ⟨a, len, cap, zs, hcs, _, hl, hm, hz, _, hcell, hwf⟩
  · refine ⟨none, 0, [], ?_, fun h => absurd rfl h, by simp, fun n h => by simp at h⟩
    simpa using hcs
  · have hlz : len ≤ zs.length := by rw [hz]; split <;> omega
    refine ⟨some a, cap, zs.take len, ?_, ?_, by simp; omega, fun n hn => hwf n (List.mem_of_mem_take hn)⟩
    · rw [List.length_take, Nat.min_eq_left hlz]; simpa using hcs
    · intro hne
      have hpos : 0 < zs.length := by
        rcases Nat.eq_zero_or_pos zs.length with h0 | h0
        · rw [List.length_eq_zero_iff] at h0; subst h0; simp at hne
        · exact h0
      obtain ⟨b, off, rfl, hc'⟩ := ints_at hcell hpos
      refine ⟨b, off, rfl, cell_lt (hc' 0 hpos), fun i hi => ?_⟩
      have hi' : i < zs.length := by simp at hi; omega
      rw [hc' i hi', List.getElem_take]
      simp [List.getD, hi']
theorem add_add' (b off i j : Nat) : ((⟨b, off, none⟩ : Addr).add i).add j = ⟨b, off + i + j, none⟩ := by
  unfold Addr.add
  by_cases hi : i = 0 <;> by_cases hj : j = 0 <;> simp [hi, hj]
end

structure Ox where
  ask : Int
  now : Int

abbrev Ox.enc (x : Ox) : List Value := [.int .i64 x.ask, .int .i64 x.now]
theorem Ox.enc_length (x : Ox) : x.enc.length = 2 := rfl
abbrev Ox.val (x : Ox) : Value := .agg #[.int .i64 x.ask, .int .i64 x.now]

def Ox.Ok (x : Ox) : Prop := (Lit.int .i64 x.ask).wf = true ∧ (Lit.int .i64 x.now).wf = true

def OxAt (w : World) (b o : Nat) (x : Ox) : Prop := w.cell? ⟨b, o, none⟩ = some (.int .i64 x.ask) ∧ w.cell? ⟨b, o + 1, none⟩ = some (.int .i64 x.now)

theorem OxAt.of_cells {w w' : World} {b o : Nat} {x : Ox} (h : OxAt w b o x) (hc : ∀ k, w'.cell? ⟨b, k, none⟩ = w.cell? ⟨b, k, none⟩) : OxAt w' b o x := by
  obtain ⟨h0, h1⟩ := h
  exact ⟨(hc _).trans h0, (hc _).trans h1⟩

theorem OxAt.below {w w' : World} {b o B : Nat} {x : Ox} (h : OxAt w b o x) (hb : Below B w w') (hlt : b < B) : OxAt w' b o x := h.of_cells fun _ => hb.cell hlt

def OxsAt (w : World) (A : Option Addr) (l : List Ox) : Prop :=
  l ≠ [] → ∃ b off, A = some ⟨b, off, none⟩ ∧ b < w.heap.size ∧ ∀ i (h : i < l.length), OxAt w b (off + i * 2) l[i]

theorem OxsAt.get {w : World} {A : Option Addr} {l : List Ox} (h : OxsAt w A l) {k : Nat} (hk : k < l.length) : ∃ b off, A = some ⟨b, off, none⟩ ∧ b < w.heap.size ∧ OxAt w b (off + k * 2) l[k] := by
  obtain ⟨b, off, h1, h2, h3⟩ := h (fun e => by subst e; simp at hk)
  exact ⟨b, off, h1, h2, h3 k hk⟩

theorem OxsAt.below {w w' : World} {A : Option Addr} {l : List Ox} (h : OxsAt w A l) (hb : Below w.heap.size w w') : OxsAt w' A l := fun hne => by
  obtain ⟨b, off, h1, h2, h3⟩ := h hne
  exact ⟨b, off, h1, Nat.lt_of_lt_of_le h2 hb.size, fun i hi => (h3 i hi).below hb h2⟩

section
variable {H : Type} {enc : TypeId × Value → H} {w W : World} {base b0 : Nat} {spare : Nat → Bool} {held : Bool} {r : Reach}

theorem Ox_cells {fuel : Nat} {l : List Value} {x : DataW H × List MemPlace} (h : DataW.trod enc Try.prog W b0 spare held fuel 32 l = some x) :
    ∃ o : Ox, l = o.enc ∧ o.Ok := by
  have cT : Try.prog.cellsOf 32 = 2 := by kernel_rfl
  have c3 : Try.prog.cellsOf 3 = 1 := by kernel_rfl
  obtain ⟨ys, n', _, _, hlen, hyl, hf⟩ := DataW.trod_struct Try.underlying32 h
  rw [cT] at hlen
  match l, hlen with
  | [x0, x1], _ =>
    match ys, hyl with
    | [y0, y1], _ =>
      have f0 : DataW.trod enc Try.prog W b0 spare held n' 3 ((([x0, x1] : List Value).drop 0).take (Try.prog.cellsOf 3)) = some y0 := hf 0 _ rfl
      rw [c3] at f0
      have f0 : DataW.trod enc Try.prog W b0 spare held n' 3 [x0] = some y0 := f0
      have f1 : DataW.trod enc Try.prog W b0 spare held n' 3 ((([x0, x1] : List Value).drop 1).take (Try.prog.cellsOf 3)) = some y1 := hf 1 _ rfl
      rw [c3] at f1
      have f1 : DataW.trod enc Try.prog W b0 spare held n' 3 [x1] = some y1 := f1
      obtain ⟨v0, e0, _, w0⟩ := DataW.trod_int Try.underlying3 f0
      obtain ⟨v1, e1, _, w1⟩ := DataW.trod_int Try.underlying3 f1
      simp only [List.cons.injEq, and_true] at e0 e1
      subst e0 e1
      exact ⟨⟨v0, v1⟩, rfl, ⟨w0, w1⟩⟩

theorem Oxs_open {fuel : Nat} {v : Value} {x : DataW H × List MemPlace} (h : DataW.trod enc Try.prog w base spare held fuel 22 [v] = some x) :
    ∃ Ad cap l, v = .slice Ad (List.length l) cap ∧ OxsAt w Ad l ∧ l.length ≤ maxLen ∧ ∀ o ∈ l, o.Ok := by
  have hC : Try.prog.cellsOf 32 = 2 := by kernel_rfl
  rcases open_slice Try.underlying22 h with ⟨hcs, _⟩ | ⟨a, len, cap, m, n, D, Pl, hcs, _, hl, hm, hmm, _, hall⟩
  · exact ⟨none, 0, [], by simpa using hcs, fun h => absurd rfl h, by simp, fun p h => by simp at h⟩
  · have hlm : len ≤ m := by rw [hmm]; split <;> omega
    have each : ∀ i, i < len → ∃ t : Ox, t.Ok ∧ ∃ b off, a = ⟨b, off, none⟩ ∧ b < w.heap.size ∧ OxAt w b (off + i * 2) t := by
      intro i hi
      obtain ⟨cs, hcell, htr⟩ := hall i (by omega)
      rw [hC] at hcell
      obtain ⟨_, hlen, hat⟩ := World.cells?_some hcell
      obtain ⟨p, rfl, hps⟩ := Ox_cells htr
      obtain ⟨b, off, spot⟩ := a
      have hspot : spot = none := by
        obtain ⟨cs0, hcell0, htr0⟩ := hall 0 (by omega)
        rw [hC] at hcell0
        obtain ⟨_, hlen0, hat0⟩ := World.cells?_some hcell0
        have q0 := hat0 0 (by omega)
        rw [List.getElem?_eq_getElem (by omega)] at q0
        simpa [Addr.add] using World.cell?_spot q0
      subst hspot
      have hk : ∀ k (hk : k < 2), w.cell? ⟨b, off + i * 2 + k, none⟩ = some (p.enc[k]'(by rw [Ox.enc_length]; exact hk)) := fun k hk => by
        have h1 := hat k (by omega)
        rw [List.getElem?_eq_getElem (by rw [Ox.enc_length]; exact hk)] at h1
        rw [add_add'] at h1
        exact h1
      exact ⟨p, hps, b, off, rfl, cell_lt (hk 0 (by omega)), hk 0 (by omega), hk 1 (by omega)⟩
    obtain ⟨l, hll, hlp⟩ := list_of len each
    refine ⟨some a, cap, l, by rw [hll]; simpa using hcs, fun hne => ?_, by omega, fun p hp => ?_⟩
    · have hpos : 0 < l.length := List.length_pos_iff.2 hne
      obtain ⟨_, b, off, rfl, hb, _⟩ := hlp 0 hpos
      refine ⟨b, off, rfl, hb, fun i hi => ?_⟩
      obtain ⟨_, b', off', e, _, hit⟩ := hlp i hi
      cases e
      exact hit
    · obtain ⟨i, hi, rfl⟩ := List.getElem_of_mem hp
      exact (hlp i hi).1

end

section
variable {H : Type} {enc : TypeId × Value → H} {w W : World} {base b0 : Nat} {spare : Nat → Bool} {held : Bool} {r : Reach}
/-- Two numbers that come in. -/
theorem two_open {fuel : Nat} {v : Value} {x : DataW H × List MemPlace} (hok : Value.okWide Try.prog w r base 43 v) (h : DataW.trod enc Try.prog W b0 spare held fuel 43 v.cells.toList = some x) :
    ∃ a c : Int, (Lit.int .i64 a).wf = true ∧ (Lit.int .i64 c).wf = true ∧ v = .agg #[.int .i64 a, .int .i64 c] := by
  have hv : ∃ cs : Array Value, v = .agg cs := by
    simp only [Value.okWide, Try.underlying43] at hok
    obtain ⟨cs, h1, _⟩ := hok
    exact ⟨cs, h1⟩
  obtain ⟨cs, rfl⟩ := hv
  have c3 : Try.prog.cellsOf 3 = 1 := by kernel_rfl
  have c43 : Try.prog.cellsOf 43 = 2 := by kernel_rfl
  have h' : DataW.trod enc Try.prog W b0 spare held fuel 43 cs.toList = some x := by simpa [Value.cells] using h
  obtain ⟨xs, m, _, _, hl, hn, hf⟩ := DataW.trod_array Try.underlying43 h'
  rw [c43] at hl
  rw [c3] at hf
  obtain ⟨l⟩ := cs
  match l, hl with
  | [x0, x1], _ =>
    match xs, hn with
    | [y0, y1], _ =>
      have f0 : DataW.trod enc Try.prog W b0 spare held m 3 [x0] = some y0 := hf 0 (by omega)
      have f1 : DataW.trod enc Try.prog W b0 spare held m 3 [x1] = some y1 := hf 1 (by omega)
      obtain ⟨n0, e0, _, w0⟩ := DataW.trod_int Try.underlying3 f0
      obtain ⟨n1, e1, _, w1⟩ := DataW.trod_int Try.underlying3 f1
      simp only [List.cons.injEq, and_true] at e0 e1
      subst e0 e1
      exact ⟨n0, n1, w0, w1, rfl⟩
end
end Go.Proofs.Ythednonjgaedlaa
