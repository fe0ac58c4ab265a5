/- A network that comes in is opened: what it is. -/
import Derived.Test.YtdgkanamceeheaaGreatM1
import Derived.Test.YtdgkanamceeheaaGreatProg
import Derived.Below
import Derived.Lib.Hide
import Derived.ProofKit
import Derived.OpenShut
import Derived.WideShapes
import Derived.Deep.Slices
import Derived.Deep.Fields
set_option linter.unusedVariables false
set_option maxRecDepth 100000
namespace Go.Proofs.YtdgkanamceeheaaGreat
open Go.RowKit Go.ChangeShapes Go.WideShapes Go.Deep

theorem cell_lt {w : World} {a : Addr} {v : Value} (h : w.cell? a = some v) : a.block < w.heap.size := by
  rcases Nat.lt_or_ge a.block w.heap.size with h1 | h1
  · exact h1
  · simp [World.cell?, Array.getElem?_eq_none h1] at h
theorem list_of {α : Type} {P : Nat → α → Prop} : ∀ (n : Nat), (∀ i, i < n → ∃ t, P i t) → ∃ l : List α, l.length = n ∧ ∀ i (h : i < l.length), P i l[i]
  | 0, _ => ⟨[], rfl, fun i h => by simp at h⟩
  | n + 1, h => by
    obtain ⟨l, hl, hp⟩ := list_of n (fun i hi => h i (by omega))
    obtain ⟨t, ht⟩ := h n (by omega)
    refine ⟨l ++ [t], by simp [hl], fun i hi => ?_⟩
    by_cases hin : i < l.length
    · rw [List.getElem_append_left hin]; exact hp i hin
    · have : i = n := by simp at hi; omega
      subst this
      rw [List.getElem_append_right (by omega)]
      simpa [hl] using ht
/-- Ints as they lie in memory. -/
def IntsAt (w : World) (A : Option Addr) (xs : List Int) : Prop :=
  xs ≠ [] → ∃ b off, A = some ⟨b, off, none⟩ ∧ b < w.heap.size ∧ ∀ i (h : i < xs.length), w.cell? ⟨b, off + i, none⟩ = some (.int .i64 xs[i])
theorem IntsAt.get {w : World} {A : Option Addr} {xs : List Int} (h : IntsAt w A xs) {k : Nat} (hk : k < xs.length) :
    ∃ b off, A = some ⟨b, off, none⟩ ∧ b < w.heap.size ∧ w.cell? ⟨b, off + k, none⟩ = some (.int .i64 xs[k]) := by
  obtain ⟨b, off, h1, h2, h3⟩ := h (by intro e; subst e; simp at hk)
  exact ⟨b, off, h1, h2, h3 k hk⟩
theorem IntsAt.below {w w' : World} {A : Option Addr} {xs : List Int} (h : IntsAt w A xs) (hb : Below w.heap.size w w') : IntsAt w' A xs := fun hne => by
  obtain ⟨b, off, h1, h2, h3⟩ := h hne
  exact ⟨b, off, h1, Nat.lt_of_lt_of_le h2 hb.size, fun i hi => (hb.cell (p := ⟨b, off + i, none⟩) h2).trans (h3 i hi)⟩
section
variable {H : Type} {enc : TypeId × Value → H} {P : Program} {w : World} {base : Nat} {spare : Nat → Bool} {held : Bool}
/-- A list of ints that comes in. -/
theorem ints_open {t e : TypeId} {fuel : Nat} {v : Value} {x : DataW H × List MemPlace} (ht : P.underlying t = some (.slice e)) (he : P.underlying e = some (.int .i64)) (hc : P.cellsOf e = 1)
    (h : DataW.trod enc P w base spare held fuel t [v] = some x) : ∃ A cap xs, v = .slice A xs.length cap ∧ IntsAt w A xs ∧ xs.length ≤ maxLen ∧ ∀ n ∈ xs, (Lit.int .i64 n).wf = true := by
  rcases open_ints ht he hc h with ⟨hcs, _⟩ | ⟨a, len, cap, zs, hcs, _, hl, hm, hz, _, hcell, hwf⟩
  · refine ⟨none, 0, [], ?_, fun h => absurd rfl h, by simp, fun n h => by simp at h⟩
    simpa using hcs
  · have hlz : len ≤ zs.length := by rw [hz]; split <;> omega
    refine ⟨some a, cap, zs.take len, ?_, ?_, by simp; omega, fun n hn => hwf n (List.mem_of_mem_take hn)⟩
    · rw [List.length_take, Nat.min_eq_left hlz]; simpa using hcs
    · intro hne
      have hpos : 0 < zs.length := by
        rcases Nat.eq_zero_or_pos zs.length with h0 | h0
        · rw [List.length_eq_zero_iff] at h0; subst h0; simp at hne
        · exact h0
      obtain ⟨b, off, rfl, hc'⟩ := ints_at hcell hpos
      refine ⟨b, off, rfl, cell_lt (hc' 0 hpos), fun i hi => ?_⟩
      have hi' : i < zs.length := by simp at hi; omega
      rw [hc' i hi', List.getElem_take]
      simp [List.getD, hi']
theorem add_add' (b off i j : Nat) : ((⟨b, off, none⟩ : Addr).add i).add j = ⟨b, off + i + j, none⟩ := by
  unfold Addr.add
  by_cases hi : i = 0 <;> by_cases hj : j = 0 <;> simp [hi, hj]
end

structure Wn where
  part : Int
  beg : Int
  long : Int

abbrev Wn.enc (x : Wn) : List Value := [.int .i64 x.part, .int .i64 x.beg, .int .i64 x.long]
theorem Wn.enc_length (x : Wn) : x.enc.length = 3 := rfl
abbrev Wn.val (x : Wn) : Value := .agg #[.int .i64 x.part, .int .i64 x.beg, .int .i64 x.long]

def Wn.Ok (x : Wn) : Prop := (Lit.int .i64 x.part).wf = true ∧ (Lit.int .i64 x.beg).wf = true ∧ (Lit.int .i64 x.long).wf = true

def WnAt (w : World) (b o : Nat) (x : Wn) : Prop := w.cell? ⟨b, o, none⟩ = some (.int .i64 x.part) ∧ w.cell? ⟨b, o + 1, none⟩ = some (.int .i64 x.beg) ∧ w.cell? ⟨b, o + 2, none⟩ = some (.int .i64 x.long)

theorem WnAt.of_cells {w w' : World} {b o : Nat} {x : Wn} (h : WnAt w b o x) (hc : ∀ k, w'.cell? ⟨b, k, none⟩ = w.cell? ⟨b, k, none⟩) : WnAt w' b o x := by
  obtain ⟨h0, h1, h2⟩ := h
  exact ⟨(hc _).trans h0, (hc _).trans h1, (hc _).trans h2⟩

theorem WnAt.below {w w' : World} {b o B : Nat} {x : Wn} (h : WnAt w b o x) (hb : Below B w w') (hlt : b < B) : WnAt w' b o x := h.of_cells fun _ => hb.cell hlt

def WnsAt (w : World) (A : Option Addr) (l : List Wn) : Prop :=
  l ≠ [] → ∃ b off, A = some ⟨b, off, none⟩ ∧ b < w.heap.size ∧ ∀ i (h : i < l.length), WnAt w b (off + i * 3) l[i]

theorem WnsAt.get {w : World} {A : Option Addr} {l : List Wn} (h : WnsAt w A l) {k : Nat} (hk : k < l.length) : ∃ b off, A = some ⟨b, off, none⟩ ∧ b < w.heap.size ∧ WnAt w b (off + k * 3) l[k] := by
  obtain ⟨b, off, h1, h2, h3⟩ := h (fun e => by subst e; simp at hk)
  exact ⟨b, off, h1, h2, h3 k hk⟩

theorem WnsAt.below {w w' : World} {A : Option Addr} {l : List Wn} (h : WnsAt w A l) (hb : Below w.heap.size w w') : WnsAt w' A l := fun hne => by
  obtain ⟨b, off, h1, h2, h3⟩ := h hne
  exact ⟨b, off, h1, Nat.lt_of_lt_of_le h2 hb.size, fun i hi => (h3 i hi).below hb h2⟩

section
variable {H : Type} {enc : TypeId × Value → H} {w W : World} {base b0 : Nat} {spare : Nat → Bool} {held : Bool} {r : Reach}

theorem Wn_cells {fuel : Nat} {l : List Value} {x : DataW H × List MemPlace} (h : DataW.trod enc Tryz.prog W b0 spare held fuel 58 l = some x) :
    ∃ o : Wn, l = o.enc ∧ o.Ok := by
  have cT : Tryz.prog.cellsOf 58 = 3 := by kernel_rfl
  have c3 : Tryz.prog.cellsOf 3 = 1 := by kernel_rfl
  obtain ⟨ys, n', _, _, hlen, hyl, hf⟩ := DataW.trod_struct Tryz.underlying58 h
  rw [cT] at hlen
  match l, hlen with
  | [x0, x1, x2], _ =>
    match ys, hyl with
    | [y0, y1, y2], _ =>
      have f0 : DataW.trod enc Tryz.prog W b0 spare held n' 3 ((([x0, x1, x2] : List Value).drop 0).take (Tryz.prog.cellsOf 3)) = some y0 := hf 0 _ rfl
      rw [c3] at f0
      have f0 : DataW.trod enc Tryz.prog W b0 spare held n' 3 [x0] = some y0 := f0
      have f1 : DataW.trod enc Tryz.prog W b0 spare held n' 3 ((([x0, x1, x2] : List Value).drop 1).take (Tryz.prog.cellsOf 3)) = some y1 := hf 1 _ rfl
      rw [c3] at f1
      have f1 : DataW.trod enc Tryz.prog W b0 spare held n' 3 [x1] = some y1 := f1
      have f2 : DataW.trod enc Tryz.prog W b0 spare held n' 3 ((([x0, x1, x2] : List Value).drop 2).take (Tryz.prog.cellsOf 3)) = some y2 := hf 2 _ rfl
      rw [c3] at f2
      have f2 : DataW.trod enc Tryz.prog W b0 spare held n' 3 [x2] = some y2 := f2
      obtain ⟨v0, e0, _, w0⟩ := DataW.trod_int Tryz.underlying3 f0
      obtain ⟨v1, e1, _, w1⟩ := DataW.trod_int Tryz.underlying3 f1
      obtain ⟨v2, e2, _, w2⟩ := DataW.trod_int Tryz.underlying3 f2
      simp only [List.cons.injEq, and_true] at e0 e1 e2
      subst e0 e1 e2
      exact ⟨⟨v0, v1, v2⟩, rfl, ⟨w0, w1, w2⟩⟩

theorem Wns_open {fuel : Nat} {v : Value} {x : DataW H × List MemPlace} (h : DataW.trod enc Tryz.prog w base spare held fuel 24 [v] = some x) :
    ∃ Ad cap l, v = .slice Ad (List.length l) cap ∧ WnsAt w Ad l ∧ l.length ≤ maxLen ∧ ∀ o ∈ l, o.Ok := by
  have hC : Tryz.prog.cellsOf 58 = 3 := by kernel_rfl
  rcases open_slice Tryz.underlying24 h with ⟨hcs, _⟩ | ⟨a, len, cap, m, n, D, Pl, hcs, _, hl, hm, hmm, _, hall⟩
  · exact ⟨none, 0, [], by simpa using hcs, fun h => absurd rfl h, by simp, fun p h => by simp at h⟩
  · have hlm : len ≤ m := by rw [hmm]; split <;> omega
    have each : ∀ i, i < len → ∃ t : Wn, t.Ok ∧ ∃ b off, a = ⟨b, off, none⟩ ∧ b < w.heap.size ∧ WnAt w b (off + i * 3) t := by
      intro i hi
      obtain ⟨cs, hcell, htr⟩ := hall i (by omega)
      rw [hC] at hcell
      obtain ⟨_, hlen, hat⟩ := World.cells?_some hcell
      obtain ⟨p, rfl, hps⟩ := Wn_cells htr
      obtain ⟨b, off, spot⟩ := a
      have hspot : spot = none := by
        obtain ⟨cs0, hcell0, htr0⟩ := hall 0 (by omega)
        rw [hC] at hcell0
        obtain ⟨_, hlen0, hat0⟩ := World.cells?_some hcell0
        have q0 := hat0 0 (by omega)
        rw [List.getElem?_eq_getElem (by omega)] at q0
        simpa [Addr.add] using World.cell?_spot q0
      subst hspot
      have hk : ∀ k (hk : k < 3), w.cell? ⟨b, off + i * 3 + k, none⟩ = some (p.enc[k]'(by rw [Wn.enc_length]; exact hk)) := fun k hk => by
        have h1 := hat k (by omega)
        rw [List.getElem?_eq_getElem (by rw [Wn.enc_length]; exact hk)] at h1
        rw [add_add'] at h1
        exact h1
      exact ⟨p, hps, b, off, rfl, cell_lt (hk 0 (by omega)), hk 0 (by omega), hk 1 (by omega), hk 2 (by omega)⟩
    obtain ⟨l, hll, hlp⟩ := list_of len each
    refine ⟨some a, cap, l, by rw [hll]; simpa using hcs, fun hne => ?_, by omega, fun p hp => ?_⟩
    · have hpos : 0 < l.length := List.length_pos_iff.2 hne
      obtain ⟨_, b, off, rfl, hb, _⟩ := hlp 0 hpos
      refine ⟨b, off, rfl, hb, fun i hi => ?_⟩
      obtain ⟨_, b', off', e, _, hit⟩ := hlp i hi
      cases e
      exact hit
    · obtain ⟨i, hi, rfl⟩ := List.getElem_of_mem hp
      exact (hlp i hi).1

end

structure Vx where
  id : Int
  host : Int
  bag : Int
  smax : Int
  high : Bool
  subs : Int
  skew : Int
  toA : Option Addr
  toc : Nat
  to : List Int

abbrev Vx.enc (x : Vx) : List Value := [.int .i64 x.id, .int .i64 x.host, .int .i64 x.bag, .int .i64 x.smax, .bool x.high, .int .i64 x.subs, .int .i64 x.skew, .slice x.toA x.to.length x.toc]
theorem Vx.enc_length (x : Vx) : x.enc.length = 8 := rfl
abbrev Vx.val (x : Vx) : Value := .agg #[.int .i64 x.id, .int .i64 x.host, .int .i64 x.bag, .int .i64 x.smax, .bool x.high, .int .i64 x.subs, .int .i64 x.skew, .slice x.toA x.to.length x.toc]

def Vx.Ok (x : Vx) : Prop := (Lit.int .i64 x.id).wf = true ∧ (Lit.int .i64 x.host).wf = true ∧ (Lit.int .i64 x.bag).wf = true ∧ (Lit.int .i64 x.smax).wf = true ∧ (Lit.int .i64 x.subs).wf = true ∧ (Lit.int .i64 x.skew).wf = true ∧ x.to.length ≤ maxLen ∧ (∀ n ∈ x.to, (Lit.int .i64 n).wf = true)

def Vx.Held (w : World) (x : Vx) : Prop := IntsAt w x.toA x.to

def VxAt (w : World) (b o : Nat) (x : Vx) : Prop := w.cell? ⟨b, o, none⟩ = some (.int .i64 x.id) ∧ w.cell? ⟨b, o + 1, none⟩ = some (.int .i64 x.host) ∧ w.cell? ⟨b, o + 2, none⟩ = some (.int .i64 x.bag) ∧ w.cell? ⟨b, o + 3, none⟩ = some (.int .i64 x.smax) ∧ w.cell? ⟨b, o + 4, none⟩ = some (.bool x.high) ∧ w.cell? ⟨b, o + 5, none⟩ = some (.int .i64 x.subs) ∧ w.cell? ⟨b, o + 6, none⟩ = some (.int .i64 x.skew) ∧ w.cell? ⟨b, o + 7, none⟩ = some (.slice x.toA x.to.length x.toc)

theorem VxAt.of_cells {w w' : World} {b o : Nat} {x : Vx} (h : VxAt w b o x) (hc : ∀ k, w'.cell? ⟨b, k, none⟩ = w.cell? ⟨b, k, none⟩) : VxAt w' b o x := by
  obtain ⟨h0, h1, h2, h3, h4, h5, h6, h7⟩ := h
  exact ⟨(hc _).trans h0, (hc _).trans h1, (hc _).trans h2, (hc _).trans h3, (hc _).trans h4, (hc _).trans h5, (hc _).trans h6, (hc _).trans h7⟩

theorem VxAt.below {w w' : World} {b o B : Nat} {x : Vx} (h : VxAt w b o x) (hb : Below B w w') (hlt : b < B) : VxAt w' b o x := h.of_cells fun _ => hb.cell hlt

theorem Vx.Held.below {w w' : World} {x : Vx} (h : x.Held w) (hb : Below w.heap.size w w') : x.Held w' := by
  have h0 := h
  exact IntsAt.below h0 hb

def VxsAt (w : World) (A : Option Addr) (l : List Vx) : Prop :=
  l ≠ [] → ∃ b off, A = some ⟨b, off, none⟩ ∧ b < w.heap.size ∧ ∀ i (h : i < l.length), VxAt w b (off + i * 8) l[i] ∧ l[i].Held w

theorem VxsAt.get {w : World} {A : Option Addr} {l : List Vx} (h : VxsAt w A l) {k : Nat} (hk : k < l.length) : ∃ b off, A = some ⟨b, off, none⟩ ∧ b < w.heap.size ∧ VxAt w b (off + k * 8) l[k] ∧ l[k].Held w := by
  obtain ⟨b, off, h1, h2, h3⟩ := h (fun e => by subst e; simp at hk)
  exact ⟨b, off, h1, h2, h3 k hk⟩

theorem VxsAt.below {w w' : World} {A : Option Addr} {l : List Vx} (h : VxsAt w A l) (hb : Below w.heap.size w w') : VxsAt w' A l := fun hne => by
  obtain ⟨b, off, h1, h2, h3⟩ := h hne
  exact ⟨b, off, h1, Nat.lt_of_lt_of_le h2 hb.size, fun i hi => ⟨(h3 i hi).1.below hb h2, (h3 i hi).2.below hb⟩⟩

section
variable {H : Type} {enc : TypeId × Value → H} {w W : World} {base b0 : Nat} {spare : Nat → Bool} {held : Bool} {r : Reach}

theorem Vx_cells {fuel : Nat} {l : List Value} {x : DataW H × List MemPlace} (h : DataW.trod enc Tryz.prog W b0 spare held fuel 60 l = some x) :
    ∃ o : Vx, l = o.enc ∧ o.Ok ∧ o.Held W := by
  have cT : Tryz.prog.cellsOf 60 = 8 := by kernel_rfl
  have c3 : Tryz.prog.cellsOf 3 = 1 := by kernel_rfl
  have c4 : Tryz.prog.cellsOf 4 = 1 := by kernel_rfl
  have c22 : Tryz.prog.cellsOf 23 = 1 := by kernel_rfl
  obtain ⟨ys, n', _, _, hlen, hyl, hf⟩ := DataW.trod_struct Tryz.underlying60 h
  rw [cT] at hlen
  match l, hlen with
  | [x0, x1, x2, x3, x4, x5, x6, x7], _ =>
    match ys, hyl with
    | [y0, y1, y2, y3, y4, y5, y6, y7], _ =>
      have f0 : DataW.trod enc Tryz.prog W b0 spare held n' 3 ((([x0, x1, x2, x3, x4, x5, x6, x7] : List Value).drop 0).take (Tryz.prog.cellsOf 3)) = some y0 := hf 0 _ rfl
      rw [c3] at f0
      have f0 : DataW.trod enc Tryz.prog W b0 spare held n' 3 [x0] = some y0 := f0
      have f1 : DataW.trod enc Tryz.prog W b0 spare held n' 3 ((([x0, x1, x2, x3, x4, x5, x6, x7] : List Value).drop 1).take (Tryz.prog.cellsOf 3)) = some y1 := hf 1 _ rfl
      rw [c3] at f1
      have f1 : DataW.trod enc Tryz.prog W b0 spare held n' 3 [x1] = some y1 := f1
      have f2 : DataW.trod enc Tryz.prog W b0 spare held n' 3 ((([x0, x1, x2, x3, x4, x5, x6, x7] : List Value).drop 2).take (Tryz.prog.cellsOf 3)) = some y2 := hf 2 _ rfl
      rw [c3] at f2
      have f2 : DataW.trod enc Tryz.prog W b0 spare held n' 3 [x2] = some y2 := f2
      have f3 : DataW.trod enc Tryz.prog W b0 spare held n' 3 ((([x0, x1, x2, x3, x4, x5, x6, x7] : List Value).drop 3).take (Tryz.prog.cellsOf 3)) = some y3 := hf 3 _ rfl
      rw [c3] at f3
      have f3 : DataW.trod enc Tryz.prog W b0 spare held n' 3 [x3] = some y3 := f3
      have f4 : DataW.trod enc Tryz.prog W b0 spare held n' 4 ((([x0, x1, x2, x3, x4, x5, x6, x7] : List Value).drop 4).take (Tryz.prog.cellsOf 4)) = some y4 := hf 4 _ rfl
      rw [c4] at f4
      have f4 : DataW.trod enc Tryz.prog W b0 spare held n' 4 [x4] = some y4 := f4
      have f5 : DataW.trod enc Tryz.prog W b0 spare held n' 3 ((([x0, x1, x2, x3, x4, x5, x6, x7] : List Value).drop 5).take (Tryz.prog.cellsOf 3)) = some y5 := hf 5 _ rfl
      rw [c3] at f5
      have f5 : DataW.trod enc Tryz.prog W b0 spare held n' 3 [x5] = some y5 := f5
      have f6 : DataW.trod enc Tryz.prog W b0 spare held n' 3 ((([x0, x1, x2, x3, x4, x5, x6, x7] : List Value).drop 6).take (Tryz.prog.cellsOf 3)) = some y6 := hf 6 _ rfl
      rw [c3] at f6
      have f6 : DataW.trod enc Tryz.prog W b0 spare held n' 3 [x6] = some y6 := f6
      have f7 : DataW.trod enc Tryz.prog W b0 spare held n' 23 ((([x0, x1, x2, x3, x4, x5, x6, x7] : List Value).drop 7).take (Tryz.prog.cellsOf 23)) = some y7 := hf 7 _ rfl
      rw [c22] at f7
      have f7 : DataW.trod enc Tryz.prog W b0 spare held n' 23 [x7] = some y7 := f7
      obtain ⟨v0, e0, _, w0⟩ := DataW.trod_int Tryz.underlying3 f0
      obtain ⟨v1, e1, _, w1⟩ := DataW.trod_int Tryz.underlying3 f1
      obtain ⟨v2, e2, _, w2⟩ := DataW.trod_int Tryz.underlying3 f2
      obtain ⟨v3, e3, _, w3⟩ := DataW.trod_int Tryz.underlying3 f3
      obtain ⟨v4, e4, _⟩ := DataW.trod_bool Tryz.underlying4 f4
      obtain ⟨v5, e5, _, w5⟩ := DataW.trod_int Tryz.underlying3 f5
      obtain ⟨v6, e6, _, w6⟩ := DataW.trod_int Tryz.underlying3 f6
      obtain ⟨A7, k7, v7, e7, i7, l7, w7⟩ := ints_open Tryz.underlying23 Tryz.underlying3 (by kernel_rfl) f7
      simp only [List.cons.injEq, and_true] at e0 e1 e2 e3 e4 e5 e6
      subst e0 e1 e2 e3 e4 e5 e6 e7
      exact ⟨⟨v0, v1, v2, v3, v4, v5, v6, A7, k7, v7⟩, rfl, ⟨w0, w1, w2, w3, w5, w6, l7, w7⟩, i7⟩

theorem Vxs_open {fuel : Nat} {v : Value} {x : DataW H × List MemPlace} (h : DataW.trod enc Tryz.prog w base spare held fuel 25 [v] = some x) :
    ∃ Ad cap l, v = .slice Ad (List.length l) cap ∧ VxsAt w Ad l ∧ l.length ≤ maxLen ∧ ∀ o ∈ l, o.Ok := by
  have hC : Tryz.prog.cellsOf 60 = 8 := by kernel_rfl
  rcases open_slice Tryz.underlying25 h with ⟨hcs, _⟩ | ⟨a, len, cap, m, n, D, Pl, hcs, _, hl, hm, hmm, _, hall⟩
  · exact ⟨none, 0, [], by simpa using hcs, fun h => absurd rfl h, by simp, fun p h => by simp at h⟩
  · have hlm : len ≤ m := by rw [hmm]; split <;> omega
    have each : ∀ i, i < len → ∃ t : Vx, t.Ok ∧ ∃ b off, a = ⟨b, off, none⟩ ∧ b < w.heap.size ∧ VxAt w b (off + i * 8) t ∧ t.Held w := by
      intro i hi
      obtain ⟨cs, hcell, htr⟩ := hall i (by omega)
      rw [hC] at hcell
      obtain ⟨_, hlen, hat⟩ := World.cells?_some hcell
      obtain ⟨p, rfl, hps, hph⟩ := Vx_cells htr
      obtain ⟨b, off, spot⟩ := a
      have hspot : spot = none := by
        obtain ⟨cs0, hcell0, htr0⟩ := hall 0 (by omega)
        rw [hC] at hcell0
        obtain ⟨_, hlen0, hat0⟩ := World.cells?_some hcell0
        have q0 := hat0 0 (by omega)
        rw [List.getElem?_eq_getElem (by omega)] at q0
        simpa [Addr.add] using World.cell?_spot q0
      subst hspot
      have hk : ∀ k (hk : k < 8), w.cell? ⟨b, off + i * 8 + k, none⟩ = some (p.enc[k]'(by rw [Vx.enc_length]; exact hk)) := fun k hk => by
        have h1 := hat k (by omega)
        rw [List.getElem?_eq_getElem (by rw [Vx.enc_length]; exact hk)] at h1
        rw [add_add'] at h1
        exact h1
      exact ⟨p, hps, b, off, rfl, cell_lt (hk 0 (by omega)), ⟨hk 0 (by omega), hk 1 (by omega), hk 2 (by omega), hk 3 (by omega), hk 4 (by omega), hk 5 (by omega), hk 6 (by omega), hk 7 (by omega)⟩, hph⟩
    obtain ⟨l, hll, hlp⟩ := list_of len each
    refine ⟨some a, cap, l, by rw [hll]; simpa using hcs, fun hne => ?_, by omega, fun p hp => ?_⟩
    · have hpos : 0 < l.length := List.length_pos_iff.2 hne
      obtain ⟨_, b, off, rfl, hb, _⟩ := hlp 0 hpos
      refine ⟨b, off, rfl, hb, fun i hi => ?_⟩
      obtain ⟨_, b', off', e, _, hit⟩ := hlp i hi
      cases e
      exact hit
    · obtain ⟨i, hi, rfl⟩ := List.getElem_of_mem hp
      exact (hlp i hi).1

end

structure Px where
  id : Int
  host : Int
  part : Int
  kind : Int
  out : Bool
  vl : Int
  sub : Int
  udp : Int
  size : Int
  depth : Int
  fresh : Int

abbrev Px.enc (x : Px) : List Value := [.int .i64 x.id, .int .i64 x.host, .int .i64 x.part, .int .i64 x.kind, .bool x.out, .int .i64 x.vl, .int .i64 x.sub, .int .i64 x.udp, .int .i64 x.size, .int .i64 x.depth, .int .i64 x.fresh]
theorem Px.enc_length (x : Px) : x.enc.length = 11 := rfl
abbrev Px.val (x : Px) : Value := .agg #[.int .i64 x.id, .int .i64 x.host, .int .i64 x.part, .int .i64 x.kind, .bool x.out, .int .i64 x.vl, .int .i64 x.sub, .int .i64 x.udp, .int .i64 x.size, .int .i64 x.depth, .int .i64 x.fresh]

def Px.Ok (x : Px) : Prop := (Lit.int .i64 x.id).wf = true ∧ (Lit.int .i64 x.host).wf = true ∧ (Lit.int .i64 x.part).wf = true ∧ (Lit.int .i64 x.kind).wf = true ∧ (Lit.int .i64 x.vl).wf = true ∧ (Lit.int .i64 x.sub).wf = true ∧ (Lit.int .i64 x.udp).wf = true ∧ (Lit.int .i64 x.size).wf = true ∧ (Lit.int .i64 x.depth).wf = true ∧ (Lit.int .i64 x.fresh).wf = true

def PxAt (w : World) (b o : Nat) (x : Px) : Prop := w.cell? ⟨b, o, none⟩ = some (.int .i64 x.id) ∧ w.cell? ⟨b, o + 1, none⟩ = some (.int .i64 x.host) ∧ w.cell? ⟨b, o + 2, none⟩ = some (.int .i64 x.part) ∧ w.cell? ⟨b, o + 3, none⟩ = some (.int .i64 x.kind) ∧ w.cell? ⟨b, o + 4, none⟩ = some (.bool x.out) ∧ w.cell? ⟨b, o + 5, none⟩ = some (.int .i64 x.vl) ∧ w.cell? ⟨b, o + 6, none⟩ = some (.int .i64 x.sub) ∧ w.cell? ⟨b, o + 7, none⟩ = some (.int .i64 x.udp) ∧ w.cell? ⟨b, o + 8, none⟩ = some (.int .i64 x.size) ∧ w.cell? ⟨b, o + 9, none⟩ = some (.int .i64 x.depth) ∧ w.cell? ⟨b, o + 10, none⟩ = some (.int .i64 x.fresh)

theorem PxAt.of_cells {w w' : World} {b o : Nat} {x : Px} (h : PxAt w b o x) (hc : ∀ k, w'.cell? ⟨b, k, none⟩ = w.cell? ⟨b, k, none⟩) : PxAt w' b o x := by
  obtain ⟨h0, h1, h2, h3, h4, h5, h6, h7, h8, h9, h10⟩ := h
  exact ⟨(hc _).trans h0, (hc _).trans h1, (hc _).trans h2, (hc _).trans h3, (hc _).trans h4, (hc _).trans h5, (hc _).trans h6, (hc _).trans h7, (hc _).trans h8, (hc _).trans h9, (hc _).trans h10⟩

theorem PxAt.below {w w' : World} {b o B : Nat} {x : Px} (h : PxAt w b o x) (hb : Below B w w') (hlt : b < B) : PxAt w' b o x := h.of_cells fun _ => hb.cell hlt

def PxsAt (w : World) (A : Option Addr) (l : List Px) : Prop :=
  l ≠ [] → ∃ b off, A = some ⟨b, off, none⟩ ∧ b < w.heap.size ∧ ∀ i (h : i < l.length), PxAt w b (off + i * 11) l[i]

theorem PxsAt.get {w : World} {A : Option Addr} {l : List Px} (h : PxsAt w A l) {k : Nat} (hk : k < l.length) : ∃ b off, A = some ⟨b, off, none⟩ ∧ b < w.heap.size ∧ PxAt w b (off + k * 11) l[k] := by
  obtain ⟨b, off, h1, h2, h3⟩ := h (fun e => by subst e; simp at hk)
  exact ⟨b, off, h1, h2, h3 k hk⟩

theorem PxsAt.below {w w' : World} {A : Option Addr} {l : List Px} (h : PxsAt w A l) (hb : Below w.heap.size w w') : PxsAt w' A l := fun hne => by
  obtain ⟨b, off, h1, h2, h3⟩ := h hne
  exact ⟨b, off, h1, Nat.lt_of_lt_of_le h2 hb.size, fun i hi => (h3 i hi).below hb h2⟩

section
variable {H : Type} {enc : TypeId × Value → H} {w W : World} {base b0 : Nat} {spare : Nat → Bool} {held : Bool} {r : Reach}

theorem Px_cells {fuel : Nat} {l : List Value} {x : DataW H × List MemPlace} (h : DataW.trod enc Tryz.prog W b0 spare held fuel 62 l = some x) :
    ∃ o : Px, l = o.enc ∧ o.Ok := by
  have cT : Tryz.prog.cellsOf 62 = 11 := by kernel_rfl
  have c3 : Tryz.prog.cellsOf 3 = 1 := by kernel_rfl
  have c4 : Tryz.prog.cellsOf 4 = 1 := by kernel_rfl
  obtain ⟨ys, n', _, _, hlen, hyl, hf⟩ := DataW.trod_struct Tryz.underlying62 h
  rw [cT] at hlen
  match l, hlen with
  | [x0, x1, x2, x3, x4, x5, x6, x7, x8, x9, x10], _ =>
    match ys, hyl with
    | [y0, y1, y2, y3, y4, y5, y6, y7, y8, y9, y10], _ =>
      have f0 : DataW.trod enc Tryz.prog W b0 spare held n' 3 ((([x0, x1, x2, x3, x4, x5, x6, x7, x8, x9, x10] : List Value).drop 0).take (Tryz.prog.cellsOf 3)) = some y0 := hf 0 _ rfl
      rw [c3] at f0
      have f0 : DataW.trod enc Tryz.prog W b0 spare held n' 3 [x0] = some y0 := f0
      have f1 : DataW.trod enc Tryz.prog W b0 spare held n' 3 ((([x0, x1, x2, x3, x4, x5, x6, x7, x8, x9, x10] : List Value).drop 1).take (Tryz.prog.cellsOf 3)) = some y1 := hf 1 _ rfl
      rw [c3] at f1
      have f1 : DataW.trod enc Tryz.prog W b0 spare held n' 3 [x1] = some y1 := f1
      have f2 : DataW.trod enc Tryz.prog W b0 spare held n' 3 ((([x0, x1, x2, x3, x4, x5, x6, x7, x8, x9, x10] : List Value).drop 2).take (Tryz.prog.cellsOf 3)) = some y2 := hf 2 _ rfl
      rw [c3] at f2
      have f2 : DataW.trod enc Tryz.prog W b0 spare held n' 3 [x2] = some y2 := f2
      have f3 : DataW.trod enc Tryz.prog W b0 spare held n' 3 ((([x0, x1, x2, x3, x4, x5, x6, x7, x8, x9, x10] : List Value).drop 3).take (Tryz.prog.cellsOf 3)) = some y3 := hf 3 _ rfl
      rw [c3] at f3
      have f3 : DataW.trod enc Tryz.prog W b0 spare held n' 3 [x3] = some y3 := f3
      have f4 : DataW.trod enc Tryz.prog W b0 spare held n' 4 ((([x0, x1, x2, x3, x4, x5, x6, x7, x8, x9, x10] : List Value).drop 4).take (Tryz.prog.cellsOf 4)) = some y4 := hf 4 _ rfl
      rw [c4] at f4
      have f4 : DataW.trod enc Tryz.prog W b0 spare held n' 4 [x4] = some y4 := f4
      have f5 : DataW.trod enc Tryz.prog W b0 spare held n' 3 ((([x0, x1, x2, x3, x4, x5, x6, x7, x8, x9, x10] : List Value).drop 5).take (Tryz.prog.cellsOf 3)) = some y5 := hf 5 _ rfl
      rw [c3] at f5
      have f5 : DataW.trod enc Tryz.prog W b0 spare held n' 3 [x5] = some y5 := f5
      have f6 : DataW.trod enc Tryz.prog W b0 spare held n' 3 ((([x0, x1, x2, x3, x4, x5, x6, x7, x8, x9, x10] : List Value).drop 6).take (Tryz.prog.cellsOf 3)) = some y6 := hf 6 _ rfl
      rw [c3] at f6
      have f6 : DataW.trod enc Tryz.prog W b0 spare held n' 3 [x6] = some y6 := f6
      have f7 : DataW.trod enc Tryz.prog W b0 spare held n' 3 ((([x0, x1, x2, x3, x4, x5, x6, x7, x8, x9, x10] : List Value).drop 7).take (Tryz.prog.cellsOf 3)) = some y7 := hf 7 _ rfl
      rw [c3] at f7
      have f7 : DataW.trod enc Tryz.prog W b0 spare held n' 3 [x7] = some y7 := f7
      have f8 : DataW.trod enc Tryz.prog W b0 spare held n' 3 ((([x0, x1, x2, x3, x4, x5, x6, x7, x8, x9, x10] : List Value).drop 8).take (Tryz.prog.cellsOf 3)) = some y8 := hf 8 _ rfl
      rw [c3] at f8
      have f8 : DataW.trod enc Tryz.prog W b0 spare held n' 3 [x8] = some y8 := f8
      have f9 : DataW.trod enc Tryz.prog W b0 spare held n' 3 ((([x0, x1, x2, x3, x4, x5, x6, x7, x8, x9, x10] : List Value).drop 9).take (Tryz.prog.cellsOf 3)) = some y9 := hf 9 _ rfl
      rw [c3] at f9
      have f9 : DataW.trod enc Tryz.prog W b0 spare held n' 3 [x9] = some y9 := f9
      have f10 : DataW.trod enc Tryz.prog W b0 spare held n' 3 ((([x0, x1, x2, x3, x4, x5, x6, x7, x8, x9, x10] : List Value).drop 10).take (Tryz.prog.cellsOf 3)) = some y10 := hf 10 _ rfl
      rw [c3] at f10
      have f10 : DataW.trod enc Tryz.prog W b0 spare held n' 3 [x10] = some y10 := f10
      obtain ⟨v0, e0, _, w0⟩ := DataW.trod_int Tryz.underlying3 f0
      obtain ⟨v1, e1, _, w1⟩ := DataW.trod_int Tryz.underlying3 f1
      obtain ⟨v2, e2, _, w2⟩ := DataW.trod_int Tryz.underlying3 f2
      obtain ⟨v3, e3, _, w3⟩ := DataW.trod_int Tryz.underlying3 f3
      obtain ⟨v4, e4, _⟩ := DataW.trod_bool Tryz.underlying4 f4
      obtain ⟨v5, e5, _, w5⟩ := DataW.trod_int Tryz.underlying3 f5
      obtain ⟨v6, e6, _, w6⟩ := DataW.trod_int Tryz.underlying3 f6
      obtain ⟨v7, e7, _, w7⟩ := DataW.trod_int Tryz.underlying3 f7
      obtain ⟨v8, e8, _, w8⟩ := DataW.trod_int Tryz.underlying3 f8
      obtain ⟨v9, e9, _, w9⟩ := DataW.trod_int Tryz.underlying3 f9
      obtain ⟨v10, e10, _, w10⟩ := DataW.trod_int Tryz.underlying3 f10
      simp only [List.cons.injEq, and_true] at e0 e1 e2 e3 e4 e5 e6 e7 e8 e9 e10
      subst e0 e1 e2 e3 e4 e5 e6 e7 e8 e9 e10
      exact ⟨⟨v0, v1, v2, v3, v4, v5, v6, v7, v8, v9, v10⟩, rfl, ⟨w0, w1, w2, w3, w5, w6, w7, w8, w9, w10⟩⟩

theorem Pxs_open {fuel : Nat} {v : Value} {x : DataW H × List MemPlace} (h : DataW.trod enc Tryz.prog w base spare held fuel 26 [v] = some x) :
    ∃ Ad cap l, v = .slice Ad (List.length l) cap ∧ PxsAt w Ad l ∧ l.length ≤ maxLen ∧ ∀ o ∈ l, o.Ok := by
  have hC : Tryz.prog.cellsOf 62 = 11 := by kernel_rfl
  rcases open_slice Tryz.underlying26 h with ⟨hcs, _⟩ | ⟨a, len, cap, m, n, D, Pl, hcs, _, hl, hm, hmm, _, hall⟩
  · exact ⟨none, 0, [], by simpa using hcs, fun h => absurd rfl h, by simp, fun p h => by simp at h⟩
  · have hlm : len ≤ m := by rw [hmm]; split <;> omega
    have each : ∀ i, i < len → ∃ t : Px, t.Ok ∧ ∃ b off, a = ⟨b, off, none⟩ ∧ b < w.heap.size ∧ PxAt w b (off + i * 11) t := by
      intro i hi
      obtain ⟨cs, hcell, htr⟩ := hall i (by omega)
      rw [hC] at hcell
      obtain ⟨_, hlen, hat⟩ := World.cells?_some hcell
      obtain ⟨p, rfl, hps⟩ := Px_cells htr
      obtain ⟨b, off, spot⟩ := a
      have hspot : spot = none := by
        obtain ⟨cs0, hcell0, htr0⟩ := hall 0 (by omega)
        rw [hC] at hcell0
        obtain ⟨_, hlen0, hat0⟩ := World.cells?_some hcell0
        have q0 := hat0 0 (by omega)
        rw [List.getElem?_eq_getElem (by omega)] at q0
        simpa [Addr.add] using World.cell?_spot q0
      subst hspot
      have hk : ∀ k (hk : k < 11), w.cell? ⟨b, off + i * 11 + k, none⟩ = some (p.enc[k]'(by rw [Px.enc_length]; exact hk)) := fun k hk => by
        have h1 := hat k (by omega)
        rw [List.getElem?_eq_getElem (by rw [Px.enc_length]; exact hk)] at h1
        rw [add_add'] at h1
        exact h1
      exact ⟨p, hps, b, off, rfl, cell_lt (hk 0 (by omega)), hk 0 (by omega), hk 1 (by omega), hk 2 (by omega), hk 3 (by omega), hk 4 (by omega), hk 5 (by omega), hk 6 (by omega), hk 7 (by omega), hk 8 (by omega), hk 9 (by omega), hk 10 (by omega)⟩
    obtain ⟨l, hll, hlp⟩ := list_of len each
    refine ⟨some a, cap, l, by rw [hll]; simpa using hcs, fun hne => ?_, by omega, fun p hp => ?_⟩
    · have hpos : 0 < l.length := List.length_pos_iff.2 hne
      obtain ⟨_, b, off, rfl, hb, _⟩ := hlp 0 hpos
      refine ⟨b, off, rfl, hb, fun i hi => ?_⟩
      obtain ⟨_, b', off', e, _, hit⟩ := hlp i hi
      cases e
      exact hit
    · obtain ⟨i, hi, rfl⟩ := List.getElem_of_mem hp
      exact (hlp i hi).1

end

structure Cx where
  hosts : Int
  partsA : Option Addr
  partsc : Nat
  parts : List Int
  major : Int
  winsA : Option Addr
  winsc : Nat
  wins : List Wn
  vlsA : Option Addr
  vlsc : Nat
  vls : List Vx
  portsA : Option Addr
  portsc : Nat
  ports : List Px

abbrev Cx.enc (x : Cx) : List Value := [.int .i64 x.hosts, .slice x.partsA x.parts.length x.partsc, .int .i64 x.major, .slice x.winsA x.wins.length x.winsc, .slice x.vlsA x.vls.length x.vlsc, .slice x.portsA x.ports.length x.portsc]
theorem Cx.enc_length (x : Cx) : x.enc.length = 6 := rfl
abbrev Cx.val (x : Cx) : Value := .agg #[.int .i64 x.hosts, .slice x.partsA x.parts.length x.partsc, .int .i64 x.major, .slice x.winsA x.wins.length x.winsc, .slice x.vlsA x.vls.length x.vlsc, .slice x.portsA x.ports.length x.portsc]

def Cx.Ok (x : Cx) : Prop := (Lit.int .i64 x.hosts).wf = true ∧ x.parts.length ≤ maxLen ∧ (∀ n ∈ x.parts, (Lit.int .i64 n).wf = true) ∧ (Lit.int .i64 x.major).wf = true ∧ x.wins.length ≤ maxLen ∧ (∀ y ∈ x.wins, y.Ok) ∧ x.vls.length ≤ maxLen ∧ (∀ y ∈ x.vls, y.Ok) ∧ x.ports.length ≤ maxLen ∧ (∀ y ∈ x.ports, y.Ok)

def Cx.Held (w : World) (x : Cx) : Prop := IntsAt w x.partsA x.parts ∧ WnsAt w x.winsA x.wins ∧ VxsAt w x.vlsA x.vls ∧ PxsAt w x.portsA x.ports

def CxAt (w : World) (b o : Nat) (x : Cx) : Prop := w.cell? ⟨b, o, none⟩ = some (.int .i64 x.hosts) ∧ w.cell? ⟨b, o + 1, none⟩ = some (.slice x.partsA x.parts.length x.partsc) ∧ w.cell? ⟨b, o + 2, none⟩ = some (.int .i64 x.major) ∧ w.cell? ⟨b, o + 3, none⟩ = some (.slice x.winsA x.wins.length x.winsc) ∧ w.cell? ⟨b, o + 4, none⟩ = some (.slice x.vlsA x.vls.length x.vlsc) ∧ w.cell? ⟨b, o + 5, none⟩ = some (.slice x.portsA x.ports.length x.portsc)

theorem CxAt.of_cells {w w' : World} {b o : Nat} {x : Cx} (h : CxAt w b o x) (hc : ∀ k, w'.cell? ⟨b, k, none⟩ = w.cell? ⟨b, k, none⟩) : CxAt w' b o x := by
  obtain ⟨h0, h1, h2, h3, h4, h5⟩ := h
  exact ⟨(hc _).trans h0, (hc _).trans h1, (hc _).trans h2, (hc _).trans h3, (hc _).trans h4, (hc _).trans h5⟩

theorem CxAt.below {w w' : World} {b o B : Nat} {x : Cx} (h : CxAt w b o x) (hb : Below B w w') (hlt : b < B) : CxAt w' b o x := h.of_cells fun _ => hb.cell hlt

theorem Cx.Held.below {w w' : World} {x : Cx} (h : x.Held w) (hb : Below w.heap.size w w') : x.Held w' := by
  obtain ⟨h0, h1, h2, h3⟩ := h
  exact ⟨IntsAt.below h0 hb, WnsAt.below h1 hb, VxsAt.below h2 hb, PxsAt.below h3 hb⟩

def CxsAt (w : World) (A : Option Addr) (l : List Cx) : Prop :=
  l ≠ [] → ∃ b off, A = some ⟨b, off, none⟩ ∧ b < w.heap.size ∧ ∀ i (h : i < l.length), CxAt w b (off + i * 6) l[i] ∧ l[i].Held w

theorem CxsAt.get {w : World} {A : Option Addr} {l : List Cx} (h : CxsAt w A l) {k : Nat} (hk : k < l.length) : ∃ b off, A = some ⟨b, off, none⟩ ∧ b < w.heap.size ∧ CxAt w b (off + k * 6) l[k] ∧ l[k].Held w := by
  obtain ⟨b, off, h1, h2, h3⟩ := h (fun e => by subst e; simp at hk)
  exact ⟨b, off, h1, h2, h3 k hk⟩

theorem CxsAt.below {w w' : World} {A : Option Addr} {l : List Cx} (h : CxsAt w A l) (hb : Below w.heap.size w w') : CxsAt w' A l := fun hne => by
  obtain ⟨b, off, h1, h2, h3⟩ := h hne
  exact ⟨b, off, h1, Nat.lt_of_lt_of_le h2 hb.size, fun i hi => ⟨(h3 i hi).1.below hb h2, (h3 i hi).2.below hb⟩⟩

section
variable {H : Type} {enc : TypeId × Value → H} {w W : World} {base b0 : Nat} {spare : Nat → Bool} {held : Bool} {r : Reach}

theorem Cx_cells {fuel : Nat} {l : List Value} {x : DataW H × List MemPlace} (h : DataW.trod enc Tryz.prog W b0 spare held fuel 28 l = some x) :
    ∃ o : Cx, l = o.enc ∧ o.Ok ∧ o.Held W := by
  have cT : Tryz.prog.cellsOf 28 = 6 := by kernel_rfl
  have c3 : Tryz.prog.cellsOf 3 = 1 := by kernel_rfl
  have c22 : Tryz.prog.cellsOf 23 = 1 := by kernel_rfl
  have c23 : Tryz.prog.cellsOf 24 = 1 := by kernel_rfl
  have c24 : Tryz.prog.cellsOf 25 = 1 := by kernel_rfl
  have c25 : Tryz.prog.cellsOf 26 = 1 := by kernel_rfl
  obtain ⟨ys, n', _, _, hlen, hyl, hf⟩ := DataW.trod_struct Tryz.underlying28 h
  rw [cT] at hlen
  match l, hlen with
  | [x0, x1, x2, x3, x4, x5], _ =>
    match ys, hyl with
    | [y0, y1, y2, y3, y4, y5], _ =>
      have f0 : DataW.trod enc Tryz.prog W b0 spare held n' 3 ((([x0, x1, x2, x3, x4, x5] : List Value).drop 0).take (Tryz.prog.cellsOf 3)) = some y0 := hf 0 _ rfl
      rw [c3] at f0
      have f0 : DataW.trod enc Tryz.prog W b0 spare held n' 3 [x0] = some y0 := f0
      have f1 : DataW.trod enc Tryz.prog W b0 spare held n' 23 ((([x0, x1, x2, x3, x4, x5] : List Value).drop 1).take (Tryz.prog.cellsOf 23)) = some y1 := hf 1 _ rfl
      rw [c22] at f1
      have f1 : DataW.trod enc Tryz.prog W b0 spare held n' 23 [x1] = some y1 := f1
      have f2 : DataW.trod enc Tryz.prog W b0 spare held n' 3 ((([x0, x1, x2, x3, x4, x5] : List Value).drop 2).take (Tryz.prog.cellsOf 3)) = some y2 := hf 2 _ rfl
      rw [c3] at f2
      have f2 : DataW.trod enc Tryz.prog W b0 spare held n' 3 [x2] = some y2 := f2
      have f3 : DataW.trod enc Tryz.prog W b0 spare held n' 24 ((([x0, x1, x2, x3, x4, x5] : List Value).drop 3).take (Tryz.prog.cellsOf 24)) = some y3 := hf 3 _ rfl
      rw [c23] at f3
      have f3 : DataW.trod enc Tryz.prog W b0 spare held n' 24 [x3] = some y3 := f3
      have f4 : DataW.trod enc Tryz.prog W b0 spare held n' 25 ((([x0, x1, x2, x3, x4, x5] : List Value).drop 4).take (Tryz.prog.cellsOf 25)) = some y4 := hf 4 _ rfl
      rw [c24] at f4
      have f4 : DataW.trod enc Tryz.prog W b0 spare held n' 25 [x4] = some y4 := f4
      have f5 : DataW.trod enc Tryz.prog W b0 spare held n' 26 ((([x0, x1, x2, x3, x4, x5] : List Value).drop 5).take (Tryz.prog.cellsOf 26)) = some y5 := hf 5 _ rfl
      rw [c25] at f5
      have f5 : DataW.trod enc Tryz.prog W b0 spare held n' 26 [x5] = some y5 := f5
      obtain ⟨v0, e0, _, w0⟩ := DataW.trod_int Tryz.underlying3 f0
      obtain ⟨A1, k1, v1, e1, i1, l1, w1⟩ := ints_open Tryz.underlying23 Tryz.underlying3 (by kernel_rfl) f1
      obtain ⟨v2, e2, _, w2⟩ := DataW.trod_int Tryz.underlying3 f2
      obtain ⟨A3, k3, v3, e3, i3, l3, w3⟩ := Wns_open f3
      obtain ⟨A4, k4, v4, e4, i4, l4, w4⟩ := Vxs_open f4
      obtain ⟨A5, k5, v5, e5, i5, l5, w5⟩ := Pxs_open f5
      simp only [List.cons.injEq, and_true] at e0 e2
      subst e0 e1 e2 e3 e4 e5
      exact ⟨⟨v0, A1, k1, v1, v2, A3, k3, v3, A4, k4, v4, A5, k5, v5⟩, rfl, ⟨w0, l1, w1, w2, l3, w3, l4, w4, l5, w5⟩, ⟨i1, i3, i4, i5⟩⟩

theorem Cx_open {fuel : Nat} {v : Value} {x : DataW H × List MemPlace} (hok : Value.okWide Tryz.prog w r base 28 v) (h : DataW.trod enc Tryz.prog W b0 spare held fuel 28 v.cells.toList = some x) :
    ∃ o : Cx, v = o.val ∧ o.Ok ∧ o.Held W := by
  have hv : ∃ cs : Array Value, v = .agg cs := by
    simp only [Value.okWide, Tryz.underlying28] at hok
    obtain ⟨cs, h1, _⟩ := hok
    exact ⟨cs, h1⟩
  obtain ⟨cs, rfl⟩ := hv
  obtain ⟨l⟩ := cs
  have h : DataW.trod enc Tryz.prog W b0 spare held fuel 28 l = some x := by simpa [Value.cells] using h
  obtain ⟨o, rfl, h2, h3⟩ := Cx_cells h
  exact ⟨o, rfl, h2, h3⟩

end
abbrev Wn.pl (x : Wn) : PitotConf.Win := ⟨x.part, x.beg, x.long⟩
abbrev Vx.pl (x : Vx) : PitotConf.Vl := ⟨x.id, x.host, x.bag, x.smax, x.high, x.subs, x.skew, x.to⟩
abbrev Px.pl (x : Px) : PitotConf.Prt := ⟨x.id, x.host, x.part, x.kind, x.out, x.vl, x.sub, x.udp, x.size, x.depth, x.fresh⟩
/-- The network, in plain words. -/
def Cx.pl (c : Cx) : PitotConf.Cf := ⟨c.hosts, c.parts, c.major, c.wins.map Wn.pl, c.vls.map Vx.pl, c.ports.map Px.pl⟩
end Go.Proofs.YtdgkanamceeheaaGreat
