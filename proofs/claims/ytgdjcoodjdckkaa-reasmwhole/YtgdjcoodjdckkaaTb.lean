/- A table in memory; contracts of forget and giveUp. -/
import Derived.Test.YtgdjcoodjdckkaaBy
import Derived.StillTailTactics
import Derived.Deep.Cut
set_option maxRecDepth 100000
namespace Go.Proofs.Ytgdjcoodjdckkaa
open Go.RowKit Go.Proofs.PitotIp Go.Maps
open Go.Proofs.PitotReasm (Bg Tb Fine)
open Go.Proofs.Ytgdjcoodjdckkaa.Bi (lies_lt lies_cell lies_frozen lies_alloc lies_set)

abbrev find := @PitotReasm.find K UInt8 _
abbrev drop := @PitotReasm.drop K UInt8 _
/-- How what a map has reads: as it is. -/
def HE (v : Value) : Option (DataW Value × List MemPlace) := some (.held v, [])
abbrev bz : Value := .agg #[.int .i64 0, .slice none 0 0]
def bval (o : Option (Bg K UInt8)) (v : Value) : Value := match o with | some b => .agg #[.int .i64 b.t0, v] | none => bz
abbrev tabC (most wait now : Int) (mb : Nat) (ov : Value) (dr : Int) : Obj := .cells #[.int .i64 most, .int .i64 wait, .int .i64 now, .map (some mb), ov, .int .i64 dr] 70
/-- What a map tells, Key by Key. -/
def Rep (D : DataW Value) (l : List (Bg K UInt8)) (dv : K → Value) : Prop := ∀ k, Maps.has D (kl k) = (find l k).isSome ∧ D.atKey (kl k) (.held bz) = .held (bval (find l k) (dv k))

/-- A table at block p, all of whose blocks lie from base on: its map at mb, its Keys' order ov, its packets' bytes dv. -/
structure Tab (base : Nat) (w : World) (p : Nat) (most wait : Int) (t : Tb K UInt8) (mb n : Nat) (D : DataW Value) (ov : Value) (dv : K → Value) : Prop where
  hp : base ≤ p
  hm : base ≤ mb
  tab : w.heap[p]? = some (tabC most wait t.now mb ov t.dr)
  map : w.ownsMap Try.prog 52 HE mb n D
  rep : Rep D t.l dv
  size : Maps.size D = t.l.length
  row : w.ownsRow base 52 10 ov t.l.length (flatK (t.l.map (·.k)))
  bytes : ∀ b ∈ t.l, BytesAt base w (dv b.k) b.d
  apart : ∀ b ∈ t.l, ∀ c ∈ t.l, b.k ≠ c.k → (dv b.k).ownBlock ≠ (dv c.k).ownBlock
def TabAt (base : Nat) (w : World) (p : Nat) (most wait : Int) (t : Tb K UInt8) : Prop := ∃ mb n D ov dv, Tab base w p most wait t mb n D ov dv

/-- Blocks below base, and blocks of cells of other kinds, are as they were. -/
structure Fr (base : Nat) (w w' : World) : Prop where
  below : Below base w w'
  kind : ∀ (k : Nat) (cs : Array Value) (ty : TypeId) (fr : Nat × Nat), ty ≠ 70 → ty ≠ 52 → ty ≠ 5 → w.heap[k]? = some (Obj.cells cs ty fr) → w'.heap[k]? = some (Obj.cells cs ty fr)
theorem Fr.trans {base : Nat} {w w1 w2 : World} (h : Fr base w w1) (g : Fr base w1 w2) : Fr base w w2 := ⟨h.below.trans g.below, fun k cs ty fr a b c e => g.kind k cs ty fr a b c (h.kind k cs ty fr a b c e)⟩
theorem Fr.of {base : Nat} {w w' : World} (h : Below w.heap.size w w') (hb : base ≤ w.heap.size) : Fr base w w' := ⟨h.mono hb, fun k _ _ _ _ _ _ e => (h.block k (Array.getElem?_eq_some_iff.1 e).1).trans e⟩
theorem Fr.turned {base : Nat} {w w' : World} {b : Nat} (h : w.mapTurned w' b) (hb : base ≤ b) : Fr base w w' := by
  obtain ⟨es, cl, es', cl', hb', rfl⟩ := h
  refine ⟨⟨rfl, rfl, rfl, by simp [ChangeMaps.setBlock], fun k hk => ChangeMaps.heap_setBlock_other hb' _ (by omega)⟩, fun k cs ty fr _ _ _ e => ?_⟩
  by_cases e1 : k = b
  · subst e1; rw [hb'] at e; cases e
  · exact (ChangeMaps.heap_setBlock_other hb' _ e1).trans e
theorem Fr.grown {base : Nat} {w w' : World} {g : Nat} (h : w.grownBy w' (some g)) (hg : base ≤ g) (hb : base ≤ w.heap.size) {cs : Array Value} {ty : TypeId} {fr : Nat × Nat} (ht : w.heap[g]? = some (.cells cs ty fr)) (hty : ty = 70 ∨ ty = 52 ∨ ty = 5) : Fr base w w' := by
  refine ⟨⟨h.os, h.tape, h.output, h.size, fun k hk => h.block k (by omega) (by simp; omega)⟩, fun k cs' ty' fr' h1 h2 h3 e => ?_⟩
  have : k ≠ g := fun e1 => by
    subst e1; rw [ht] at e; injection e with e; injection e with _ e2 _
    rcases hty with rfl | rfl | rfl
    · exact h1 e2.symm
    · exact h2 e2.symm
    · exact h3 e2.symm
  exact (h.block k (Array.getElem?_eq_some_iff.1 e).1 (by simpa using this)).trans e
theorem Fr.drew {base : Nat} {w w' : World} (h : Fr base w w') : Fr base w w'.drew := ⟨h.below.drew, h.kind⟩
theorem Fr.drewN {base : Nat} {w w' : World} (h : Fr base w w') (q : Nat) : Fr base w (w'.drewN q) := ⟨⟨h.below.os, h.below.tape, h.below.output, h.below.size, h.below.block⟩, h.kind⟩
theorem Fr.refl {base : Nat} {w : World} : Fr base w w := ⟨Below.refl _ _, fun _ _ _ _ _ _ _ e => e⟩

theorem map_other {w w' : World} {b p : Nat} {o : Obj} (h : w.mapTurned w' b) (hp : w.heap[p]? = some o) (ho : ∀ es cl, o ≠ .map es cl) : w'.heap[p]? = some o := by
  obtain ⟨es, cl, es', cl', hb, rfl⟩ := h
  have : p ≠ b := fun e => by subst e; rw [hb] at hp; injection hp with hp; exact ho _ _ hp.symm
  exact (ChangeMaps.heap_setBlock_other hb _ this).trans hp
theorem map_tight {w : World} {b n : Nat} {D : DataW Value} (h : w.ownsMap Try.prog 52 HE b n D) : w.ownsMap Try.prog 52 HE b (Maps.size D) D := by
  obtain ⟨es, cl, h1, h2, h3, rfl⟩ := h
  exact ⟨es, cl, h1, h2, by rw [Maps.size_eq, length_read]; exact Nat.le_refl _, rfl⟩

theorem Tab.lt {base : Nat} {w : World} {p : Nat} {most wait : Int} {t : Tb K UInt8} {mb n : Nat} {D : DataW Value} {ov : Value} {dv : K → Value} (h : Tab base w p most wait t mb n D ov dv) : p < w.heap.size ∧ mb < w.heap.size ∧ base ≤ w.heap.size := by
  have := lies_lt h.tab; have := h.map.lt; have := h.hp
  exact ⟨by omega, by omega, by omega⟩
/-- Where only other blocks have turned, a table is what it was. -/
theorem Tab.of {base : Nat} {w w' : World} {p : Nat} {most wait : Int} {t : Tb K UInt8} {mb n : Nat} {D : DataW Value} {ov : Value} {dv : K → Value} (h : Tab base w p most wait t mb n D ov dv) (hg : w.grownBy w' none) : Tab base w' p most wait t mb n D ov dv where
  hp := h.hp
  hm := h.hm
  tab := (hg.block p h.lt.1 (by simp)).trans h.tab
  map := h.map.kept hg (by simp)
  rep := h.rep
  size := h.size
  row := h.row.kept hg (by cases hh : ov.ownBlock <;> simp)
  bytes := fun b hb => (h.bytes b hb).kept hg (by obtain ⟨g, _, _, e, _⟩ := (h.bytes b hb).block; rw [e]; simp)
  apart := h.apart
theorem Tab.below {base : Nat} {w w' : World} {p : Nat} {most wait : Int} {t : Tb K UInt8} {mb n : Nat} {D : DataW Value} {ov : Value} {dv : K → Value} (h : Tab base w p most wait t mb n D ov dv) (hb : Below w.heap.size w w') : Tab base w' p most wait t mb n D ov dv := h.of (grown_below hb none)
theorem TabAt.below {base : Nat} {w w' : World} {p : Nat} {most wait : Int} {t : Tb K UInt8} (h : TabAt base w p most wait t) (hb : Below w.heap.size w w') : TabAt base w' p most wait t := by
  obtain ⟨mb, n, D, ov, dv, h⟩ := h
  exact ⟨mb, n, D, ov, dv, h.below hb⟩
theorem TabAt.base {base : Nat} {w : World} {p : Nat} {most wait : Int} {t : Tb K UInt8} (h : TabAt base w p most wait t) : base ≤ w.heap.size := by
  obtain ⟨mb, n, D, ov, dv, h⟩ := h
  exact h.lt.2.2
theorem TabAt.lt {base : Nat} {w : World} {p : Nat} {most wait : Int} {t : Tb K UInt8} (h : TabAt base w p most wait t) : p < w.heap.size := by
  obtain ⟨mb, n, D, ov, dv, h⟩ := h
  exact h.lt.1
theorem Tab.drewN {base : Nat} {w : World} {p : Nat} {most wait : Int} {t : Tb K UInt8} {mb n : Nat} {D : DataW Value} {ov : Value} {dv : K → Value} (h : Tab base w p most wait t mb n D ov dv) (q : Nat) : Tab base (w.drewN q) p most wait t mb n D ov dv := h.of ⟨rfl, rfl, rfl, Nat.le_refl _, fun _ _ _ => rfl⟩

/-- What a Key's place parts. -/
theorem keys_split : ∀ {l : List (Bg K UInt8)} {k : K} {b : Bg K UInt8}, (l.map (·.k)).Nodup → find l k = some b → ∃ l1 l2, l.map (·.k) = l1 ++ k :: l2 ∧ k ∉ l1 ∧ k ∉ l2 ∧ (drop l k).map (·.k) = l1 ++ l2
  | [], _, _, _, h => by simp [find, PitotReasm.find] at h
  | c :: r, k, b, hn, h => by
    simp only [List.map_cons, List.nodup_cons] at hn
    rw [find, PitotReasm.find_cons] at h
    by_cases e : c.k = k
    · subst e
      refine ⟨[], r.map (·.k), rfl, by simp, hn.1, ?_⟩
      rw [drop, PitotReasm.drop_cons, if_pos rfl, PitotReasm.drop_none]
      · rfl
      · rw [PitotReasm.find, List.find?_eq_none]
        intro x hx hk
        exact hn.1 (List.mem_map.2 ⟨x, hx, by simpa using hk⟩)
    · rw [if_neg e] at h
      obtain ⟨l1, l2, h1, h2, h3, h4⟩ := keys_split hn.2 h
      refine ⟨c.k :: l1, l2, by rw [List.map_cons, h1]; rfl, by simp only [List.mem_cons, not_or]; exact ⟨fun x => e x.symm, h2⟩, h3, ?_⟩
      rw [drop, PitotReasm.drop_cons, if_neg e, List.map_cons]
      show c.k :: (drop r k).map (·.k) = _
      rw [h4]; rfl

theorem rep_del {D : DataW Value} {l : List (Bg K UInt8)} {dv : K → Value} (hr : Rep D l dv) (k : K) : Rep (D.del (kl k)) (drop l k) dv := fun x => by
  by_cases e : x = k
  · subst e
    rw [has_del_same, atKey_del_same, show find (drop l x) x = none from PitotReasm.find_drop_self l x]
    exact ⟨rfl, rfl⟩
  · rw [has_del_other (fun h => e (kl_inj h)), atKey_del_other (fun h => e (kl_inj h)), show find (drop l k) x = find l x from PitotReasm.find_drop_other l (fun h => e h.symm)]
    exact hr x
theorem find_mem {l : List (Bg K UInt8)} {k : K} {b : Bg K UInt8} (h : find l k = some b) : b ∈ l ∧ b.k = k := ⟨(PitotReasm.find_some h).2, (PitotReasm.find_some h).1⟩
theorem drop_mem {l : List (Bg K UInt8)} {k : K} {b : Bg K UInt8} (h : b ∈ drop l k) : b ∈ l := by
  unfold drop PitotReasm.drop at h
  exact (List.mem_filter.1 h).1
end Go.Proofs.Ytgdjcoodjdckkaa
