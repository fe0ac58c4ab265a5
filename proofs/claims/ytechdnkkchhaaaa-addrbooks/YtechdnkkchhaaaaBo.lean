/- A book in memory; contract of Get. -/
import Derived.Test.YtechdnkkchhaaaaMk
import Derived.Test.YtechdnkkchhaaaaPt
set_option maxRecDepth 100000
namespace Go.Proofs.Ytechdnkkchhaaaa
open Go.RowKit Go.Proofs.PitotAddr Go.Maps

/-- How a number reads that is noted. -/
noncomputable abbrev IE : Value → Option (DataW Unit × List MemPlace) := plainElem Try.prog 3
abbrev nd (x : Int) : DataW Unit := .lit (.int .i64 x)
/-- What a map tells, address by address. -/
def Rep (D : DataW Unit) (g : M6 → Option Int) : Prop := ∀ m, Maps.has D (kl m) = (g m).isSome ∧ D.atKey (kl m) (nd 0) = nd ((g m).getD 0)

/-- A book at block p, all of whose blocks lie from base on. -/
def BookAt (base : Nat) (w : World) (p n : Nat) (g : M6 → Option Int) : Prop :=
  base ≤ p ∧ ((w.heap[p]? = some (.cells #[.map none] 63) ∧ ∀ m, g m = none) ∨
    ∃ b D, w.heap[p]? = some (.cells #[.map (some b)] 63) ∧ base ≤ b ∧ w.ownsMap Try.prog 23 IE b n D ∧ Rep D g)

theorem nd_inj {x y : Int} (h : nd x = nd y) : x = y := by injection h with h; injection h

/-- What a look-up answers, in whatever world in which the map lies. -/
theorem look_made {w : World} {b n : Nat} {D : DataW Unit} {g : M6 → Option Int} (hown : w.ownsMap Try.prog 23 IE b n D) (hr : Rep D g) (m : M6) :
    (Instr.lookup 61 (.map (some b)) (M6.val m) true).run Try.prog w = .ok (.tuple #[.int .i64 ((g m).getD 0), .bool (g m).isSome]) w := by
  obtain ⟨v, ps, hrun, hv⟩ := hown.look_ok law23 Try.underlying61 (zero3 w) (plainElem_int Try.underlying3 (by decide)) (key_mac m)
  rw [(hr m).2] at hv
  obtain ⟨c, rfl, hc, _⟩ := plainElem_int_inv Try.underlying3 hv
  rw [hrun, (hr m).1]
  simp only [Prod.mk.injEq] at hc
  rw [nd_inj hc.1]
theorem look_none (w : World) (m : M6) : (Instr.lookup 61 (.map none) (M6.val m) true).run Try.prog w = .ok (.tuple #[.int .i64 0, .bool false]) w := by
  have := Maps.look_nil (w := w) true law23 Try.underlying61 (zero3 w) (key_mac m)
  simpa using this

theorem ownsMap_drew {w : World} {b n : Nat} {D : DataW Unit} (h : w.ownsMap Try.prog 23 IE b n D) (q : Nat) : (w.drewN q).ownsMap Try.prog 23 IE b n D := h
theorem ownsMap_alloc {w : World} {b n : Nat} {D : DataW Unit} (h : w.ownsMap Try.prog 23 IE b n D) (o : Obj) : (w.alloc o).ownsMap Try.prog 23 IE b n D := h.kept (World.grownBy_alloc w o none) (by simp)

set_option maxHeartbeats 1000000 in
theorem get_made (w : World) (p b n : Nat) (D : DataW Unit) (g : M6 → Option Int) (hp : w.heap[p]? = some (.cells #[.map (some b)] 63)) (hown : w.ownsMap Try.prog 23 IE b n D) (hr : Rep D g) (m : M6) :
    Calls Try.prog 34 #[.pointer (some ⟨p, 0, none⟩), M6.val m] w fun r w' => r = .returned (.tuple #[.int .i64 ((g m).getD 0), .bool (g m).isSome]) ∧ Below w.heap.size w w' := by
  obtain ⟨a, b', c, d, e, f⟩ := m
  have hlook : ∀ o q, (Instr.lookup 61 (.map (some b)) (.agg #[.int .u8 a.toNat, .int .u8 b'.toNat, .int .u8 c.toNat, .int .u8 d.toNat, .int .u8 e.toNat, .int .u8 f.toNat]) true).run Try.prog ((w.alloc o).drewN q) = .ok (.tuple #[.int .i64 ((g ⟨a, b', c, d, e, f⟩).getD 0), .bool (g ⟨a, b', c, d, e, f⟩).isSome]) ((w.alloc o).drewN q) :=
    fun o q => look_made (ownsMap_drew (ownsMap_alloc hown o) q) hr ⟨a, b', c, d, e, f⟩
  have hlook0 := fun o => hlook o 0
  have hc : ∀ o, (w.alloc o).cell? ⟨p, 0, none⟩ = some (.map (some b)) := fun o => lies_cell (lies_alloc hp o) 0
  have Hown := Lib.hid hown; clear hown
  have Hp := Lib.hid hp; clear hp
  have Hr := Lib.hid hr; clear hr
  obtain ⟨x, Hx⟩ : ∃ x, Hid (x = (g ⟨a, b', c, d, e, f⟩).getD 0) := ⟨_, rfl⟩
  obtain ⟨y, Hy⟩ : ∃ y, Hid (y = (g ⟨a, b', c, d, e, f⟩).isSome) := ⟨_, rfl⟩
  rw [← Hx.out, ← Hy.out] at hlook hlook0 ⊢
  go_enter Try.func34, Try.ntmps34
  go_wp2
  go_quiet (fail)
  go_wp2
  go_returns
  exact ⟨rfl, below_drewN (below_new (Below.refl _ _) _) _⟩

set_option maxHeartbeats 1000000 in
theorem get_none (w : World) (p : Nat) (hp : w.heap[p]? = some (.cells #[.map none] 63)) (m : M6) :
    Calls Try.prog 34 #[.pointer (some ⟨p, 0, none⟩), M6.val m] w fun r w' => r = .returned (.tuple #[.int .i64 0, .bool false]) ∧ Below w.heap.size w w' := by
  obtain ⟨a, b', c, d, e, f⟩ := m
  have hlook : ∀ w, (Instr.lookup 61 (.map none) (.agg #[.int .u8 a.toNat, .int .u8 b'.toNat, .int .u8 c.toNat, .int .u8 d.toNat, .int .u8 e.toNat, .int .u8 f.toNat]) true).run Try.prog w = .ok (.tuple #[.int .i64 0, .bool false]) w :=
    fun w => look_none w ⟨a, b', c, d, e, f⟩
  have hc : ∀ o, (w.alloc o).cell? ⟨p, 0, none⟩ = some (.map none) := fun o => lies_cell (lies_alloc hp o) 0
  have Hp := Lib.hid hp; clear hp
  go_enter Try.func34, Try.ntmps34
  go_wp2
  go_quiet (fail)
  go_wp2
  go_returns
  exact ⟨rfl, below_drewN (below_new (Below.refl _ _) _) _⟩

/-- Get of a book. -/
theorem get_any {base : Nat} {w : World} {p n : Nat} {g : M6 → Option Int} (h : BookAt base w p n g) (m : M6) :
    Calls Try.prog 34 #[.pointer (some ⟨p, 0, none⟩), M6.val m] w fun r w' => r = .returned (.tuple #[.int .i64 ((g m).getD 0), .bool (g m).isSome]) ∧ Below w.heap.size w w' := by
  rcases h.2 with ⟨hp, hg⟩ | ⟨b, D, hp, _, hown, hr⟩
  · rw [hg m]; exact get_none w p hp m
  · exact get_made w p b n D g hp hown hr m

/-- Blocks of cells that are no book's are as they were. -/
def Kind63 (w w' : World) : Prop := ∀ (k : Nat) (cs : Array Value) (t : TypeId) (fr : Nat × Nat), t ≠ 63 → w.heap[k]? = some (Obj.cells cs t fr) → w'.heap[k]? = some (Obj.cells cs t fr)
theorem Kind63.trans {w w1 w2 : World} (h : Kind63 w w1) (g : Kind63 w1 w2) : Kind63 w w2 := fun k cs t fr ht h1 => g k cs t fr ht (h k cs t fr ht h1)
theorem kind_below {w w' : World} (h : Below w.heap.size w w') : Kind63 w w' := fun k cs t fr _ h1 => by
  have hlt : k < w.heap.size := by
    rcases Nat.lt_or_ge k w.heap.size with h2 | h2
    · exact h2
    · simp [Array.getElem?_eq_none h2] at h1
  exact (h.block k hlt).trans h1
/-- A map's entries have turned. -/
theorem kind_turned {w w' : World} {b : Nat} (h : w.mapTurned w' b) : Kind63 w w' := fun k cs t fr _ h1 => by
  obtain ⟨es, cl, es', cl', hb, rfl⟩ := h
  by_cases e : k = b
  · subst e; rw [hb] at h1; cases h1
  · exact (ChangeMaps.heap_setBlock_other hb _ e).trans h1
theorem kind_book {w : World} {p : Nat} {cs : Array Value} (hp : w.heap[p]? = some (.cells cs 63)) (u : Value) : Kind63 w (w.setCell ⟨p, 0, none⟩ u) := fun k cs' t fr ht h1 => by
  have : k ≠ p := fun e => by subst e; rw [hp] at h1; injection h1 with h1; injection h1 with _ h2; exact ht h2.symm
  rw [RowKit.Below.heap_setCell _ _ _ _ this]; exact h1

theorem turned_below {base : Nat} {w w' : World} {b : Nat} (h : w.mapTurned w' b) (hb : base ≤ b) : Below base w w' :=
  ⟨h.grown.os, h.grown.tape, h.grown.output, h.grown.size, fun k hk => by
    obtain ⟨es, cl, es', cl', hb', rfl⟩ := h
    exact ChangeMaps.heap_setBlock_other hb' _ (by omega)⟩

def upd (g : M6 → Option Int) (m : M6) (x : Option Int) : M6 → Option Int := fun k => if k = m then x else g k
theorem rep_put {D : DataW Unit} {g : M6 → Option Int} (hr : Rep D g) (hD : Maps.IsMap D) (m : M6) (x : Int) : Rep (D.put (kl m) (nd x)) (upd g m (some x)) := fun k => by
  unfold upd
  by_cases e : k = m
  · subst e
    rw [if_pos rfl, has_put_same hD (kl_key k), atKey_put_same hD (kl_key k)]
    exact ⟨rfl, rfl⟩
  · rw [if_neg e, has_put_other (fun h => e (kl_inj h)), atKey_put_other (fun h => e (kl_inj h))]
    exact hr k
theorem rep_del {D : DataW Unit} {g : M6 → Option Int} (hr : Rep D g) (m : M6) : Rep (D.del (kl m)) (upd g m none) := fun k => by
  unfold upd
  by_cases e : k = m
  · subst e
    rw [if_pos rfl, has_del_same, atKey_del_same]
    exact ⟨rfl, rfl⟩
  · rw [if_neg e, has_del_other (fun h => e (kl_inj h)), atKey_del_other (fun h => e (kl_inj h))]
    exact hr k
end Go.Proofs.Ytechdnkkchhaaaa
