/- Contracts of Put and Drop of a book. -/
import Derived.Test.YtechdnkkchhaaaaBo
import Derived.StillTailTactics
import Derived.Deep.Cut
set_option maxRecDepth 100000
namespace Go.Proofs.Ytechdnkkchhaaaa
open Go.RowKit Go.Proofs.PitotAddr Go.Maps

theorem map_eq (w : World) (x : Option Nat) : (binOp .eql 61 (.map x) (.map none)).run Try.prog w = .ok (.bool x.isNone) w := by
  simp [binOp, run_equal_map_nil w 61 23 3 x Try.underlying61]

/-- A block of cells is no map's. -/
theorem turned_other {w w' : World} {b p : Nat} {cs : Array Value} {t : TypeId} (h : w.mapTurned w' b) (hp : w.heap[p]? = some (.cells cs t)) : w'.heap[p]? = some (.cells cs t) := by
  obtain ⟨es, cl, es', cl', hb, rfl⟩ := h
  have : p ≠ b := fun e => by subst e; rw [hb] at hp; cases hp
  exact (ChangeMaps.heap_setBlock_other hb _ this).trans hp

set_option maxHeartbeats 2000000 in
theorem put_made (base : Nat) (w : World) (p b n : Nat) (D : DataW Unit) (g : M6 → Option Int) (hbp : base ≤ p) (hbb : base ≤ b) (hp : w.heap[p]? = some (.cells #[.map (some b)] 63)) (hown : w.ownsMap Try.prog 23 IE b n D) (hr : Rep D g) (hN : n < maxLen) (m : M6) (x : Int) (hx : (Lit.int .i64 x).wf = true) :
    Calls Try.prog 32 #[.pointer (some ⟨p, 0, none⟩), M6.val m, .int .i64 x] w fun r w' => r = .returned (.tuple #[.int .i64 ((g m).getD 0), .bool (g m).isSome]) ∧ BookAt base w' p (n + 1) (upd g m (some x)) ∧ Below base w w' ∧ Kind63 w w' := by
  have hbase : base ≤ w.heap.size := by have := hown.lt; omega
  have hbB := hbb
  have hNn : n + 1 ≤ n + 1 := Nat.le_refl _
  obtain ⟨R, HR⟩ : ∃ R, Hid (R = (g m).getD 0) := ⟨_, rfl⟩
  obtain ⟨S, HS⟩ : ∃ S, Hid (S = (g m).isSome) := ⟨_, rfl⟩
  rw [← HR.out, ← HS.out]
  have hkey := key_mac m
  have hD := hown.isMap
  obtain ⟨a, b', c, d, e, f⟩ := m
  have hc : ∀ o, (w.alloc o).cell? ⟨p, 0, none⟩ = some (.map (some b)) := fun o => lies_cell (lies_alloc hp o) 0
  have heq := fun w => map_eq w (some b)
  simp only [Option.isNone_some] at heq
  have Hown := Lib.hid hown; clear hown
  have Hp := Lib.hid hp; clear hp
  have Hr := Lib.hid hr; clear hr
  have Hkey := Lib.hid hkey; clear hkey
  have F1 : Hid ((w.alloc (.cells #[.int .u8 a.toNat, .int .u8 b'.toNat, .int .u8 c.toNat, .int .u8 d.toNat, .int .u8 e.toNat, .int .u8 f.toNat] 23)).heap[p]? = some (.cells #[.map (some b)] 63)) := lies_alloc Hp.out _
  have F2 : Hid ((w.alloc (.cells #[.int .u8 a.toNat, .int .u8 b'.toNat, .int .u8 c.toNat, .int .u8 d.toNat, .int .u8 e.toNat, .int .u8 f.toNat] 23)).heap[w.heap.size]? = some (.cells #[.int .u8 a.toNat, .int .u8 b'.toNat, .int .u8 c.toNat, .int .u8 d.toNat, .int .u8 e.toNat, .int .u8 f.toNat] 23)) := heap_alloc_new w _
  have F3 : Hid ((w.alloc (.cells #[.int .u8 a.toNat, .int .u8 b'.toNat, .int .u8 c.toNat, .int .u8 d.toNat, .int .u8 e.toNat, .int .u8 f.toNat] 23)).ownsMap Try.prog 23 IE b n D) := ownsMap_alloc Hown.out _
  have F4 : Hid (Below base w (w.alloc (.cells #[.int .u8 a.toNat, .int .u8 b'.toNat, .int .u8 c.toNat, .int .u8 d.toNat, .int .u8 e.toNat, .int .u8 f.toNat] 23))) := (Below.refl _ w).alloc hbase _
  have F5 : Hid (Kind63 w (w.alloc (.cells #[.int .u8 a.toNat, .int .u8 b'.toNat, .int .u8 c.toNat, .int .u8 d.toNat, .int .u8 e.toNat, .int .u8 f.toNat] 23))) := kind_below (below_new (Below.refl _ w) _)
  go_enter Try.func32, Try.ntmps32
  go_upto_region 5 with (fail)
  clear hc heq
  generalize w.alloc (.cells #[.int .u8 a.toNat, .int .u8 b'.toNat, .int .u8 c.toNat, .int .u8 d.toNat, .int .u8 e.toNat, .int .u8 f.toNat] 23) = W at F1 F2 F3 F4 F5 ⊢
  have hc := lies_cell F1.out 0
  replace hc : W.cell? ⟨p, 0, none⟩ = some (.map (some b)) := hc
  obtain ⟨i0, i1, i2, i3, i4, i5⟩ := six F2.out
  have hlook : ∀ q, (Instr.lookup 61 (.map (some b)) (.agg #[.int .u8 a.toNat, .int .u8 b'.toNat, .int .u8 c.toNat, .int .u8 d.toNat, .int .u8 e.toNat, .int .u8 f.toNat]) true).run Try.prog (W.drewN q) = .ok (.tuple #[.int .i64 R, .bool S]) (W.drewN q) := fun q => by
    rw [HR.out, HS.out]; exact look_made (ownsMap_drew F3.out q) Hr.out ⟨a, b', c, d, e, f⟩
  have hlook0 := hlook 0
  go_upto_region 5 with (fail)
  go_quiet (fail)
  clear hlook hlook0 hc i0 i1 i2 i3 i4 i5
  have F1' : Hid ((W.drewN nq).heap[p]? = some (.cells #[.map (some b)] 63)) := F1
  have F2' : Hid ((W.drewN nq).heap[w.heap.size]? = some (.cells #[.int .u8 a.toNat, .int .u8 b'.toNat, .int .u8 c.toNat, .int .u8 d.toNat, .int .u8 e.toNat, .int .u8 f.toNat] 23)) := F2
  have F3' : Hid ((W.drewN nq).ownsMap Try.prog 23 IE b n D) := F3
  have F4' : Hid (Below base w (W.drewN nq)) := below_drewN F4.out nq
  have F5' : Hid (Kind63 w (W.drewN nq)) := F5
  clear F1 F2 F3 F4 F5
  generalize W.drewN nq = V at F1' F2' F3' F4' F5' ⊢
  have hc := lies_cell F1'.out 0
  replace hc : V.cell? ⟨p, 0, none⟩ = some (.map (some b)) := hc
  obtain ⟨i0, i1, i2, i3, i4, i5⟩ := six F2'.out
  go_upto_region 6 with (fail)
  go_still_tail 6, (by kernel_rfl)
  refine wpList_mapUpdate_in _ rfl _ _ _ 61 rfl 23 3 law23 Try.underlying61 IE b n D rfl F3'.out hN _ _ _ rfl rfl Hkey.out (nd x) [] (plainElem_int Try.underlying3 hx) ?_
  intro w1 hown1 hturn1
  have HO := Lib.hid hown1; clear hown1
  have HT := Lib.hid hturn1; clear hturn1
  clear hc i0 i1 i2 i3 i4 i5
  go_frame
  go_wp2
  go_returns
  have L1 : w1.heap[p]? = some (.cells #[.map (some b)] 63) := turned_other HT.out F1'.out
  have HB1 : Below base w V.drew := F4'.out.drew
  refine ⟨rfl, ⟨hbp, .inr ⟨b, _, L1, hbB, HO.out.mono hNn, rep_put Hr.out hD _ x⟩⟩, HB1.trans (turned_below HT.out hbB), ?_⟩
  have HK : Kind63 w V.drew := F5'.out
  exact HK.trans (kind_turned HT.out)

set_option maxHeartbeats 2000000 in
theorem put_first (base : Nat) (w : World) (p n : Nat) (g : M6 → Option Int) (hbp : base ≤ p) (hp : w.heap[p]? = some (.cells #[.map none] 63)) (hg : ∀ m, g m = none) (m : M6) (x : Int) (hx : (Lit.int .i64 x).wf = true) :
    Calls Try.prog 32 #[.pointer (some ⟨p, 0, none⟩), M6.val m, .int .i64 x] w fun r w' => r = .returned (.tuple #[.int .i64 ((g m).getD 0), .bool (g m).isSome]) ∧ BookAt base w' p (n + 1) (upd g m (some x)) ∧ Below base w w' ∧ Kind63 w w' := by
  have hpl := lies_lt hp
  have hbase : base ≤ w.heap.size := by omega
  have hbB : base ≤ w.heap.size + 1 := by omega
  have hNn : 0 + 1 ≤ n + 1 := by omega
  have hN : 0 < maxLen := by unfold maxLen; omega
  obtain ⟨R, HR⟩ : ∃ R, Hid (R = (g m).getD 0) := ⟨_, rfl⟩
  obtain ⟨S, HS⟩ : ∃ S, Hid (S = (g m).isSome) := ⟨_, rfl⟩
  rw [← HR.out, ← HS.out]
  have hkey := key_mac m
  have hD : Maps.IsMap (.map [] : DataW Unit) := isMap_empty
  have Hr : Hid (Rep (.map []) g) := fun k => by rw [hg k]; exact ⟨rfl, rfl⟩
  have Hg := Lib.hid hg; clear hg
  obtain ⟨a, b', c, d, e, f⟩ := m
  have hc : ∀ o, (w.alloc o).cell? ⟨p, 0, none⟩ = some (.map none) := fun o => lies_cell (lies_alloc hp o) 0
  have hc2 : ∀ o o', ((w.alloc o).alloc o').cell? ⟨p, 0, none⟩ = some (.map none) := fun o o' => lies_cell (lies_alloc (lies_alloc hp o) o') 0
  have hf2 : ∀ o o', ((w.alloc o).alloc o').frozen? ⟨p, 0, none⟩ = false := fun o o' => lies_frozen (lies_alloc (lies_alloc hp o) o') 0
  have heq := fun w => map_eq w none
  simp only [Option.isNone_none] at heq
  have Hp := Lib.hid hp; clear hp
  have Hkey := Lib.hid hkey; clear hkey
  have hmm := @run_makeMap Try.prog
  have hpn1 : p ≠ w.heap.size := by omega
  have hpn2 : p ≠ w.heap.size + 1 := by omega
  have Hpn := Lib.hid (And.intro hpn1 hpn2); clear hpn1 hpn2 hpl
  have F1 : Hid ((((w.alloc (.cells #[.int .u8 a.toNat, .int .u8 b'.toNat, .int .u8 c.toNat, .int .u8 d.toNat, .int .u8 e.toNat, .int .u8 f.toNat] 23)).alloc (.map #[] 0)).setCell ⟨p, 0, none⟩ (.map (some (w.heap.size + 1)))).heap[p]? = some (.cells #[.map (some (w.heap.size + 1))] 63)) := by
    have := lies_set (lies_alloc (lies_alloc Hp.out (.cells #[.int .u8 a.toNat, .int .u8 b'.toNat, .int .u8 c.toNat, .int .u8 d.toNat, .int .u8 e.toNat, .int .u8 f.toNat] 23)) (.map #[] 0)) 0 (.map (some (w.heap.size + 1)))
    exact this
  have F2 : Hid ((((w.alloc (.cells #[.int .u8 a.toNat, .int .u8 b'.toNat, .int .u8 c.toNat, .int .u8 d.toNat, .int .u8 e.toNat, .int .u8 f.toNat] 23)).alloc (.map #[] 0)).setCell ⟨p, 0, none⟩ (.map (some (w.heap.size + 1)))).heap[w.heap.size]? = some (.cells #[.int .u8 a.toNat, .int .u8 b'.toNat, .int .u8 c.toNat, .int .u8 d.toNat, .int .u8 e.toNat, .int .u8 f.toNat] 23)) := lies_far (lies_alloc (heap_alloc_new w _) _) (fun e => Hpn.out.1 e.symm) _ _
  have F3 : Hid ((((w.alloc (.cells #[.int .u8 a.toNat, .int .u8 b'.toNat, .int .u8 c.toNat, .int .u8 d.toNat, .int .u8 e.toNat, .int .u8 f.toNat] 23)).alloc (.map #[] 0)).setCell ⟨p, 0, none⟩ (.map (some (w.heap.size + 1)))).ownsMap Try.prog 23 IE (w.heap.size + 1) 0 (.map [])) := by
    have h := World.ownsMap_made (H := Unit) (w.alloc (.cells #[.int .u8 a.toNat, .int .u8 b'.toNat, .int .u8 c.toNat, .int .u8 d.toNat, .int .u8 e.toNat, .int .u8 f.toNat] 23)) Try.prog 23 IE
    rw [show (w.alloc (.cells #[.int .u8 a.toNat, .int .u8 b'.toNat, .int .u8 c.toNat, .int .u8 d.toNat, .int .u8 e.toNat, .int .u8 f.toNat] 23)).heap.size = w.heap.size + 1 by simp] at h
    exact h.setCell (a := ⟨p, 0, none⟩) (fun e => Hpn.out.2 e.symm) _
  have F4 : Hid (Below base w (((w.alloc (.cells #[.int .u8 a.toNat, .int .u8 b'.toNat, .int .u8 c.toNat, .int .u8 d.toNat, .int .u8 e.toNat, .int .u8 f.toNat] 23)).alloc (.map #[] 0)).setCell ⟨p, 0, none⟩ (.map (some (w.heap.size + 1))))) := (((Below.refl _ w).alloc hbase _).alloc (by simp; omega) _).setCell hbp _
  have F5 : Hid (Kind63 w (((w.alloc (.cells #[.int .u8 a.toNat, .int .u8 b'.toNat, .int .u8 c.toNat, .int .u8 d.toNat, .int .u8 e.toNat, .int .u8 f.toNat] 23)).alloc (.map #[] 0)).setCell ⟨p, 0, none⟩ (.map (some (w.heap.size + 1))))) := by
    have h1 : Kind63 w ((w.alloc (.cells #[.int .u8 a.toNat, .int .u8 b'.toNat, .int .u8 c.toNat, .int .u8 d.toNat, .int .u8 e.toNat, .int .u8 f.toNat] 23)).alloc (.map #[] 0)) := kind_below (below_new (below_new (Below.refl _ w) _) _)
    exact h1.trans (kind_book (lies_alloc (lies_alloc Hp.out _) _) _)
  go_enter Try.func32, Try.ntmps32
  go_upto_region 5 with (fail)
  clear hc hc2 hf2 heq hmm
  generalize (((w.alloc (.cells #[.int .u8 a.toNat, .int .u8 b'.toNat, .int .u8 c.toNat, .int .u8 d.toNat, .int .u8 e.toNat, .int .u8 f.toNat] 23)).alloc (.map #[] 0)).setCell ⟨p, 0, none⟩ (.map (some (w.heap.size + 1)))) = W at F1 F2 F3 F4 F5 ⊢
  have hc := lies_cell F1.out 0
  replace hc : W.cell? ⟨p, 0, none⟩ = some (.map (some (w.heap.size + 1))) := hc
  obtain ⟨i0, i1, i2, i3, i4, i5⟩ := six F2.out
  have hlook : ∀ q, (Instr.lookup 61 (.map (some (w.heap.size + 1))) (.agg #[.int .u8 a.toNat, .int .u8 b'.toNat, .int .u8 c.toNat, .int .u8 d.toNat, .int .u8 e.toNat, .int .u8 f.toNat]) true).run Try.prog (W.drewN q) = .ok (.tuple #[.int .i64 R, .bool S]) (W.drewN q) := fun q => by
    rw [HR.out, HS.out]; exact look_made (ownsMap_drew F3.out q) Hr.out ⟨a, b', c, d, e, f⟩
  have hlook0 := hlook 0
  go_upto_region 5 with (fail)
  go_quiet (fail)
  clear hlook hlook0 hc i0 i1 i2 i3 i4 i5
  have F1' : Hid ((W.drewN nq).heap[p]? = some (.cells #[.map (some (w.heap.size + 1))] 63)) := F1
  have F2' : Hid ((W.drewN nq).heap[w.heap.size]? = some (.cells #[.int .u8 a.toNat, .int .u8 b'.toNat, .int .u8 c.toNat, .int .u8 d.toNat, .int .u8 e.toNat, .int .u8 f.toNat] 23)) := F2
  have F3' : Hid ((W.drewN nq).ownsMap Try.prog 23 IE (w.heap.size + 1) 0 (.map [])) := F3
  have F4' : Hid (Below base w (W.drewN nq)) := below_drewN F4.out nq
  have F5' : Hid (Kind63 w (W.drewN nq)) := F5
  clear F1 F2 F3 F4 F5
  generalize W.drewN nq = V at F1' F2' F3' F4' F5' ⊢
  have hc := lies_cell F1'.out 0
  replace hc : V.cell? ⟨p, 0, none⟩ = some (.map (some (w.heap.size + 1))) := hc
  obtain ⟨i0, i1, i2, i3, i4, i5⟩ := six F2'.out
  go_upto_region 6 with (fail)
  go_still_tail 6, (by kernel_rfl)
  refine wpList_mapUpdate_in _ rfl _ _ _ 61 rfl 23 3 law23 Try.underlying61 IE (w.heap.size + 1) 0 (.map []) rfl F3'.out hN _ _ _ rfl rfl Hkey.out (nd x) [] (plainElem_int Try.underlying3 hx) ?_
  intro w1 hown1 hturn1
  have HO := Lib.hid hown1; clear hown1
  have HT := Lib.hid hturn1; clear hturn1
  clear hc i0 i1 i2 i3 i4 i5
  go_frame
  go_wp2
  go_returns
  have L1 : w1.heap[p]? = some (.cells #[.map (some (w.heap.size + 1))] 63) := turned_other HT.out F1'.out
  have HB1 : Below base w V.drew := F4'.out.drew
  refine ⟨rfl, ⟨hbp, .inr ⟨w.heap.size + 1, _, L1, hbB, HO.out.mono hNn, rep_put Hr.out hD _ x⟩⟩, HB1.trans (turned_below HT.out hbB), ?_⟩
  have HK : Kind63 w V.drew := F5'.out
  exact HK.trans (kind_turned HT.out)

/-- Put in a book. -/
theorem put_any {base : Nat} {w : World} {p n : Nat} {g : M6 → Option Int} (h : BookAt base w p n g) (hn : n < maxLen) (m : M6) (x : Int) (hx : (Lit.int .i64 x).wf = true) :
    Calls Try.prog 32 #[.pointer (some ⟨p, 0, none⟩), M6.val m, .int .i64 x] w fun r w' => r = .returned (.tuple #[.int .i64 ((g m).getD 0), .bool (g m).isSome]) ∧ BookAt base w' p (n + 1) (upd g m (some x)) ∧ Below base w w' ∧ Kind63 w w' := by
  rcases h.2 with ⟨hp, hg⟩ | ⟨b, D, hp, hb, hown, hr⟩
  · exact put_first base w p n g h.1 hp hg m x hx
  · exact put_made base w p b n D g h.1 hb hp hown hr hn m x hx
end Go.Proofs.Ytechdnkkchhaaaa
