/- Bytes in memory that a table owns: they are made of a string, a string is put behind them, they are read as a string. -/
import Derived.Test.YtgdjcoodjdckkaaDl
import Derived.Test.YtgdjcoodjdckkaaReMath
import Derived.Lib.AppendStr
import Derived.Laws.IdiomStrings
set_option maxRecDepth 100000
namespace Go.Proofs.Ytgdjcoodjdckkaa
open Go.RowKit Go.Proofs.PitotIp Go.Maps
open Go.Proofs.Ytgdjcoodjdckkaa.Bi (lies_lt lies_cell lies_frozen lies_alloc lies_set)

abbrev bv (b : UInt8) : Value := .int .u8 b.toNat
/-- Bytes that lie in a block of their own; none of its cells is frozen. -/
def BytesAt (base : Nat) (w : World) (v : Value) (l : List UInt8) : Prop :=
  ∃ g cap cur fz, v = .slice (some ⟨g, 0, none⟩) l.length cap ∧ base ≤ g ∧ w.heap[g]? = some (.cells cur 5 fz) ∧ (fz.2 = 0 ∨ cur.size ≤ fz.1) ∧ l.length ≤ cap ∧ cap ≤ maxLen ∧ cur.size = cap ∧ cur.toList.take l.length = l.map bv
theorem BytesAt.kept {base : Nat} {w w' : World} {v : Value} {l : List UInt8} (h : BytesAt base w v l) {r : Option Nat} (hg : w.grownBy w' r) (hr : v.ownBlock ≠ r) : BytesAt base w' v l := by
  obtain ⟨g, cap, cur, fz, rfl, h1, h2, h3⟩ := h
  exact ⟨g, cap, cur, fz, rfl, h1, (hg.block g (Array.getElem?_eq_some_iff.1 h2).1 (by simpa [Value.ownBlock] using hr)).trans h2, h3⟩
theorem BytesAt.block {base : Nat} {w : World} {v : Value} {l : List UInt8} (h : BytesAt base w v l) : ∃ g cur fz, v.ownBlock = some g ∧ base ≤ g ∧ w.heap[g]? = some (.cells cur 5 fz) := by
  obtain ⟨g, cap, cur, fz, rfl, h1, h2, h3⟩ := h
  exact ⟨g, cur, fz, rfl, h1, h2⟩
theorem BytesAt.of_block {base : Nat} {w w' : World} {v : Value} {l : List UInt8} (h : BytesAt base w v l) (hb : ∀ g cur fz, v.ownBlock = some g → w.heap[g]? = some (.cells cur 5 fz) → w'.heap[g]? = some (.cells cur 5 fz)) : BytesAt base w' v l := by
  obtain ⟨g, cap, cur, fz, rfl, h1, h2, h3⟩ := h
  exact ⟨g, cap, cur, fz, rfl, h1, hb g cur fz rfl h2, h3⟩
theorem BytesAt.form {base : Nat} {w : World} {v : Value} {l : List UInt8} (h : BytesAt base w v l) : ∃ g cap, v = .slice (some ⟨g, 0, none⟩) l.length cap ∧ base ≤ g ∧ l.length ≤ cap ∧ g < w.heap.size := by
  obtain ⟨g, cap, cur, fz, rfl, h1, h2, h3, h4, _⟩ := h
  exact ⟨g, cap, rfl, h1, h4, (Array.getElem?_eq_some_iff.1 h2).1⟩

/-- []byte(s). -/
theorem bytes_made (base : Nat) (w : World) (s : ByteArray) (hb : base ≤ w.heap.size) (hs : s.size ≤ maxLen) :
    ∃ v w', (convert 9 71 (.string s)).run Try.prog w = .ok v w' ∧ BytesAt base w' v s.data.toList ∧ v.ownBlock = some w.heap.size ∧ Below w.heap.size w w' := by
  refine ⟨_, _, run_bytes_of_string (P := Try.prog) w 9 71 5 s Try.underlying9 Try.underlying71 Try.underlying5, ?_, rfl, (Below.refl _ w).drew.alloc (Nat.le_refl _) _⟩
  have hge := grownCap_ge w s.size 0 5
  have hl : s.data.toList.length = s.size := by rw [Array.length_toList]; rfl
  have hsz : (bytesRow s (grownCap w s.size 0 5)).size = grownCap w s.size 0 5 := by
    have : s.data.size = s.size := rfl
    simp only [bytesRow, Array.size_append, Array.size_map, Array.size_replicate]
    omega
  refine ⟨w.heap.size, grownCap w s.size 0 5, bytesRow s (grownCap w s.size 0 5), _, by rw [hl], hb, heap_alloc_new w.drew _, .inr (Nat.le_refl _), by rw [hl]; exact hge, grownCap_le_maxLen w _ 0 5 hs, hsz, ?_⟩
  simp only [bytesRow, Array.toList_append, Array.toList_map]
  rw [List.take_left' (by simp)]

theorem setRow_grown (w : World) (g : Nat) (cs : Array Value) : w.grownBy (w.setRow g cs) (some g) :=
  ⟨rfl, rfl, rfl, by simp [World.setRow], fun k _ hk => setRow_other w g k _ (fun e => hk (by rw [e]))⟩
theorem heap_setCellsF : ∀ (vs : List Value) (o : Nat) (w : World) (b : Nat) (cur : Array Value) (t : TypeId) (fz : Nat × Nat), w.heap[b]? = some (.cells cur t fz) → (w.setCells b o vs).heap[b]? = some (.cells (Lib.lay cur o vs) t fz)
  | [], _, _, _, _, _, _, h => h
  | v :: r, o, w, b, cur, t, fz, h => by
    rw [World.setCells]
    refine heap_setCellsF r (o + 1) _ b _ t fz ?_
    rw [setCell_eq_setRow w b o cur t fz v h]
    exact setRow_heap w b cur _ t fz h

/-- append(b, s...). -/
theorem bytes_more {base : Nat} {w : World} {v : Value} {l : List UInt8} (h : BytesAt base w v l) (s : ByteArray) (ty : TypeId) (hb : base ≤ w.heap.size) (hs : l.length + s.size ≤ 1000000) :
    ∃ v' w', (Builtin.append_ #[71, 9] ty #[v, .string s]).run Try.prog w = .ok v' w' ∧ BytesAt base w' v' (l ++ s.data.toList) ∧ BytesAt base w' v l ∧ w.grownBy w' v.ownBlock ∧ (v'.ownBlock = v.ownBlock ∨ v'.ownBlock = some w.heap.size) := by
  obtain ⟨i, hi, hz0, hz1, hz2⟩ := info_parts (show (Try.prog.info? 5).map (fun i => (i.zero, i.size, i.bytes)) = some (some (.int .u8 0), 1, 1) by kernel_rfl)
  obtain ⟨g, cap, cur, fz, rfl, h1, h2, h3, h4, h5, h6, h7⟩ := h
  have hsl : s.data.toList.length = s.size := by rw [Array.length_toList]; rfl
  have hf := Lib.run_firstCells_string (P := Try.prog) w 1 s
  by_cases hroom : l.length + s.size ≤ cap
  · have hfr : ∀ j, w.frozen? ⟨g, l.length + j, none⟩ = false ∨ ¬ j < s.size := fun j => by
      by_cases hj : j < s.size
      · left
        obtain ⟨lo, hi'⟩ := fz
        simp only [World.frozen?, h2, Bool.and_eq_false_iff, decide_eq_false_iff_not]
        rcases h3 with h3 | h3
        · right; simp only at h3; omega
        · left; simp only at h3; omega
      · exact .inr hj
    have hst := run_storeCells_cells (P := Try.prog) g l.length (Lib.strCells s) 0 w (fun j hj => by
        rw [Lib.strCells_length] at hj
        simp only [World.cell?, h2, Nat.add_zero]
        rw [Array.getElem?_eq_getElem (by omega)]
        rfl) (fun j hj => by
        rw [Lib.strCells_length] at hj
        rcases hfr j with h | h
        · simpa using h
        · exact absurd hj h) (Lib.strCells_oneCell s)
    simp only [Nat.add_zero] at hst
    refine ⟨.slice (some ⟨g, 0, none⟩) (l.length + s.size) cap, w.setCells g l.length (Lib.strCells s), ?_, ?_, ?_, grown_cells g _ _ _, .inl rfl⟩
    · simp [Builtin.append_, run_underlying Try.underlying71, run_underlying Try.underlying9, sizeOf, typeInfo, hi, hz1, Builtin.lenOf, hroom, hf, Addr.add_lit, hst]
    · refine ⟨g, cap, _, fz, by rw [List.length_append, hsl], h1, heap_setCellsF _ _ _ _ _ _ _ h2, by rw [Lib.lay_size]; exact h3, by rw [List.length_append, hsl]; exact hroom, h5, by rw [Lib.lay_size]; exact h6, ?_⟩
      apply List.ext_getElem?
      intro j
      rw [List.length_append, hsl]
      by_cases hj : j < l.length + s.size
      · rw [List.getElem?_take_of_lt hj, Array.getElem?_toList, Lib.lay_get? _ _ _ _ (by rw [Lib.strCells_length]; omega), Lib.strCells_length]
        by_cases hj2 : l.length ≤ j
        · rw [if_pos ⟨hj2, hj⟩, List.map_append, List.getElem?_append_right (by simpa using hj2)]
          simp [Lib.strCells]
        · rw [if_neg (by omega), List.map_append, List.getElem?_append_left (by simpa using hj2), ← h7, List.getElem?_take_of_lt (by omega), Array.getElem?_toList]
      · rw [List.getElem?_eq_none (by simp; omega), List.getElem?_eq_none (by simp only [List.length_map, List.length_append, hsl]; omega)]
    · refine ⟨g, cap, _, fz, rfl, h1, heap_setCellsF _ _ _ _ _ _ _ h2, by rw [Lib.lay_size]; exact h3, h4, h5, by rw [Lib.lay_size]; exact h6, ?_⟩
      rw [← h7]
      apply List.ext_getElem?
      intro j
      by_cases hj : j < l.length
      · rw [List.getElem?_take_of_lt hj, List.getElem?_take_of_lt hj, Array.getElem?_toList, Array.getElem?_toList, Lib.lay_get? _ _ _ _ (by rw [Lib.strCells_length]; omega), if_neg (by omega)]
      · rw [List.getElem?_eq_none (by simp; omega), List.getElem?_eq_none (by simp; omega)]
  · have holds : ∀ j u, (l.map bv)[j]? = some u → w.cell? ((⟨g, 0, none⟩ : Addr).add j) = some u := fun j u hu => by
      rw [Bi.add_plain]
      simp only [World.cell?, h2]
      have hj : j < l.length := by have := (List.getElem?_eq_some_iff.1 hu).1; simpa using this
      rw [← h7, List.getElem?_take_of_lt hj, Array.getElem?_toList] at hu
      exact hu
    have hr := Lib.run_append_grow_string (P := Try.prog) w 71 9 ty 5 i (.int .u8 0) Try.underlying71 Try.underlying9 hi hz0 ⟨g, 0, none⟩ l.length cap (l.map bv) (by rw [hz1]; simp) holds s (by omega) (by omega) (by rw [hz2]; exact growslice_fits (by omega) (by omega))
    have hge := grownCap_ge w (l.length + s.size) cap 5
    refine ⟨_, _, hr, ⟨w.heap.size, _, _, (0, 0), by rw [List.length_append, hsl], hb, heap_alloc_new w.drew _, .inl rfl, by rw [List.length_append, hsl]; exact hge, grownCap_le_maxLen w _ _ 5 (by unfold maxLen; omega), ?_, ?_⟩, ?_, ⟨rfl, rfl, rfl, by simp, fun k hk _ => heap_alloc_old w.drew _ k hk⟩, .inr rfl⟩
    · have hz1 : (Value.int IntKind.u8 0).cells.size = 1 := rfl
      simp only [Array.size_append, List.size_toArray, size_zeroCells, hz1, List.length_map, Lib.strCells_length]
      omega
    · simp only [Array.toList_append, List.append_assoc, List.map_append]
      rw [← List.append_assoc, List.take_left' (by simp [Lib.strCells_length, hsl])]
      rfl
    · have hg : g < w.heap.size := (Array.getElem?_eq_some_iff.1 h2).1
      exact ⟨g, cap, cur, fz, rfl, h1, (heap_alloc_old w.drew _ g hg).trans h2, h3, h4, h5, h6, h7⟩

/-- string(b). -/
theorem bytes_back {base : Nat} {w : World} {v : Value} {l : List UInt8} (h : BytesAt base w v l) : (convert 71 9 v).run Try.prog w = .ok (.string ⟨l.toArray⟩) w := by
  obtain ⟨g, cap, cur, fz, rfl, h1, h2, h3, h4, h5, h6, h7⟩ := h
  refine run_convert_bytes_back (P := Try.prog) w 71 9 5 ⟨g, 0, none⟩ cap l Try.underlying71 Try.underlying5 Try.underlying9 (fun j hj => ?_)
  rw [Bi.add_plain]
  simp only [World.cell?, h2]
  rw [← Array.getElem?_toList, ← List.getElem?_take_of_lt hj, h7]
  simp [hj]
end Go.Proofs.Ytgdjcoodjdckkaa
