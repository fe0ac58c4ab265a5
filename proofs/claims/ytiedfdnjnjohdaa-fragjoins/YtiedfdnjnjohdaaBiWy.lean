/- Contract of the program's Writer: Bytes. -/
import Derived.Test.YtiedfdnjnjohdaaBiWb
import Derived.Test.YtiedfdnjnjohdaaBiShelf
import Derived.Deep.AppendLies
import Derived.Deep.DeepFit
namespace Go.Proofs.Ytiedfdnjnjohdaa.Bi
open Go.RowKit Go.Proofs.PitotMath

theorem size_setCells (b : Nat) : ∀ (vs : List Value) (o : Nat) (w : World), (w.setCells b o vs).heap.size = w.heap.size
  | [], _, _ => rfl
  | v :: r, o, w => by rw [World.setCells, size_setCells b r]; simp

theorem below_cells {B b : Nat} {a : World} (hb : B ≤ b) : ∀ (vs : List Value) (o : Nat) {w : World}, Below B a w → Below B a (w.setCells b o vs)
  | [], _, _, h => h
  | v :: r, o, _, h => by rw [World.setCells]; exact below_cells hb r (o + 1) (h.setCell (p := ⟨b, o, none⟩) hb v)

theorem rev_any (g cap : Nat) (xs : List ByteArray) (w : World) (hl : xs.length ≤ 1000000) (hc : ∀ i (h : i < xs.length), w.cell? ⟨g, i, none⟩ = some (.string xs[i])) (hf : ∀ j, w.frozen? ⟨g, j, none⟩ = false) (hg : g < w.heap.size) :
    Calls Try.prog 46 #[.slice (some ⟨g, 0, none⟩) xs.length cap] w fun e w' => e = .returned (.tuple #[]) ∧
      (∀ j x, xs.reverse[j]? = some x → w'.cell? ⟨g, 0 + j, none⟩ = some (.string x)) ∧ (∀ B, B ≤ g → Below B w w') ∧ g < w'.heap.size := by
  refine (Try.slices_Reverse_string_cells g 0 xs.length cap (fun i => xs.getD i ByteArray.empty) w (by omega) (fun i hi => by simp [hc i hi, hi]) (fun j _ => by simpa using hf j)).mono fun e w' ⟨he, q, hw⟩ => ?_
  subst hw
  refine ⟨he, ?_, ?_, ?_⟩
  · intro j x hx
    have hj : j < xs.length := by have := (List.getElem?_eq_some_iff.1 hx).1; simpa using this
    have := World.cell?_setCells_in g (List.map encStr (Lib.strsOf (fun i => xs.getD i ByteArray.empty) xs.length).reverse) 0 (w.drewN q) (fun i hi => by
      have hi' : i < xs.length := by simpa [Lib.strsOf] using hi
      have h1 : (w.drewN q).cell? ⟨g, 0 + i, none⟩ = w.cell? ⟨g, 0 + i, none⟩ := rfl
      rw [h1, Nat.zero_add, hc i hi']; rfl) j (by simpa [Lib.strsOf] using hj)
    rw [this]
    have hx' : xs.reverse[j]'(by simpa using hj) = x := (List.getElem?_eq_some_iff.1 hx).2
    rw [← hx']
    have hd : xs.length - 1 - j < xs.length := by omega
    simp [Lib.strsOf, encStr, List.getElem_reverse, hd]
  · intro B hB
    exact below_cells hB _ _ (below_drewN (Below.refl _ _) q)
  · rw [size_setCells]; exact hg

theorem Try.info9 : (Try.prog.info? 9).map (fun i => (i.zero, i.size, i.bytes)) = some (some (.string ⟨#[]⟩), 1, 16) := by kernel_rfl

theorem join_nil (xs : List (List UInt8)) : Lib.join xs [] = xs.flatten := by
  unfold Lib.join
  induction xs with
  | nil => rfl
  | cons x t ih =>
    cases t with
    | nil => simp [List.intercalate]
    | cons y r => simp [List.intercalate] at ih ⊢; rw [ih]

theorem flat_join (last : ByteArray) (ts : List ByteArray) : Lib.join (((last :: ts).reverse).map (fun x => x.data.toList)) [] = flat ts ++ last.data.toList := by
  rw [join_nil]
  have h : ∀ ts : List ByteArray, ((ts.reverse).map (fun x => x.data.toList)).flatten = flat ts := by
    intro ts
    induction ts with
    | nil => rfl
    | cons t r ih => simp only [List.reverse_cons, List.map_append, List.flatten_append, ih]; simp [flat]
  simp only [List.reverse_cons, List.map_append, List.flatten_append, h]
  simp

theorem add_plain (g j : Nat) : (⟨g, 0, none⟩ : Addr).add j = ⟨g, j, none⟩ := by unfold Addr.add; split <;> simp_all

theorem own_cells {w : World} {base g n cap : Nat} {xs : List ByteArray} (h : w.ownsRow base 9 1 (.slice (some ⟨g, 0, none⟩) n cap) n (xs.map .string)) (i : Nat) (hi : i < xs.length) : w.cell? ⟨g, i, none⟩ = some (.string xs[i]) := by
  have := h.cells (g := g) rfl i (.string xs[i]) (by simp [hi])
  rwa [add_plain] at this

/-- Reverse, of a row of texts of the call's own. -/
theorem rev_own {w : World} {base g n cap : Nat} {xs : List ByteArray} (h : w.ownsRow base 9 1 (.slice (some ⟨g, 0, none⟩) n cap) n (xs.map .string)) (hn : n = xs.length) (hl : n ≤ 1000000) (hg : g < w.heap.size) :
    Calls Try.prog 46 #[.slice (some ⟨g, 0, none⟩) n cap] w fun e w' => e = .returned (.tuple #[]) ∧
      Hid (∀ j x, xs.reverse[j]? = some x → w'.cell? ⟨g, 0 + j, none⟩ = some (.string x)) ∧ Hid (∀ B, B ≤ g → Below B w w') ∧ g < w'.heap.size := by
  subst hn
  exact rev_any g cap xs w hl (own_cells h) (fun j => h.frozenAt j) hg

/-- Join with nothing between. -/
theorem join_plain {w : World} {g n cap : Nat} {xs : List ByteArray} {l : List UInt8} (hc : ∀ j x, xs[j]? = some x → w.cell? ⟨g, 0 + j, none⟩ = some (.string x)) (hn : n = xs.length) (hl : n ≤ 1000000) (hcap : n ≤ cap) (hg : g < w.heap.size)
    (hj : Lib.join (xs.map (fun x => x.data.toList)) [] = l) (hll : l.length ≤ 1000000) :
    Calls Try.prog 47 #[.slice (some ⟨g, 0, none⟩) n cap, .string ⟨#[]⟩] w fun e w' => e = .returned (.string ⟨l.toArray⟩) ∧ Below w.heap.size w w' := by
  subst hn
  have h := Try.strings_Join g 0 cap xs ⟨#[]⟩ w hc hg (by omega) hcap (by show (Lib.join _ []).length ≤ _; rw [hj]; omega)
  have e : Lib.join (xs.map (fun x => x.data.toList)) (⟨#[]⟩ : ByteArray).data.toList = l := hj
  rw [e] at h
  exact h

theorem own_cap {w : World} {base e size g n cap : Nat} {xs : List Value} (h : w.ownsRow base e size (.slice (some ⟨g, 0, none⟩) n cap) n xs) : n ≤ cap := by
  rcases h.2 with ⟨h', _⟩ | ⟨g', cap', cur, h', _, _, hc, _⟩
  · cases h'
  · cases h'; exact hc

/-- How many elements a slice has. -/
def sliceLen : Value → Nat
  | .slice _ n _ => n
  | _ => 0

set_option maxHeartbeats 1000000 in
theorem bytes_any (b n : Nat) (l : List UInt8) (w : World) (h : WrAt w b n (some l)) (hn : n ≤ 100000) (hl : l.length ≤ 1000000) :
    Calls Try.prog 40 #[.pointer (some ⟨b, 0, none⟩)] w fun e w' => e = .returned (.tuple #[.string ⟨l.toArray⟩, .int .i64 0]) ∧ Below w.heap.size w w' := by
  obtain ⟨p, last, ts, hb, hch, htn, hfl⟩ := h
  have c0 : w.cell? ⟨b, 0, none⟩ = some (.pointer p) := lies_cell hb 0
  have c1 : w.cell? ⟨b, 1, none⟩ = some (.string last) := lies_cell hb 1
  have c2 : w.cell? ⟨b, 2, none⟩ = some (.bool false) := lies_cell hb 2
  have hlt := lies_lt hb
  have H := Lib.hid hb; clear hb
  have HF := Lib.hid hfl; clear hfl
  obtain ⟨i0, hi0, hz0, hz1, hz2⟩ := info_parts Try.info9
  go_enter Try.func40, Try.ntmps40
  go_wp2
  go_loopw [4, 5] (fun v4 v5 wr => ∃ (done rest : List ByteArray) (q : Option Addr) (A : Option Addr) (c : Nat), Hid (ts = done ++ rest) ∧ v5 = .pointer q ∧ Chain w b q rest ∧ v4 = .slice A (done.length + 1) c ∧ wr.ownsRow w.heap.size 9 1 v4 (done.length + 1) ((last :: done).map .string) ∧ Below w.heap.size w wr) (fun v4 _ _ => ts.length + 1 - sliceLen v4)
  case atStart =>
    refine ⟨[], ts, p, some ⟨w.heap.size, 0, none⟩, 1, rfl, rfl, hch, rfl, ⟨rfl, .inr ⟨w.heap.size, 1, #[.string last], rfl, Nat.le_refl _, heap_alloc_new w _, by simp, by simp [maxLen], rfl, rfl⟩⟩, (Below.refl _ _).alloc (Nat.le_refl _) _⟩
  case round =>
    obtain ⟨done, rest, q, A, c, hts, rfl, hq, rfl, hown, hbw⟩ := hrel
    have hlen : done.length + rest.length ≤ n := by have := hts.out; rw [this] at htn; simpa using htn
    have htl : ts.length = done.length + rest.length := by rw [hts.out]; simp
    have HTL := Lib.hid htl; clear htl
    obtain ⟨g, cap, hv, hgb, hgl⟩ := hown.form (by omega)
    injection hv with hA _ hc
    subst hA
    subst hc
    cases rest with
    | nil =>
      have hq0 : q = none := hq
      subst hq0
      have htd : ts = done := by have := hts.out; simpa using this
      have hj : Hid (Lib.join (((last :: done).reverse).map (fun x => x.data.toList)) [] = l) := by show _ = _; rw [HF.out, htd]; exact flat_join last done
      have hcp := own_cap hown
      simp only [List.length_nil, Nat.add_zero] at hlen
      clear htd HTL hts H HF htn hq
      go_wp2_with (first
        | (go_at_call 46; refine (rev_own hown (by simp) (by omega) hgl).mono ?_; rintro e w1 ⟨rfl, hc1, hb1, hg1⟩)
        | (go_at_call 47; refine (join_plain (w := w1) hc1.out (by simp) (by omega) hcp hg1 hj.out hl).mono ?_; rintro e w2 ⟨rfl, hb2⟩))
      go_returns
      exact ⟨rfl, (hbw.trans (hb1.out _ hgb)).trans (hb2.mono (by have := hbw.size; have := (hb1.out 0 (by omega)).size; omega))⟩
    | cons t rest =>
      obtain ⟨c, q', rfl, hcb, hcc, hq'⟩ := hq
      have hcl := lies_lt hcc
      have k0 : wr.cell? ⟨c, 0, none⟩ = some (.string t) := by rw [hbw.cell hcl]; exact lies_cell hcc 0
      have k1 : ∀ w1, Below w.heap.size w w1 → w1.cell? ⟨c, 1, none⟩ = some (.pointer q') := fun w1 hw1 => by rw [hw1.cell hcl]; exact lies_cell hcc 1
      have K1 := Lib.hid k1; clear k1
      have HCC := Lib.hid hcc; clear hcc
      simp only [List.length_cons] at hlen
      go_wp2_with (at_builtin
                   go_must (refine wpList_append_own _ rfl (.tmp 27) (.tmp 32) _ rfl w.heap.size 9 i0 _ 1 16 Try.underlying93 hi0 hz0 hz1 hz2 rfl (by omega) _ (done.length + 1) _ rfl (hown.alloc _) ⟨wr.heap.size, 0, none⟩ 1 1 [.string t] rfl rfl (cell_one_new _ _ _) (by intro u hu; simp at hu; subst hu; rfl) (by simp only [maxLen]; omega) (by omega) (by have := hbw.size; simp; omega) ?_)
                   intro v' w1 hown1 hg1 _
                   go_must (have hb1 : Below w.heap.size w w1 := (hbw.alloc hbw.size _).grown hg1 (by have := hbw.size; simp; omega) (by intro k hk; cases hk; exact hgb))
                   have k1 := K1.out w1 hb1)
      obtain ⟨g1, cap1, hv1, hgb1, hgl1⟩ := hown1.form (by omega)
      subst hv1
      go_roundw
      case rel =>
        refine ⟨done ++ [t], rest, q', some ⟨g1, 0, none⟩, cap1, by show _ = _; rw [hts.out]; simp, rfl, hq', by simp, ?_, hb1⟩
        simpa using hown1
      case measure => simp only [sliceLen]; rw [HTL.out]; simp; omega
end Go.Proofs.Ytiedfdnjnjohdaa.Bi
