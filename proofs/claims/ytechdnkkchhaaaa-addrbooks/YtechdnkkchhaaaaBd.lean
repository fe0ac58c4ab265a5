/- Contract of Drop of a book. -/
import Derived.Test.YtechdnkkchhaaaaBp
set_option maxRecDepth 100000
namespace Go.Proofs.Ytechdnkkchhaaaa
open Go.RowKit Go.Proofs.PitotAddr Go.Maps

theorem BookAt.kept {base : Nat} {w w' : World} {p n : Nat} {g : M6 → Option Int} (h : BookAt base w p n g) (hb : Below w.heap.size w w') : BookAt base w' p n g := by
  refine ⟨h.1, ?_⟩
  rcases h.2 with ⟨hp, hg⟩ | ⟨b, D, hp, hbb, hown, hr⟩
  · exact .inl ⟨lies_below hp hb (lies_lt hp), hg⟩
  · refine .inr ⟨b, D, lies_below hp hb (lies_lt hp), hbb, ?_, hr⟩
    obtain ⟨es, cl, h1, h2⟩ := hown
    exact ⟨es, cl, (hb.block b (Array.getElem?_eq_some_iff.1 h1).1).trans h1, h2⟩
theorem upd_none {g : M6 → Option Int} {m : M6} (h : g m = none) : upd g m none = g := by
  funext k
  unfold upd
  split
  · rename_i e; rw [e, h]
  · rfl
theorem BookAt.lt {base : Nat} {w : World} {p n : Nat} {g : M6 → Option Int} (h : BookAt base w p n g) : p < w.heap.size := by
  rcases h.2 with ⟨hp, _⟩ | ⟨_, _, hp, _⟩ <;> exact lies_lt hp
theorem below_base {base : Nat} {w w' : World} (h : Below w.heap.size w w') (hb : base ≤ w.heap.size) : Below base w w' := h.mono hb

set_option maxHeartbeats 2000000 in
/-- Drop where the address is not in the book. -/
theorem drop_miss {base : Nat} {w : World} {p n : Nat} {g : M6 → Option Int} (h : BookAt base w p n g) (m : M6) (hg : g m = none) :
    Calls Try.prog 36 #[.pointer (some ⟨p, 0, none⟩), M6.val m] w fun r w' => r = .returned (.bool false) ∧ Below w.heap.size w w' := by
  have hget := fun o => get_any (h.kept (below_new (Below.refl _ w) o)) m
  rw [hg] at hget
  obtain ⟨a, b', c, d, e, f⟩ := m
  have HG := Lib.hid hget; clear hget
  have H := Lib.hid h; clear h
  have Hg := Lib.hid hg; clear hg
  go_enter Try.func36, Try.ntmps36
  go_wp2_with (first
    | (go_at_call 34; (with_reducible refine (HG.out _).mono ?_); rintro r w1 ⟨rfl, hb1⟩))
  go_returns
  exact ⟨rfl, (below_new (Below.refl _ w) _).trans (hb1.mono (by simp))⟩

set_option maxHeartbeats 2000000 in
theorem drop_hit (base : Nat) (w : World) (p b n : Nat) (D : DataW Unit) (g : M6 → Option Int) (hbp : base ≤ p) (hbb : base ≤ b) (hp : w.heap[p]? = some (.cells #[.map (some b)] 63)) (hown : w.ownsMap Try.prog 23 IE b n D) (hr : Rep D g) (m : M6) (hg : (g m).isSome = true) :
    Calls Try.prog 36 #[.pointer (some ⟨p, 0, none⟩), M6.val m] w fun r w' => r = .returned (.bool true) ∧ BookAt base w' p n (upd g m none) ∧ Below base w w' ∧ Kind63 w w' := by
  have hbase : base ≤ w.heap.size := by have := hown.lt; omega
  have h : BookAt base w p n g := ⟨hbp, .inr ⟨b, D, hp, hbb, hown, hr⟩⟩
  have hget := fun o => get_any (h.kept (below_new (Below.refl _ w) o)) m
  rw [hg] at hget
  have hkey := key_mac m
  obtain ⟨a, b', c, d, e, f⟩ := m
  have HG := Lib.hid hget; clear hget h
  have Hg := Lib.hid hg; clear hg
  have Hown := Lib.hid hown; clear hown
  have Hp := Lib.hid hp; clear hp
  have Hr := Lib.hid hr; clear hr
  have Hkey := Lib.hid hkey; clear hkey
  obtain ⟨R, HR⟩ : ∃ R, Hid (R = (g ⟨a, b', c, d, e, f⟩).getD 0) := ⟨_, rfl⟩
  rw [← HR.out] at HG
  go_enter Try.func36, Try.ntmps36
  go_upto_region 3 with (first
    | (go_at_call 34; (with_reducible refine (HG.out _).mono ?_); rintro r w1 ⟨rfl, hb1⟩
       (have F1 := Lib.hid (lies_below (lies_alloc Hp.out _) hb1 (lies_lt (lies_alloc Hp.out _))))
       (have F2 := Lib.hid (lies_below (heap_alloc_new w _) hb1 (by simp)))
       (have F3 := Lib.hid ((ownsMap_alloc Hown.out _).kept (World.grownBy.mk hb1.os hb1.tape hb1.output hb1.size (fun i hi _ => hb1.block i hi)) (row := none) (by simp)))
       (have F4 := Lib.hid ((below_new (Below.refl _ w) _).trans (hb1.mono (by simp)))); clear hb1))
  have hc := lies_cell F1.out 0
  replace hc : w1.cell? ⟨p, 0, none⟩ = some (.map (some b)) := hc
  obtain ⟨i0, i1, i2, i3, i4, i5⟩ := six F2.out
  go_still_tail 5, (by kernel_rfl)
  refine wpList_delete_own _ rfl _ _ 61 23 rfl 3 law23 Try.underlying61 IE b n D rfl F3.out _ _ rfl Hkey.out ?_
  intro w2 hown1 hturn1
  have HO := Lib.hid hown1; clear hown1
  have HT := Lib.hid hturn1; clear hturn1
  clear hc i0 i1 i2 i3 i4 i5
  go_frame
  go_wp2
  go_returns
  have L1 : w2.heap[p]? = some (.cells #[.map (some b)] 63) := turned_other HT.out F1.out
  have HB1 : Below base w w1.drew := (below_base F4.out hbase).drew
  refine ⟨rfl, ⟨hbp, .inr ⟨b, _, L1, hbb, HO.out, rep_del Hr.out _⟩⟩, HB1.trans (turned_below HT.out hbb), ?_⟩
  have HK : Kind63 w w1.drew := kind_below F4.out.drew
  exact HK.trans (kind_turned HT.out)

/-- Drop of a book. -/
theorem drop_any {base : Nat} {w : World} {p n : Nat} {g : M6 → Option Int} (h : BookAt base w p n g) (m : M6) :
    Calls Try.prog 36 #[.pointer (some ⟨p, 0, none⟩), M6.val m] w fun r w' => r = .returned (.bool (g m).isSome) ∧ BookAt base w' p n (upd g m none) ∧ Below base w w' ∧ Kind63 w w' := by
  have hbase : base ≤ w.heap.size := by have := h.1; have := h.lt; omega
  cases hg : g m with
  | none =>
    refine (drop_miss h m hg).mono fun r w' ⟨hr, hb⟩ => ⟨hr, ?_, below_base hb hbase, kind_below hb⟩
    rw [upd_none hg]
    exact h.kept hb
  | some x =>
    rcases h.2 with ⟨_, hn⟩ | ⟨b, D, hp, hb, hown, hr⟩
    · rw [hn m] at hg; cases hg
    · exact drop_hit base w p b n D g h.1 hb hp hown hr m (by rw [hg]; rfl)
end Go.Proofs.Ytechdnkkchhaaaa
