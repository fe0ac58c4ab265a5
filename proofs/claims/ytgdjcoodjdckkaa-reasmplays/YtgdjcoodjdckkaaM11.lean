/- The document's table: drop. -/
import Derived.Test.YtgdjcoodjdckkaaM10
import Derived.Deep.RegionHeld3
set_option linter.unusedVariables false
set_option maxRecDepth 100000
namespace Go.Proofs.Ytgdjcoodjdckkaa
open Go.RowKit Go.Proofs.PitotIp Go.Maps
open Go.Proofs.PitotReasm (Bg Tb Fine bad first next passed passE put keep)
open Go.Proofs.Ytgdjcoodjdckkaa.Bi (lies_lt lies_cell lies_frozen lies_alloc lies_set)

theorem row_on {w w1 : World} {o cap : Nat} {ks : List Rb} (h : RowB w o cap ks) {r : Option Nat} (hb : w.grownBy w1 r) (hr : r ≠ some o) : RowB w1 o cap ks := by
  obtain ⟨cur, h1, h2⟩ := h
  exact ⟨cur, (hb.block o (lies_lt h1) (fun e => hr e.symm)).trans h1, h2⟩
theorem drop_end {base : Nat} {w w1 w2 : World} {rp o n cap i m : Nat} {most wait now : Int} {dr : Nat} {v1 v2 : Value} {l1 l2 : List Rb} (hrp : base ≤ rp) (hb : base ≤ w.heap.size) (_hl : w.heap[rp]? = some (refC (.slice (some ⟨o, 0, none⟩) n cap) most wait now dr))
    (h1 : w1.ownsRow base 55 10 v1 i ([] ++ flatB l1)) (g1 : w.grownBy w1 (Value.slice none 0 0).ownBlock) (h2 : w2.ownsRow base 55 10 v2 (i + m) ([] ++ flatB l1 ++ flatB l2)) (g2 : w1.grownBy w2 v1.ownBlock) (hl2 : w2.heap[rp]? = some (refC (.slice (some ⟨o, 0, none⟩) n cap) most wait now dr)) (hi : i = l1.length) (hm : m = l2.length) :
    RefAt base (w2.setCell ⟨rp, 0, none⟩ v2) rp most wait (l1 ++ l2) now dr ∧ Fq base w (w2.setCell ⟨rp, 0, none⟩ v2) := by
  have e : (l1 ++ l2).length = i + m := by rw [List.length_append, hi, hm]
  have ef : flatB (l1 ++ l2) = [] ++ flatB l1 ++ flatB l2 := by rw [flatB_append, List.nil_append]
  have hs1 := g1.size
  have hs2 := g2.size
  refine ⟨⟨v2, hrp, lies_set hl2 0 _, ?_⟩, ?_⟩
  · rw [e, ef]
    refine h2.kept (Bi.grown_set rp 0 _) ?_
    have := own_ne h2 hl2 (by decide)
    right; exact fun x => this x.symm
  · have F1 : Fq base w w1 := Fq.of ⟨g1.os, g1.tape, g1.output, g1.size, fun k hk => g1.block k hk (by simp [Value.ownBlock])⟩ hb
    exact F1.trans ((Fq.grown_own g2 h1 (by omega)).trans (Fq.grown (Bi.grown_set rp 0 _) hrp (by omega) hl2 (.inl rfl)))
set_option maxHeartbeats 4000000 in
theorem drop_row {base : Nat} (w : World) (rp o cap n i m : Nat) (most wait now : Int) (dr : Nat) (l1 l2 : List Rb) (b : Rb) (hn : n = l1.length + 1 + l2.length) (hi : i = l1.length) (hm : m = l2.length) (hle : n ≤ 64) (hrp : base ≤ rp) (hb : base ≤ w.heap.size) (ht : w.heap[rp]? = some (refC (.slice (some ⟨o, 0, none⟩) n cap) most wait now dr)) (hr : RowB w o cap (l1 ++ b :: l2)) :
    Calls Try.prog 27 #[.pointer (some ⟨rp, 0, none⟩), .int .i64 i] w fun e w' => e = .returned (.tuple #[]) ∧ RefAt base w' rp most wait (l1 ++ l2) now dr ∧ Fq base w w' := by
  have hcap : n ≤ cap ∧ cap ≤ 9223372036854775807 := by
    obtain ⟨cur, _, _, h3, h4, _⟩ := hr
    simp only [List.length_append, List.length_cons] at h3
    unfold maxLen at h4
    omega
  have HR := Lib.hid hr
  have HL := Lib.hid ht
  have HN0 : Hid (w.ownsRow base 55 10 (.slice none 0 0) 0 []) := ⟨rfl, .inl ⟨rfl, rfl⟩⟩
  have HP1 : Hid (∀ j u, (flatB l1)[j]? = some u → w.cell? ((⟨o, 0, none⟩ : Addr).add j) = some u) := by
    have := RowB.part (l1 := []) (l2 := l1) (l3 := b :: l2) hr
    rw [List.length_nil, Nat.zero_mul] at this
    exact this
  have HP2 : Hid (∀ w1, RowB w1 o cap (l1 ++ b :: l2) → ∀ j u, (flatB l2)[j]? = some u → w1.cell? ((⟨o, (i + 1) * 10, none⟩ : Addr).add j) = some u) := fun w1 h => by
    have := RowB.part (l1 := l1 ++ [b]) (l2 := l2) (l3 := []) (w := w1) (o := o) (cap := cap) (by simpa using h)
    rw [List.length_append, ← hi] at this
    exact this
  have hmn : n - (i + 1) = m := by omega
  have hin : i < n := by omega
  have hi1 : i + 1 ≤ n := by omega
  have hc0 : w.cell? ⟨rp, 0, none⟩ = some (.slice (some ⟨o, 0, none⟩) n cap) := lies_cell ht 0
  have Hi := Lib.hid hi; have Hm := Lib.hid hm; have Hn := Lib.hid hn; have HRP := Lib.hid hrp; have Hb := Lib.hid hb; have HB0 := Lib.hid hb
  have hm64 : m ≤ 64 := by omega
  have hic : i ≤ cap := by omega
  have hic1 : i + 1 ≤ cap := by omega
  clear ht hr hn hi hm hrp hb
  by_cases hce : i + 1 = cap
  · have hm0 : m = 0 := by omega
    have hz : l2 = [] := List.length_eq_zero_iff.1 (by rw [← Hm.out]; exact hm0)
    subst hz
    have HP2 : Hid (∀ w1, RowB w1 o cap (l1 ++ [b]) → ∀ j u, (flatB [])[j]? = some u → w1.cell? ((⟨o, 0, none⟩ : Addr).add j) = some u) := fun w1 _ j u h => by simp [flatB] at h
    have hce2 : cap - (i + 1) = 0 := by omega
    have hw1 : wrap64 ((i : Int) + 1) = ((i + 1 : Nat) : Int) := by rw [wrap64]; omega
    go_enter Try.func27, Try.ntmps27
    go_wp2_with (first
      | (at_builtin; refine wpList_app (base := base) rfl _ _ rfl _ 0 [] (by rfl) HN0.out ⟨o, 0, none⟩ i cap (flatB l1) (by rfl) (by rw [flatB_length, Hi.out]) HP1.out (flatB_one l1) (by omega) Hb.out ?_; intro v1 w1 hv1 hg1 hf1
         (obtain ⟨A1, cp1, rfl⟩ := hf1)
         (rw [Nat.zero_add] at hv1; have V1 := Lib.hid hv1; have G1 := Lib.hid hg1; clear hv1 hg1)
         (have R1 : Hid (RowB w1 o cap (l1 ++ [b])) := row_on HR.out G1.out (by simp [Value.ownBlock]))
         (have L1 : Hid (w1.heap[rp]? = some (refC (.slice (some ⟨o, 0, none⟩) n cap) most wait now dr)) := (G1.out.block rp (lies_lt HL.out) (by simp [Value.ownBlock])).trans HL.out)
         (have hc0 : w1.cell? ⟨rp, 0, none⟩ = some (.slice (some ⟨o, 0, none⟩) n cap) := lies_cell L1.out 0))
      | (at_builtin; refine wpList_app (base := base) rfl _ _ rfl _ i ([] ++ flatB l1) (by rfl) V1.out ⟨o, 0, none⟩ 0 _ (flatB []) (by rfl) (by rfl) (HP2.out w1 R1.out) (flatB_one []) (by omega) (by have := G1.out.size; have := Hb.out; omega) ?_; intro v2 w2 hv2 hg2 hf2
         (obtain ⟨A2, cp2, rfl⟩ := hf2)
         (have V2 := Lib.hid hv2; have G2 := Lib.hid hg2; clear hv2 hg2)
         (have L2 : Hid (w2.heap[rp]? = some (refC (.slice (some ⟨o, 0, none⟩) n cap) most wait now dr)) := (G2.out.block rp (lies_lt L1.out) (own_ne V1.out L1.out (by decide))).trans L1.out)
         (have hc2 : w2.cell? ⟨rp, 0, none⟩ = some (.slice (some ⟨o, 0, none⟩) n cap) := lies_cell L2.out 0)
         (have hf2 := lies_frozen L2.out 0)))
    go_returns
    exact ⟨rfl, drop_end HRP.out HB0.out HL.out V1.out G1.out V2.out G2.out L2.out Hi.out rfl⟩
  · have hce2 : ¬ cap - (i + 1) = 0 := by omega
    have hce3 : ¬ cap ≤ i + 1 := by omega
    have hce4 : ¬ (i : Int) + 1 = cap := by omega
    have hce5 : ¬ (cap : Int) = (i : Int) + 1 := by omega
    have hw1 : wrap64 ((i : Int) + 1) = ((i + 1 : Nat) : Int) := by rw [wrap64]; omega
    go_enter Try.func27, Try.ntmps27
    go_wp2_with (first
      | (at_builtin; refine wpList_app (base := base) rfl _ _ rfl _ 0 [] (by rfl) HN0.out ⟨o, 0, none⟩ i cap (flatB l1) (by rfl) (by rw [flatB_length, Hi.out]) HP1.out (flatB_one l1) (by omega) Hb.out ?_; intro v1 w1 hv1 hg1 hf1
         (obtain ⟨A1, cp1, rfl⟩ := hf1)
         (rw [Nat.zero_add] at hv1; have V1 := Lib.hid hv1; have G1 := Lib.hid hg1; clear hv1 hg1)
         (have R1 : Hid (RowB w1 o cap (l1 ++ b :: l2)) := row_on HR.out G1.out (by simp [Value.ownBlock]))
         (have L1 : Hid (w1.heap[rp]? = some (refC (.slice (some ⟨o, 0, none⟩) n cap) most wait now dr)) := (G1.out.block rp (lies_lt HL.out) (by simp [Value.ownBlock])).trans HL.out)
         (have hc0 : w1.cell? ⟨rp, 0, none⟩ = some (.slice (some ⟨o, 0, none⟩) n cap) := lies_cell L1.out 0))
      | (at_builtin; refine wpList_app (base := base) rfl _ _ rfl _ i ([] ++ flatB l1) (by rfl) V1.out ⟨o, (i + 1) * 10, none⟩ m _ (flatB l2) (by rfl) (by rw [flatB_length, Hm.out]) (HP2.out w1 R1.out) (flatB_one l2) (by omega) (by have := G1.out.size; have := Hb.out; omega) ?_; intro v2 w2 hv2 hg2 hf2
         (obtain ⟨A2, cp2, rfl⟩ := hf2)
         (have V2 := Lib.hid hv2; have G2 := Lib.hid hg2; clear hv2 hg2)
         (have L2 : Hid (w2.heap[rp]? = some (refC (.slice (some ⟨o, 0, none⟩) n cap) most wait now dr)) := (G2.out.block rp (lies_lt L1.out) (own_ne V1.out L1.out (by decide))).trans L1.out)
         (have hc2 : w2.cell? ⟨rp, 0, none⟩ = some (.slice (some ⟨o, 0, none⟩) n cap) := lies_cell L2.out 0)
         (have hf2 := lies_frozen L2.out 0)))
    go_returns
    exact ⟨rfl, drop_end HRP.out HB0.out HL.out V1.out G1.out V2.out G2.out L2.out Hi.out Hm.out⟩
theorem drop_any {base : Nat} {w : World} {rp : Nat} {most wait : Int} {l1 l2 : List Rb} {b : Rb} {now : Int} {dr : Nat} (h : RefAt base w rp most wait (l1 ++ b :: l2) now dr) (hle : (l1 ++ b :: l2).length ≤ 64) :
    Calls Try.prog 27 #[.pointer (some ⟨rp, 0, none⟩), .int .i64 l1.length] w fun e w' => e = .returned (.tuple #[]) ∧ RefAt base w' rp most wait (l1 ++ l2) now dr ∧ Fq base w w' := by
  obtain ⟨lv, h⟩ := h
  rcases h.row.2 with ⟨e, h0⟩ | ⟨g, cap, cur, e, _, hg, k1, k2, k3, k4⟩
  · simp at h0
  · have ht := h.tab
    rw [e] at ht
    exact drop_row w rp g cap (l1 ++ b :: l2).length l1.length l2.length most wait now dr l1 l2 b (by simp; omega) rfl rfl hle h.hp h.lt.2 ht ⟨cur, hg, k3, k1, k2, k4⟩
end Go.Proofs.Ytgdjcoodjdckkaa
