/- Contract of slices.SortFunc at a list of addresses of the call's own. -/
import Derived.Test.YtechdnkkchhaaaaCw
import Derived.OwnWalk
set_option maxRecDepth 100000
namespace Go.Proofs.Ytechdnkkchhaaaa
open Go.RowKit Go.Proofs.PitotAddr Go.Shelf Go.Lib Go.Sort

/-- An address's six cells. -/
def encM (m : M6) : List Value := [.int .u8 m.a.toNat, .int .u8 m.b.toNat, .int .u8 m.c.toNat, .int .u8 m.d.toNat, .int .u8 m.e.toNat, .int .u8 m.f.toNat]
def flat (ss : List M6) : List Value := ss.flatMap encM
theorem encM_length (m : M6) : (encM m).length = 6 := rfl
theorem flat_length : ∀ ss : List M6, (flat ss).length = ss.length * 6
  | [] => rfl
  | x :: r => by
    show (encM x ++ flat r).length = _
    rw [List.length_append, encM_length, flat_length r]; simp; omega
theorem flat_snoc (ss : List M6) (m : M6) : flat (ss ++ [m]) = flat ss ++ encM m := by simp [flat]
theorem flat_get : ∀ (ss : List M6) (t : Nat), t < ss.length * 6 → (flat ss)[t]? = some (encM (ss[t / 6]!))[t % 6]!
  | [], t, h => by simp at h
  | x :: r, t, h => by
    show (encM x ++ flat r)[t]? = _
    by_cases ht : t < 6
    · rw [List.getElem?_append_left (by rw [encM_length]; exact ht), Nat.div_eq_of_lt ht, Nat.mod_eq_of_lt ht]
      rw [List.getElem?_eq_getElem (by rw [encM_length]; exact ht)]
      simp only [List.getElem!_eq_getElem?_getD, List.getElem?_cons_zero, Option.getD_some]
      rw [List.getElem?_eq_getElem (by rw [encM_length]; exact ht)]
      rfl
    · obtain ⟨u, rfl⟩ : ∃ u, t = u + 6 := ⟨t - 6, by omega⟩
      rw [List.getElem?_append_right (by rw [encM_length]; omega), encM_length, Nat.add_sub_cancel, flat_get r u (by simp at h; omega)]
      rw [Nat.add_div_right u (by omega), Nat.add_mod_right]
      simp

/-- A list of addresses as it lies in memory. -/
def MacsAt (w : World) (A : Option Addr) (ls : List M6) : Prop :=
  ls ≠ [] → ∃ g, A = some ⟨g, 0, none⟩ ∧ g < w.heap.size ∧ ∀ i, i < ls.length → ∀ c, c < 6 → w.cell? ⟨g, i * 6 + c, none⟩ = some (encM ls[i]!)[c]!

theorem holds_of_row {w : World} {base g n cap : Nat} {ss : List M6} (h : w.ownsRow base 23 6 (.slice (some ⟨g, 0, none⟩) n cap) n (flat ss)) (hn : n = ss.length) : HoldsK encM 6 w g 0 ss.toArray := by
  intro j hj
  rw [size_flatK] at hj
  have hj' : j < ss.length * 6 := by simpa using hj
  refine ⟨?_, ?_⟩
  · rw [Nat.zero_add, h.cellAt j (by rw [hn]; exact hj'), flat_get ss j hj', get_flatK _ _ _ _ (by simpa using hj')]
    simp
  · rw [Nat.zero_add]; exact h.frozenAt j

theorem isAgg23 (w : World) : (isAgg 23).run Try.prog w = .ok true w := Try.isAgg23 w
theorem sizeOf23 (w : World) : (Go.sizeOf 23).run Try.prog w = .ok 6 w := Try.sizeOf23 w

/-- Blocks but the row's are as they were. -/
theorem sortWorld_below (w : World) (g n : Nat) (d : Array M6) (os : Array Obj) (B : Nat) (hB : B ≤ g) (hw : B ≤ w.heap.size) : RowKit.Below B w (sortWorldK encM 6 w g 0 n d os) := by
  refine ⟨rfl, rfl, rfl, ?_, fun k hk => ?_⟩
  · simp [sortWorldK, grow, putRowK, putRow, mapBlock]
  · have hlt : k < w.heap.size := by omega
    have hne : g ≠ k := by omega
    simp [sortWorldK, grow, putRowK, putRow, mapBlock, Array.getElem?_append, hlt]
    rw [Array.getElem_modify, if_neg hne]

set_option maxHeartbeats 1000000 in
theorem sort_any (w : World) (base : Nat) (v : Value) (ss : List M6) (hown : w.ownsRow base 23 6 v ss.length (flat ss)) (hb : base ≤ w.heap.size) (hl : ss.length ≤ 1000000) (hnd : ss.Nodup) :
    Calls Try.prog 48 #[v, .func (.func 49) #[] #[]] w fun r w' => r = .returned (.tuple #[]) ∧ ∃ A cap ls, v = .slice A (List.length ls) cap ∧ MacsAt w' A ls ∧ ls.Pairwise (fun x y => x.bytes < y.bytes) ∧ (∀ m, m ∈ ls ↔ m ∈ ss) ∧ RowKit.Below base w w' ∧ ls.length = ss.length := by
  rcases hown.2 with ⟨rfl, h0⟩ | ⟨g, cap, cur, rfl, hbg, hcur, _, _, _, _⟩
  · have hs : ss = [] := List.length_eq_zero_iff.1 h0
    subst hs
    refine (AnyF.slices_SortFunc_none { Try.sortMac with } none 0 (.func (.func 49) #[] #[]) w).mono fun r w' ⟨h1, h2⟩ => ⟨h1, none, 0, [], rfl, fun h => absurd rfl h, List.Pairwise.nil, fun m => Iff.rfl, h2 ▸ RowKit.Below.refl _ _, rfl⟩
  · have hH := holds_of_row hown rfl
    have hgl : g < w.heap.size := by
      rcases Nat.lt_or_ge g w.heap.size with h | h
      · exact h
      · rw [Array.getElem?_eq_none h] at hcur; cases hcur
    have eg : ∀ args w, (callFunc 49 args).run Try.prog w = .ok (.enter 49 args) w := enters_of Try.func49 (by kernel_rfl) rfl
    have hcmp : CmpLays Try.prog 49 #[] encM 6 cmpM g 0 ss.toArray.size w := fun _ _ _ _ x y => closure_any x y _
    have hcon := AnyQ.slices_SortFunc_total Try.sortMac 6 isAgg23 sizeOf23 encM (fun _ => rfl) (fun x v hv => by simp [encM] at hv; rcases hv with rfl | rfl | rfl | rfl | rfl | rfl <;> rfl) cmpM swoM 49 #[] g 0 cap ss.toArray w eg hcmp hH hgl (by simp; omega) totM
    have hcon : Calls Try.prog 48 #[.slice (some ⟨g, 0, none⟩) ss.length cap, .func (.func 49) #[] #[]] w _ := hcon
    refine hcon.mono fun r w' ⟨h1, n, os, h2⟩ => ⟨h1, ?_⟩
    obtain ⟨ls, Hls⟩ : ∃ ls, ls = ss.mergeSort fun x y => !(ltOf cmpM) y x := ⟨_, rfl⟩
    have hperm : ls.Perm ss := by rw [Hls]; exact List.mergeSort_perm _ _
    have hlen : ls.length = ss.length := hperm.length_eq
    rw [show (List.mergeSort ss.toArray.toList fun x y => !(ltOf cmpM) y x) = ls from Hls.symm] at h2
    refine ⟨some ⟨g, 0, none⟩, cap, ls, by rw [hlen], ?_, ?_, fun m => hperm.mem_iff, ?_, hlen⟩
    · intro _
      refine ⟨g, rfl, ?_, fun i hi c hc => ?_⟩
      · rw [h2]
        have := (sortWorld_below w g n ls.toArray os 0 (Nat.zero_le _) (Nat.zero_le _)).size
        omega
      · have hK : HoldsK encM 6 w' g 0 ls.toArray := by
          rw [h2]
          have h3 := holdsK_putRowK encM 6 (Sort.ahead w n) g 0 ss.toArray ls.toArray (holdsK_ahead encM 6 w n g 0 ss.toArray hH) (by simp [hlen])
          exact holdsK_grow encM 6 _ os g 0 _ (by simp [putRowK]; exact hgl) h3
        have := (hK.cell (i := i) (c := c) (by simpa using hi) hc).1
        rw [Nat.zero_add] at this
        simpa using this
    · have hs : ls.Pairwise (fun x y => (!(ltOf cmpM) y x) = true) := by
        rw [Hls]
        refine List.pairwise_mergeSort (fun a b c h1 h2 => ?_) (fun a b => ?_) ss
        · simp only [ltM, Bool.not_eq_true', decide_eq_false_iff_not] at *
          exact List.not_lt.2 (List.le_trans (List.not_lt.1 h1) (List.not_lt.1 h2))
        · simp only [ltM, Bool.or_eq_true, Bool.not_eq_true', decide_eq_false_iff_not]
          rcases List.le_total a.bytes b.bytes with h | h
          · exact .inl (List.not_lt.2 h)
          · exact .inr (List.not_lt.2 h)
      have hnd' : ls.Nodup := hperm.nodup_iff.2 hnd
      refine (hs.and hnd').imp fun {x y} ⟨h1, h2⟩ => ?_
      simp only [ltM, Bool.not_eq_true', decide_eq_false_iff_not] at h1
      by_cases h : x.bytes < y.bytes
      · exact h
      · exact absurd (M6.bytes_inj (List.le_antisymm (List.not_lt.1 h1) (List.not_lt.1 h))) h2
    · rw [h2]; exact sortWorld_below w g n ls.toArray os base hbg hb
end Go.Proofs.Ytechdnkkchhaaaa
