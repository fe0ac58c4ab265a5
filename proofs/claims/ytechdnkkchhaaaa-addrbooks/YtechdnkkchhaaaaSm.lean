/- Both books hold the same. -/
import Derived.Test.YtechdnkkchhaaaaRp
set_option maxRecDepth 100000
namespace Go.Proofs.Ytechdnkkchhaaaa
open Go.RowKit Go.Proofs.PitotAddr Go.Maps

def Same (g : M6 → Option Int) (rs : List (M6 × Int)) : Prop := rs.Pairwise (fun x y => x.1.bytes < y.1.bytes) ∧ ∀ m, g m = rget rs m

theorem same_start : Same (fun _ => none) [] := ⟨List.Pairwise.nil, fun _ => rfl⟩

theorem rget_cons (r : M6 × Int) (t : List (M6 × Int)) (x : M6) : rget (r :: t) x = if r.1 = x then some r.2 else rget t x := by
  unfold rget
  rw [List.find?_cons]
  by_cases h : r.1 = x <;> simp [h]
theorem rget_drop (m : M6) : ∀ (rs : List (M6 × Int)) (x : M6), rget (rdrop rs m) x = if x = m then none else rget rs x
  | [], x => by simp [rdrop, rget]
  | r :: t, x => by
    have ih := rget_drop m t x
    by_cases h : r.1 = m
    · have e : rdrop (r :: t) m = rdrop t m := by simp [rdrop, h]
      rw [e, ih, rget_cons]
      by_cases hx : x = m
      · simp [hx]
      · rw [if_neg hx, if_neg hx, if_neg (fun e => hx (e.symm.trans h))]
    · have e : rdrop (r :: t) m = r :: rdrop t m := by simp [rdrop, h]
      rw [e, rget_cons, ih, rget_cons]
      by_cases hx : x = m
      · subst hx; simp [h]
      · simp [hx]
theorem rget_ins (m : M6) (n : Int) : ∀ (qs : List (M6 × Int)) (x : M6), (∀ r ∈ qs, r.1 ≠ m) → rget (rins m n qs) x = if x = m then some n else rget qs x
  | [], x, _ => by
    unfold rins
    rw [rget_cons]
    by_cases hx : x = m
    · simp [hx]
    · rw [if_neg (fun e => hx e.symm), if_neg hx]
  | r :: t, x, h => by
    unfold rins
    have hr : r.1 ≠ m := h r (by simp)
    split
    · rw [rget_cons]
      by_cases hx : x = m
      · simp [hx]
      · rw [if_neg (fun e => hx e.symm), if_neg hx]
    · rw [rget_cons, rget_ins m n t x (fun q hq => h q (by simp [hq])), rget_cons]
      by_cases hx : x = m
      · subst hx; simp [hr]
      · simp [hx]
theorem ins_mem (m : M6) (n : Int) : ∀ (qs : List (M6 × Int)) (q : M6 × Int), q ∈ rins m n qs → q = (m, n) ∨ q ∈ qs
  | [], q, h => by simpa [rins] using h
  | r :: t, q, h => by
    unfold rins at h
    split at h
    · simpa using h
    · rcases List.mem_cons.1 h with h | h
      · exact .inr (by simp [h])
      · rcases ins_mem m n t q h with h | h
        · exact .inl h
        · exact .inr (by simp [h])
theorem ins_sorted (m : M6) (n : Int) : ∀ (qs : List (M6 × Int)), qs.Pairwise (fun x y => x.1.bytes < y.1.bytes) → (∀ r ∈ qs, r.1 ≠ m) → (rins m n qs).Pairwise (fun x y => x.1.bytes < y.1.bytes)
  | [], _, _ => by simp [rins]
  | r :: t, h, hm => by
    obtain ⟨h1, h2⟩ := List.pairwise_cons.1 h
    unfold rins
    split
    · rename_i hlt
      refine List.pairwise_cons.2 ⟨fun q hq => ?_, h⟩
      rcases List.mem_cons.1 hq with rfl | hq
      · exact hlt
      · exact List.lt_trans hlt (h1 q hq)
    · rename_i hlt
      refine List.pairwise_cons.2 ⟨fun q hq => ?_, ins_sorted m n t h2 (fun q hq => hm q (by simp [hq]))⟩
      rcases ins_mem m n t q hq with rfl | hq
      · by_cases hx : r.1.bytes < m.bytes
        · exact hx
        · exact absurd (M6.bytes_inj (List.le_antisymm (List.not_lt.1 hlt) (List.not_lt.1 hx))) (hm r (by simp))
      · exact h1 q hq
theorem ins_len (m : M6) (n : Int) : ∀ qs : List (M6 × Int), (rins m n qs).length = qs.length + 1
  | [] => rfl
  | r :: t => by
    unfold rins
    split
    · rfl
    · simp [ins_len m n t]
theorem drop_len (rs : List (M6 × Int)) (m : M6) : (rdrop rs m).length ≤ rs.length := List.length_filter_le _ _

theorem same_drop {g : M6 → Option Int} {rs : List (M6 × Int)} (h : Same g rs) (m : M6) : Same (upd g m none) (rdrop rs m) := by
  refine ⟨h.1.filter _, fun x => ?_⟩
  rw [rget_drop]
  unfold upd
  rw [h.2 x]
theorem same_put {g : M6 → Option Int} {rs : List (M6 × Int)} (h : Same g rs) (m : M6) (n : Int) : Same (upd g m (some n)) (rins m n (rdrop rs m)) := by
  have hm : ∀ r ∈ rdrop rs m, r.1 ≠ m := fun r hr => by simpa using (List.mem_filter.1 hr).2
  refine ⟨ins_sorted m n _ (h.1.filter _) hm, fun x => ?_⟩
  rw [rget_ins m n _ x hm, rget_drop]
  unfold upd
  rw [h.2 x]
  by_cases hx : x = m <;> simp [hx]
theorem rget_mem (rs : List (M6 × Int)) (m : M6) : (rget rs m).isSome = true ↔ m ∈ rs.map (·.1) := by
  unfold rget
  simp [List.find?_isSome]

theorem all_same {g : M6 → Option Int} {rs : List (M6 × Int)} {ls : List M6} (h : Same g rs) (hs : ls.Pairwise (fun x y => x.bytes < y.bytes)) (hm : ∀ m, m ∈ ls ↔ (g m).isSome = true) : ls = rs.map (·.1) := by
  have hs2 : (rs.map (·.1)).Pairwise (fun x y => x.bytes < y.bytes) := List.pairwise_map.2 h.1
  have hnd : ∀ {l : List M6}, l.Pairwise (fun x y => x.bytes < y.bytes) → l.Nodup := fun h => h.imp fun {x y} h e => by subst e; exact List.lt_irrefl _ h
  have hp : ls.Perm (rs.map (·.1)) := (List.perm_ext_iff_of_nodup (hnd hs) (hnd hs2)).2 fun m => by rw [hm m, h.2 m, rget_mem]
  exact List.Perm.eq_of_pairwise (le := fun x y => x.bytes < y.bytes) (fun a b _ _ h1 h2 => absurd (List.lt_trans h1 h2) (List.lt_irrefl _)) hs hs2 hp

theorem RefAt.kind {base : Nat} {w w' : World} {p : Nat} {rs : List (M6 × Int)} (h : RefAt base w p rs) (hk : Kind63 w w') : RefAt base w' p rs := by
  obtain ⟨hb, v, hp, hown⟩ := h
  refine ⟨hb, v, hk p _ 67 (0, 0) (by decide) hp, hown.1, ?_⟩
  rcases hown.2 with h | ⟨g, cap, cur, h1, h2, h3, h4⟩
  · exact .inl h
  · exact .inr ⟨g, cap, cur, h1, h2, hk g _ 79 (0, 0) (by decide) h3, h4⟩
theorem BookAt.grown {base : Nat} {w w' : World} {p n r : Nat} {g : M6 → Option Int} {rs : List (M6 × Int)} (h : BookAt base w p n g) (hr : RefAt base w r rs) (hg : w.grownBy w' (some r)) : BookAt base w' p n g := by
  obtain ⟨_, v, hv, _⟩ := hr
  refine ⟨h.1, ?_⟩
  rcases h.2 with ⟨hp, hn⟩ | ⟨b, D, hp, hb, hown, hrep⟩
  · have : p ≠ r := fun e => by subst e; rw [hp] at hv; injection hv with hv; injection hv with _ h2; simp at h2
    exact .inl ⟨(hg.block p (lies_lt hp) (fun e => this (Option.some.inj e))).trans hp, hn⟩
  · have : p ≠ r := fun e => by subst e; rw [hp] at hv; injection hv with hv; injection hv with _ h2; simp at h2
    have hbr : b ≠ r := fun e => by obtain ⟨es, cl, hm, _⟩ := hown; subst e; rw [hm] at hv; cases hv
    exact .inr ⟨b, D, (hg.block p (lies_lt hp) (fun e => this (Option.some.inj e))).trans hp, hb, hown.kept hg (fun e => hbr (Option.some.inj e)), hrep⟩
theorem grown_below {base r : Nat} {w w' : World} (hg : w.grownBy w' (some r)) (hr : base ≤ r) (hb : base ≤ w.heap.size) : Below base w w' :=
  (Below.refl base w).grown hg hb (fun k hk => by cases hk; exact hr)
theorem lies_grown {w w' : World} {g r : Nat} {cs cs' : Array Value} {t : TypeId} (h : w.heap[g]? = some (.cells cs t)) (hr : w.heap[r]? = some (.cells cs' 67)) (ht : t ≠ 67) (hg : w.grownBy w' (some r)) : w'.heap[g]? = some (.cells cs t) := by
  have : g ≠ r := fun e => by subst e; rw [h] at hr; injection hr with hr; injection hr with _ h2; exact ht h2
  exact (hg.block g (lies_lt h) (fun e => this (Option.some.inj e))).trans h
end Go.Proofs.Ytechdnkkchhaaaa
