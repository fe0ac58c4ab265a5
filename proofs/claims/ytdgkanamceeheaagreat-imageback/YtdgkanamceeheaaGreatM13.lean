/- What is read lies in memory: lists that a call makes. -/
import Derived.Test.YtdgkanamceeheaaGreatM12
import Derived.Test.YtdgkanamceeheaaGreatM6
set_option linter.unusedVariables false
set_option maxRecDepth 100000
set_option linter.unusedVariables false
namespace Go.Proofs.YtdgkanamceeheaaGreat.Im
open Go.RowKit
open PitotImg (St rd)
/-- Numbers that lie in a block between two bounds. -/
def IntsIn (lo hi : Nat) (w : World) (A : Option Addr) (xs : List Int) : Prop :=
  xs ≠ [] → ∃ b, A = some ⟨b, 0, none⟩ ∧ lo ≤ b ∧ b < hi ∧ b < w.heap.size ∧ ∀ i (h : i < xs.length), w.cell? ⟨b, i, none⟩ = some (.int .i64 xs[i])
theorem IntsIn.at {lo hi : Nat} {w : World} {A : Option Addr} {xs : List Int} (h : IntsIn lo hi w A xs) : IntsAt w A xs := fun hne => by
  obtain ⟨b, h1, _, _, h4, h5⟩ := h hne
  exact ⟨b, 0, h1, h4, fun i hi => by rw [Nat.zero_add]; exact h5 i hi⟩
theorem cell_of_block {w w' : World} {b i : Nat} (h : w'.heap[b]? = w.heap[b]?) : w'.cell? ⟨b, i, none⟩ = w.cell? ⟨b, i, none⟩ := by simp [World.cell?, h]
theorem IntsIn.fr {lo hi a c base : Nat} {w w' : World} {A : Option Addr} {xs : List Int} (h : IntsIn lo hi w A xs) (hf : Fr base a c w w') (hb : hi ≤ base) (ha : a < lo) (hc : c < lo) : IntsIn lo hi w' A xs := fun hne => by
  obtain ⟨b, h1, h2, h3, h4, h5⟩ := h hne
  exact ⟨b, h1, h2, h3, Nat.lt_of_lt_of_le h4 hf.size, fun i hi => (cell_of_block (hf.block b (by omega) (by omega) (by omega) h4)).trans (h5 i hi)⟩
theorem IntsIn.mono {lo lo' hi hi' : Nat} {w : World} {A : Option Addr} {xs : List Int} (h : IntsIn lo hi w A xs) (h1 : lo' ≤ lo) (h2 : hi ≤ hi') : IntsIn lo' hi' w A xs := fun hne => by
  obtain ⟨b, g1, g2, g3, g4, g5⟩ := h hne
  exact ⟨b, g1, by omega, by omega, g4, g5⟩
def enI (l : List Int) : List Value := l.map (fun n => Value.int .i64 n)
theorem add0 (g j : Nat) : (⟨g, 0, none⟩ : Addr).add j = ⟨g, j, none⟩ := by unfold Addr.add; split <;> simp_all
/-- The row's value, by its length. -/
theorem row_form {w : World} {base e sz n : Nat} {v : Value} {xs : List Value} (h : w.ownsRow base e sz v n xs) : (n = 0 ∧ v = .slice none 0 0) ∨ ∃ g cap, v = .slice (some ⟨g, 0, none⟩) n cap ∧ base ≤ g ∧ g < w.heap.size ∧ ∀ j u, xs[j]? = some u → w.cell? ⟨g, j, none⟩ = some u := by
  have hc := h
  rcases h.2 with ⟨h1, h2⟩ | ⟨g, cap, cur, h1, h2, h3, h4, h5, h6, h7⟩
  · exact .inl ⟨h2, h1⟩
  · subst h1
    exact .inr ⟨g, cap, rfl, h2, lies_lt h3, fun j u hu => by have := hc.cells (g := g) rfl j u hu; rwa [add0] at this⟩
theorem ints_row {w : World} {base n : Nat} {v : Value} {xs : List Int} (h : w.ownsRow base 3 1 v n (enI xs)) (hn : n = xs.length) : ∃ A cap, v = .slice A xs.length cap ∧ IntsIn base w.heap.size w A xs := by
  subst hn
  rcases row_form h with ⟨h1, h2⟩ | ⟨g, cap, h1, h2, h3, h4⟩
  · obtain rfl := List.length_eq_zero_iff.1 h1
    exact ⟨none, 0, h2, fun hne => absurd rfl hne⟩
  · exact ⟨_, cap, h1, fun _ => ⟨g, rfl, h2, h3, h3, fun i hi => h4 i _ (by simp [enI, hi])⟩⟩
theorem flat_get {α β : Type} (E : α → List β) (c : Nat) (hE : ∀ x, (E x).length = c) : ∀ (xs : List α) (i : Nat) (hi : i < xs.length) (j : Nat), j < c → (xs.flatMap E)[i * c + j]? = (E xs[i])[j]?
  | x :: xs, 0, hi, j, hj => by
    rw [List.flatMap_cons, Nat.zero_mul, Nat.zero_add, List.getElem?_append_left (by rw [hE]; exact hj)]; rfl
  | x :: xs, i + 1, hi, j, hj => by
    rw [List.flatMap_cons, List.getElem?_append_right (by rw [hE, Nat.add_mul]; omega), hE, show (i + 1) * c + j - c = i * c + j by rw [Nat.add_mul]; omega]
    exact flat_get E c hE xs i (by simpa using hi) j hj
def WnsIn (lo hi : Nat) (w : World) (A : Option Addr) (xs : List Wn) : Prop :=
  (xs ≠ [] → ∃ b, A = some ⟨b, 0, none⟩ ∧ lo ≤ b ∧ b < hi ∧ b < w.heap.size ∧ ∀ i (h : i < xs.length), WnAt w b (i * 3) xs[i])
theorem WnsIn.at {lo hi : Nat} {w : World} {A : Option Addr} {xs : List Wn} (h : WnsIn lo hi w A xs) : WnsAt w A xs := fun hne => by
  obtain ⟨b, h1, _, _, h4, h5⟩ := h hne
  exact ⟨b, 0, h1, h4, fun i hi => by rw [Nat.zero_add]; exact h5 i hi⟩
theorem WnsIn.fr {lo hi a c base : Nat} {w w' : World} {A : Option Addr} {xs : List Wn} (h : WnsIn lo hi w A xs) (hf : Fr base a c w w') (hb : hi ≤ base) (ha : a < lo) (hc : c < lo) : WnsIn lo hi w' A xs := fun hne => by
  obtain ⟨b, h1, h2, h3, h4, h5⟩ := h hne
  exact ⟨b, h1, h2, h3, Nat.lt_of_lt_of_le h4 hf.size, fun i hi => (h5 i hi).of_cells fun k => cell_of_block (hf.block b (by omega) (by omega) (by omega) h4)⟩
theorem WnsIn.mono {lo lo' hi hi' : Nat} {w : World} {A : Option Addr} {xs : List Wn} (h : WnsIn lo hi w A xs) (h1 : lo' ≤ lo) (h2 : hi ≤ hi') : WnsIn lo' hi' w A xs := fun hne => by
  obtain ⟨b, g1, g2, g3, g4, g5⟩ := h hne
  exact ⟨b, g1, by omega, by omega, g4, g5⟩
theorem Wns_cells {w : World} {g : Nat} {xs : List Wn} (h : ∀ j u, (xs.flatMap Wn.enc)[j]? = some u → w.cell? ⟨g, j, none⟩ = some u) (i : Nat) (hi : i < xs.length) : WnAt w g (i * 3) xs[i] := by
  have hg := fun j hj => flat_get Wn.enc 3 Wn.enc_length xs i hi j hj
  generalize xs[i] = x at hg ⊢
  exact ⟨h _ _ (hg 0 (by decide)), h _ _ (hg 1 (by decide)), h _ _ (hg 2 (by decide))⟩
theorem Wn.enc_one (x : Wn) : ∀ u ∈ x.enc, u.oneCell' = true := by intro u hu; simp [Wn.enc] at hu; rcases hu with rfl | rfl | rfl <;> rfl
def VxsIn (lo hi : Nat) (w : World) (A : Option Addr) (xs : List Vx) : Prop :=
  (xs ≠ [] → ∃ b, A = some ⟨b, 0, none⟩ ∧ lo ≤ b ∧ b < hi ∧ b < w.heap.size ∧ ∀ i (h : i < xs.length), VxAt w b (i * 8) xs[i]) ∧ ∀ x ∈ xs, IntsIn lo hi w x.toA x.to
theorem VxsIn.at {lo hi : Nat} {w : World} {A : Option Addr} {xs : List Vx} (h : VxsIn lo hi w A xs) : VxsAt w A xs := fun hne => by
  obtain ⟨b, h1, _, _, h4, h5⟩ := h.1 hne
  exact ⟨b, 0, h1, h4, fun i hi => by rw [Nat.zero_add]; exact ⟨h5 i hi, (h.2 _ (List.getElem_mem hi)).at⟩⟩
theorem VxsIn.fr {lo hi a c base : Nat} {w w' : World} {A : Option Addr} {xs : List Vx} (h : VxsIn lo hi w A xs) (hf : Fr base a c w w') (hb : hi ≤ base) (ha : a < lo) (hc : c < lo) : VxsIn lo hi w' A xs := ⟨fun hne => by
  obtain ⟨b, h1, h2, h3, h4, h5⟩ := h.1 hne
  exact ⟨b, h1, h2, h3, Nat.lt_of_lt_of_le h4 hf.size, fun i hi => (h5 i hi).of_cells fun k => cell_of_block (hf.block b (by omega) (by omega) (by omega) h4)⟩, fun x hx => (h.2 x hx).fr hf hb ha hc⟩
theorem VxsIn.mono {lo lo' hi hi' : Nat} {w : World} {A : Option Addr} {xs : List Vx} (h : VxsIn lo hi w A xs) (h1 : lo' ≤ lo) (h2 : hi ≤ hi') : VxsIn lo' hi' w A xs := ⟨fun hne => by
  obtain ⟨b, g1, g2, g3, g4, g5⟩ := h.1 hne
  exact ⟨b, g1, by omega, by omega, g4, g5⟩, fun x hx => (h.2 x hx).mono h1 h2⟩
theorem Vxs_cells {w : World} {g : Nat} {xs : List Vx} (h : ∀ j u, (xs.flatMap Vx.enc)[j]? = some u → w.cell? ⟨g, j, none⟩ = some u) (i : Nat) (hi : i < xs.length) : VxAt w g (i * 8) xs[i] := by
  have hg := fun j hj => flat_get Vx.enc 8 Vx.enc_length xs i hi j hj
  generalize xs[i] = x at hg ⊢
  exact ⟨h _ _ (hg 0 (by decide)), h _ _ (hg 1 (by decide)), h _ _ (hg 2 (by decide)), h _ _ (hg 3 (by decide)), h _ _ (hg 4 (by decide)), h _ _ (hg 5 (by decide)), h _ _ (hg 6 (by decide)), h _ _ (hg 7 (by decide))⟩
theorem Vx.enc_one (x : Vx) : ∀ u ∈ x.enc, u.oneCell' = true := by intro u hu; simp [Vx.enc] at hu; rcases hu with rfl | rfl | rfl | rfl | rfl | rfl | rfl | rfl <;> rfl
def PxsIn (lo hi : Nat) (w : World) (A : Option Addr) (xs : List Px) : Prop :=
  (xs ≠ [] → ∃ b, A = some ⟨b, 0, none⟩ ∧ lo ≤ b ∧ b < hi ∧ b < w.heap.size ∧ ∀ i (h : i < xs.length), PxAt w b (i * 11) xs[i])
theorem PxsIn.at {lo hi : Nat} {w : World} {A : Option Addr} {xs : List Px} (h : PxsIn lo hi w A xs) : PxsAt w A xs := fun hne => by
  obtain ⟨b, h1, _, _, h4, h5⟩ := h hne
  exact ⟨b, 0, h1, h4, fun i hi => by rw [Nat.zero_add]; exact h5 i hi⟩
theorem PxsIn.fr {lo hi a c base : Nat} {w w' : World} {A : Option Addr} {xs : List Px} (h : PxsIn lo hi w A xs) (hf : Fr base a c w w') (hb : hi ≤ base) (ha : a < lo) (hc : c < lo) : PxsIn lo hi w' A xs := fun hne => by
  obtain ⟨b, h1, h2, h3, h4, h5⟩ := h hne
  exact ⟨b, h1, h2, h3, Nat.lt_of_lt_of_le h4 hf.size, fun i hi => (h5 i hi).of_cells fun k => cell_of_block (hf.block b (by omega) (by omega) (by omega) h4)⟩
theorem PxsIn.mono {lo lo' hi hi' : Nat} {w : World} {A : Option Addr} {xs : List Px} (h : PxsIn lo hi w A xs) (h1 : lo' ≤ lo) (h2 : hi ≤ hi') : PxsIn lo' hi' w A xs := fun hne => by
  obtain ⟨b, g1, g2, g3, g4, g5⟩ := h hne
  exact ⟨b, g1, by omega, by omega, g4, g5⟩
theorem Pxs_cells {w : World} {g : Nat} {xs : List Px} (h : ∀ j u, (xs.flatMap Px.enc)[j]? = some u → w.cell? ⟨g, j, none⟩ = some u) (i : Nat) (hi : i < xs.length) : PxAt w g (i * 11) xs[i] := by
  have hg := fun j hj => flat_get Px.enc 11 Px.enc_length xs i hi j hj
  generalize xs[i] = x at hg ⊢
  exact ⟨h _ _ (hg 0 (by decide)), h _ _ (hg 1 (by decide)), h _ _ (hg 2 (by decide)), h _ _ (hg 3 (by decide)), h _ _ (hg 4 (by decide)), h _ _ (hg 5 (by decide)), h _ _ (hg 6 (by decide)), h _ _ (hg 7 (by decide)), h _ _ (hg 8 (by decide)), h _ _ (hg 9 (by decide)), h _ _ (hg 10 (by decide))⟩
theorem Px.enc_one (x : Px) : ∀ u ∈ x.enc, u.oneCell' = true := by intro u hu; simp [Px.enc] at hu; rcases hu with rfl | rfl | rfl | rfl | rfl | rfl | rfl | rfl | rfl | rfl | rfl <;> rfl
theorem Wns_row {w : World} {base n : Nat} {v : Value} {xs : List Wn} (h : w.ownsRow base 58 3 v n (xs.flatMap Wn.enc)) (hn : n = xs.length) : ∃ A cap, v = .slice A xs.length cap ∧ WnsIn base w.heap.size w A xs := by
  subst hn
  rcases row_form h with ⟨h1, h2⟩ | ⟨g, cap, h1, h2, h3, h4⟩
  · obtain rfl := List.length_eq_zero_iff.1 h1
    exact ⟨none, 0, h2, fun hne => absurd rfl hne⟩
  · exact ⟨_, cap, h1, fun _ => ⟨g, rfl, h2, h3, h3, fun i hi => Wns_cells h4 i hi⟩⟩
theorem Pxs_row {w : World} {base n : Nat} {v : Value} {xs : List Px} (h : w.ownsRow base 62 11 v n (xs.flatMap Px.enc)) (hn : n = xs.length) : ∃ A cap, v = .slice A xs.length cap ∧ PxsIn base w.heap.size w A xs := by
  subst hn
  rcases row_form h with ⟨h1, h2⟩ | ⟨g, cap, h1, h2, h3, h4⟩
  · obtain rfl := List.length_eq_zero_iff.1 h1
    exact ⟨none, 0, h2, fun hne => absurd rfl hne⟩
  · exact ⟨_, cap, h1, fun _ => ⟨g, rfl, h2, h3, h3, fun i hi => Pxs_cells h4 i hi⟩⟩
/-- Lists of ends that no row shares. -/
def TosIn (lo : Nat) (w : World) (v : Value) (xs : List Vx) : Prop := ∀ x ∈ xs, x.to ≠ [] → ∃ b, x.toA = some ⟨b, 0, none⟩ ∧ lo ≤ b ∧ b < w.heap.size ∧ some b ≠ v.ownBlock ∧ ∀ i (h : i < x.to.length), w.cell? ⟨b, i, none⟩ = some (.int .i64 x.to[i])
theorem Vxs_row {w : World} {base n : Nat} {v : Value} {xs : List Vx} (h : w.ownsRow base 60 8 v n (xs.flatMap Vx.enc)) (hn : n = xs.length) (ht : TosIn base w v xs) : ∃ A cap, v = .slice A xs.length cap ∧ VxsIn base w.heap.size w A xs := by
  subst hn
  have hto : ∀ x ∈ xs, IntsIn base w.heap.size w x.toA x.to := fun x hx hne => by
    obtain ⟨b, g1, g2, g3, _, g5⟩ := ht x hx hne
    exact ⟨b, g1, g2, g3, g3, g5⟩
  rcases row_form h with ⟨h1, h2⟩ | ⟨g, cap, h1, h2, h3, h4⟩
  · obtain rfl := List.length_eq_zero_iff.1 h1
    exact ⟨none, 0, h2, fun hne => absurd rfl hne, hto⟩
  · exact ⟨_, cap, h1, fun _ => ⟨g, rfl, h2, h3, h3, fun i hi => Vxs_cells h4 i hi⟩, hto⟩
/-- A reader's step, or new memory, leaves the lists of ends. -/
theorem TosIn.grown {lo r : Nat} {w w' : World} {v : Value} {xs : List Vx} (h : TosIn lo w v xs) (hg : w.grownBy w' (some r)) (hr : r < lo) : TosIn lo w' v xs := fun x hx hne => by
  obtain ⟨b, g1, g2, g3, g4, g5⟩ := h x hx hne
  exact ⟨b, g1, g2, Nat.lt_of_lt_of_le g3 hg.size, g4, fun i hi => (cell_of_block (hg.block b g3 (by simp; omega))).trans (g5 i hi)⟩
theorem TosIn.frm {lo base a c : Nat} {w w' : World} {v : Value} {xs : List Vx} (h : TosIn lo w v xs) (hf : Fr base a c w w') (hs : w.heap.size ≤ base) (ha : a < lo) (hc : c < lo ∨ w.heap.size ≤ c) : TosIn lo w' v xs := fun x hx hne => by
  obtain ⟨b, g1, g2, g3, g4, g5⟩ := h x hx hne
  exact ⟨b, g1, g2, Nat.lt_of_lt_of_le g3 hf.size, g4, fun i hi => (cell_of_block (hf.block b (by omega) (by omega) (by omega) g3)).trans (g5 i hi)⟩
/-- A link more: the row is another one, or it lies where none did. -/
theorem TosIn.snoc {lo H g m cap : Nat} {w w' : World} {v : Value} {xs : List Vx} {x : Vx} (h : TosIn lo w v xs) (hx : x.to ≠ [] → ∃ b, x.toA = some ⟨b, 0, none⟩ ∧ lo ≤ b ∧ b < w.heap.size ∧ some b ≠ v.ownBlock ∧ ∀ i (h : i < x.to.length), w.cell? ⟨b, i, none⟩ = some (.int .i64 x.to[i]))
    (hg : w.grownBy w' v.ownBlock) (hat : v.ownBlock = some g ∨ g = H) (hH : w.heap.size = H) : TosIn lo w' (.slice (some ⟨g, 0, none⟩) m cap) (xs ++ [x]) := fun y hy hne => by
  have key : ∃ b, y.toA = some ⟨b, 0, none⟩ ∧ lo ≤ b ∧ b < w.heap.size ∧ some b ≠ v.ownBlock ∧ ∀ i (h : i < y.to.length), w.cell? ⟨b, i, none⟩ = some (.int .i64 y.to[i]) := by
    rcases List.mem_append.1 hy with hy | hy
    · exact h y hy hne
    · obtain rfl := List.mem_singleton.1 hy
      exact hx hne
  obtain ⟨b, g1, g2, g3, g4, g5⟩ := key
  refine ⟨b, g1, g2, Nat.lt_of_lt_of_le g3 hg.size, ?_, fun i hi => (cell_of_block (hg.block b g3 g4)).trans (g5 i hi)⟩
  show some b ≠ some g
  intro e
  injection e with e
  subst e
  rcases hat with e | e
  · exact g4 e.symm
  · omega
theorem TosIn.app {lo g m cap k i : Nat} {w w' : World} {v u : Value} {xs : List Vx} (x : Vx) (A : Option Addr) (to_ : List Int) (h : TosIn lo w v xs) (e1 : x.toA = A) (e2 : x.to = to_) (o : Obj)
    (hx : to_ ≠ [] → ∃ b, A = some ⟨b, 0, none⟩ ∧ lo ≤ b ∧ b < w.heap.size ∧ some b ≠ v.ownBlock ∧ ∀ i (h : i < to_.length), w.cell? ⟨b, i, none⟩ = some (.int .i64 to_[i]))
    (hg : (w.alloc o).grownBy w' v.ownBlock) (hat : v.ownBlock = some g ∨ g = (w.alloc o).heap.size) (hk : k < lo) : TosIn lo (w'.setCell ⟨k, i, none⟩ u) (.slice (some ⟨g, 0, none⟩) m cap) (xs ++ [x]) := by
  subst e1 e2
  have h0 : TosIn lo (w.alloc o) v xs := fun y hy hne => by
    obtain ⟨b, g1, g2, g3, g4, g5⟩ := h y hy hne
    exact ⟨b, g1, g2, by rw [World.size_alloc]; omega, g4, fun i hi => (cell_of_block (Below.heap_alloc w o b g3)).trans (g5 i hi)⟩
  have h1 : TosIn lo w' (.slice (some ⟨g, 0, none⟩) m cap) (xs ++ [x]) := TosIn.snoc h0 (fun hne => by
    obtain ⟨b, g1, g2, g3, g4, g5⟩ := hx hne
    exact ⟨b, g1, g2, by rw [World.size_alloc]; omega, g4, fun i hi => (cell_of_block (Below.heap_alloc w o b g3)).trans (g5 i hi)⟩) hg hat rfl
  exact TosIn.grown h1 (Bi.grown_set k i u) hk
theorem rd_of (k : Nat) (σ : St) : ∃ v σ', Hid (rd k σ = (v, σ')) := ⟨_, _, Lib.hid rfl⟩
theorem rd_ge {k : Nat} {σ σ' : St} {v : Int} (h : rd k σ = (v, σ')) : 0 ≤ v ∧ v < ((256 ^ k : Nat) : Int) := by
  have h1 := rd_tk k σ
  rw [h] at h1
  have h1 : v = _ := h1
  have h2 := PitotMath.num_lt (tk k σ)
  have h3 : 256 ^ (tk k σ).length ≤ 256 ^ k := Nat.pow_le_pow_right (by omega) (tk_len k σ)
  omega
theorem many_none {α : Type} (p : St → α × St) (n : Nat) : PitotImg.manyS p n none = ([], none) := PitotImg.manyS_none p n
theorem many_end {α : Type} {p : St → α × St} {i n : Nat} {σ : St} (h : (decide (i < n) && σ.isSome) = false) (hi : i ≤ n) : PitotImg.manyS p (n - i) σ = ([], σ) := by
  cases σ with
  | none => exact many_none p _
  | some l =>
    have : ¬ i < n := by simpa using h
    rw [show n - i = 0 by omega]; rfl
theorem many_go {α : Type} {p : St → α × St} {i n : Nat} {σ σ' : St} {x : α} (h : (decide (i < n) && σ.isSome) = true) (hp : p σ = (x, σ')) : i < n ∧ PitotImg.manyS p (n - i) σ = (x :: (PitotImg.manyS p (n - (i + 1)) σ').1, (PitotImg.manyS p (n - (i + 1)) σ').2) := by
  cases σ with
  | none => simp at h
  | some l =>
    have h : i < n := by simpa using h
    refine ⟨h, ?_⟩
    rw [show n - i = (n - (i + 1)) + 1 by omega, PitotImg.manyS_step, hp]
theorem own_grown {w w' : World} {base e sz n r : Nat} {v : Value} {xs : List Value} (h : w.ownsRow base e sz v n xs) (hg : w.grownBy w' (some r)) (hr : r < base) : w'.ownsRow base e sz v n xs := h.kept hg (own_ne h hr)
theorem own_fr {w w' : World} {base e sz n a c B : Nat} {v : Value} {xs : List Value} (h : w.ownsRow base e sz v n xs) (hf : Fr B a c w w') (hB : w.heap.size ≤ B) (ha : a < base) (hc : c < base ∨ w.heap.size ≤ c) : w'.ownsRow base e sz v n xs := by
  refine ⟨h.1, ?_⟩
  rcases h.2 with h1 | ⟨g, cap, cur, h1, h2, h3, h4⟩
  · exact .inl h1
  · have := lies_lt h3
    exact .inr ⟨g, cap, cur, h1, h2, (hf.block g (by omega) (by omega) (by omega) this).trans h3, h4⟩
theorem Below.of_grown {w w' : World} {B r : Nat} (hg : w.grownBy w' (some r)) (hB : B ≤ w.heap.size) (hr : B ≤ r) : Below B w w' := grown_below hg hr hB
theorem Below.of_fr {w w' : World} {B base a b : Nat} (hf : Fr base a b w w') (hB : B ≤ base) (hs : B ≤ w.heap.size) (ha : B ≤ a) (hb : B ≤ b) : Below B w w' := ⟨hf.os, hf.tape, hf.output, hf.size, fun k hk => hf.block k (by omega) (by omega) (by omega) (by omega)⟩
end Go.Proofs.YtdgkanamceeheaaGreat.Im
