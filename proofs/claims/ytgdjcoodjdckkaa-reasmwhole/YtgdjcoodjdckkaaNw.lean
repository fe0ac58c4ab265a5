/- Contracts of New, Keys and Dropped. -/
import Derived.Test.YtgdjcoodjdckkaaGk
import Derived.WalkSpells
import Derived.Deep.Upon
set_option maxRecDepth 100000
namespace Go.Proofs.Ytgdjcoodjdckkaa
open Go.RowKit Go.Proofs.PitotIp Go.Maps
open Go.Proofs.PitotReasm (Bg Tb Fine)
open Go.Proofs.Ytgdjcoodjdckkaa.Bi (lies_lt lies_cell lies_frozen lies_alloc lies_set)

/-- A new table. -/
def t0 : Tb K UInt8 := ⟨[], 0, 0⟩
theorem good_new (most : Nat) : Good most t0 := ⟨⟨by simp [t0], by simp [t0]⟩, by simp [t0], by simp [t0], by simp [t0], by simp [t0], by simp [t0], by simp [t0]⟩
theorem tab_new (w : World) (most wait : Int) : TabAt w.heap.size ((w.alloc (.map #[] 0)).alloc (tabC most wait 0 w.heap.size (.slice none 0 0) 0)) (w.heap.size + 1) most wait t0 := by
  refine ⟨w.heap.size, 0, .map [], .slice none 0 0, fun _ => .slice none 0 0, ?_⟩
  have e1 : ((w.alloc (.map #[] 0)).alloc (tabC most wait 0 w.heap.size (.slice none 0 0) 0)).heap[w.heap.size + 1]? = some (tabC most wait 0 w.heap.size (.slice none 0 0) 0) := by
    have := heap_alloc_new (w.alloc (.map #[] 0)) (tabC most wait 0 w.heap.size (.slice none 0 0) 0)
    rw [World.size_alloc] at this
    exact this
  refine ⟨by omega, Nat.le_refl _, e1, ?_, fun k => ⟨rfl, rfl⟩, rfl, ⟨rfl, .inl ⟨rfl, rfl⟩⟩, by simp [t0], by simp [t0]⟩
  exact (World.ownsMap_made (H := Value) w Try.prog 52 HE).kept (World.grownBy_alloc _ _ none) (by simp)

set_option maxHeartbeats 2000000 in
theorem new_ok (w : World) (most : Nat) (wait : Int) (h1 : 1 ≤ most) (h2 : most ≤ 64) (h3 : 0 ≤ wait) (h4 : wait ≤ 1125899906842624) :
    Calls Try.prog 9 #[.int .i64 most, .int .i64 wait] w fun e w' => ∃ tp, e = .returned (.tuple #[.pointer (some ⟨tp, 0, none⟩), .int .i64 0]) ∧ TabAt w.heap.size w' tp most wait t0 ∧ Below w.heap.size w w' := by
  have e1 : decide ((most : Int) < 1) = false := decide_eq_false (by omega)
  have e2 : decide (64 < (most : Int)) = false := decide_eq_false (by omega)
  have e3 : decide (wait < 0) = false := decide_eq_false (by omega)
  have e4 : decide (1125899906842624 < wait) = false := decide_eq_false (by omega)
  have e1' : decide (most < 1) = false := decide_eq_false (by omega)
  have e2' : decide (64 < most) = false := decide_eq_false (by omega)
  have hmm := @run_makeMap Try.prog
  clear h1 h2 h3 h4
  go_enter Try.func9, Try.ntmps9
  go_wp2
  go_returns
  exact ⟨w.heap.size + 1, rfl, tab_new w most wait, ((Below.refl _ w).alloc (Nat.le_refl _) _).alloc (by simp) _⟩
set_option maxHeartbeats 2000000 in
theorem new_bad (w : World) (most wait : Int) (h : most < 1 ∨ 64 < most ∨ wait < 0 ∨ 1125899906842624 < wait) :
    Calls Try.prog 9 #[.int .i64 most, .int .i64 wait] w fun e w' => e = .returned (.tuple #[.pointer none, .int .i64 1]) ∧ w' = w := by
  by_cases h1 : most < 1
  · have e1 : decide (most < 1) = true := decide_eq_true h1
    clear h h1
    go_enter Try.func9, Try.ntmps9
    go_wp2
    go_returns
    exact ⟨rfl, rfl⟩
  · have e1 : decide (most < 1) = false := decide_eq_false h1
    by_cases h2 : 64 < most
    · have e2 : decide (64 < most) = true := decide_eq_true h2
      clear h h1 h2
      go_enter Try.func9, Try.ntmps9
      go_wp2
      go_returns
      exact ⟨rfl, rfl⟩
    · have e2 : decide (64 < most) = false := decide_eq_false h2
      by_cases h3 : wait < 0
      · have e3 : decide (wait < 0) = true := decide_eq_true h3
        clear h h1 h2 h3
        go_enter Try.func9, Try.ntmps9
        go_wp2
        go_returns
        exact ⟨rfl, rfl⟩
      · have e3 : decide (wait < 0) = false := decide_eq_false h3
        have e4 : decide (1125899906842624 < wait) = true := decide_eq_true (by omega)
        clear h h1 h2 h3
        go_enter Try.func9, Try.ntmps9
        go_wp2
        go_returns
        exact ⟨rfl, rfl⟩

theorem dropped_any {base : Nat} {w : World} {tp : Nat} {most wait : Int} {t : Tb K UInt8} (h : TabAt base w tp most wait t) :
    Calls Try.prog 18 #[.pointer (some ⟨tp, 0, none⟩)] w fun e w' => e = .returned (.int .i64 t.dr) ∧ w' = w := by
  obtain ⟨mb, n, D, ov, dv, h⟩ := h
  have hc : w.cell? ⟨tp, 5, none⟩ = some (.int .i64 t.dr) := lies_cell h.tab 5
  generalize (t.dr : Int) = dr at hc ⊢
  clear h
  go_enter Try.func18, Try.ntmps18
  go_wp2
  go_returns
  exact ⟨rfl, rfl⟩
theorem dropped_nil (w : World) : Calls Try.prog 18 #[.pointer none] w fun e w' => e = .returned (.int .i64 0) ∧ w' = w := by
  go_enter Try.func18, Try.ntmps18
  go_wp2
  go_returns
  exact ⟨rfl, rfl⟩
theorem keys_nil (w : World) : Calls Try.prog 17 #[.pointer none] w fun e w' => e = .returned (.slice none 0 0) ∧ w' = w := by
  go_enter Try.func17, Try.ntmps17
  go_wp2
  go_returns
  exact ⟨rfl, rfl⟩
theorem eq_nil0 (w : World) : (binOp .eql 45 (.slice none 0 0) (.slice none 0 0)).run Try.prog w = .ok (.bool true) w := by
  rw [Lib.run_eql_slice_nil w 45 52 _ _ _ _ _ Try.underlying45]; rfl
theorem clone_nil (w : World) : Calls Try.prog 30 #[.slice none 0 0] w fun e w' => e = .returned (.slice none 0 0) ∧ w' = w := by
  have he := eq_nil0
  go_enter Try.func30, Try.ntmps30
  go_wp2
  go_returns
  exact ⟨rfl, rfl⟩
theorem eq_nil (w : World) (o n cap : Nat) : (binOp .eql 45 (.slice (some ⟨o, 0, none⟩) n cap) (.slice none 0 0)).run Try.prog w = .ok (.bool false) w := by
  rw [Lib.run_eql_slice_nil w 45 52 _ _ _ _ _ Try.underlying45]; rfl
theorem clone_zero (w : World) (o cap : Nat) : Calls Try.prog 30 #[.slice (some ⟨o, 0, none⟩) 0 cap] w fun e w' => (∃ A c, e = .returned (.slice A 0 c)) ∧ Below w.heap.size w w' := by
  have he := fun w => eq_nil w o 0 cap
  have kb : Hid (Below w.heap.size w (w.alloc (.cells #[] 52))) := (Below.refl _ w).alloc (Nat.le_refl _) _
  go_enter Try.func30, Try.ntmps30
  go_wp2
  go_returns
  exact ⟨⟨_, _, rfl⟩, kb.out⟩
/-- Keys as a caller has them. -/
def KsAt (w : World) (A : Option Addr) (l : List K) : Prop := l ≠ [] → ∃ b, A = some ⟨b, 0, none⟩ ∧ b < w.heap.size ∧ ∀ i (h : i < l.length), KAt w b (i * 10) l[i]
theorem RowK.news {w : World} {o cap : Nat} {ks : List K} (h : RowK w o cap ks) : ∀ j u, (flatK ks)[j]? = some u → w.cell? ((⟨o, 0, none⟩ : Addr).add j) = some u := fun j u hu => by
  obtain ⟨cur, h1, h2, h3, h4, h5⟩ := h
  have hj : j < ks.length * 10 := by
    have := (List.getElem?_eq_some_iff.1 hu).1
    rwa [flatK_length] at this
  rw [Bi.add_plain, lies_cell h1, ← hu, ← h5, List.getElem?_take_of_lt hj, Array.getElem?_toList]
theorem flatK_one (ks : List K) : ∀ u ∈ flatK ks, u.oneCell' = true := fun u hu => by
  obtain ⟨k, _, hk⟩ := List.mem_flatMap.1 hu
  exact k.enc_one u hk
set_option maxHeartbeats 2000000 in
theorem clone_row (w : World) (o cap n : Nat) (ks : List K) (h : RowK w o cap ks) (hn : n = ks.length) (hpos : 0 < n) (hle : n ≤ 64) :
    Calls Try.prog 30 #[.slice (some ⟨o, 0, none⟩) n cap] w fun e w' => (∃ g c, e = .returned (.slice (some ⟨g, 0, none⟩) n c) ∧ KsAt w' (some ⟨g, 0, none⟩) ks) ∧ Below w.heap.size w w' := by
  have he := fun w => eq_nil w o n cap
  have hol := h.lt
  have H1 : Hid (RowK (w.alloc (.cells #[] 52)) o cap ks) := h.below ((Below.refl _ w).alloc (Nat.le_refl _) _) hol
  have HO : Hid ((w.alloc (.cells #[] 52)).ownsRow w.heap.size 52 10 (.slice (some ⟨w.heap.size, 0, none⟩) 0 0) 0 []) := ⟨rfl, .inr ⟨w.heap.size, 0, #[], rfl, Nat.le_refl _, heap_alloc_new w _, by omega, by unfold maxLen; omega, rfl, rfl⟩⟩
  have kb : Hid (Below w.heap.size w (w.alloc (.cells #[] 52))) := (Below.refl _ w).alloc (Nat.le_refl _) _
  have Hn := Lib.hid hn; clear hn h
  obtain ⟨i, hi, hz, hs52, hb52⟩ := info_parts info52
  go_enter Try.func30, Try.ntmps30
  go_wp2_with (first
    | (at_builtin; refine wpList_append_lies _ rfl _ _ 45 (by rfl) w.heap.size 52 i _ 10 24 Try.underlying45 hi hz hs52 hb52 rfl (by omega) _ 0 [] (by rfl) HO.out ⟨o, 0, none⟩ n cap (flatK ks) (by rfl) (by rw [flatK_length, Hn.out]) H1.out.news (flatK_one ks) hpos (by unfold maxLen; omega) (by omega) (by simp) _ rfl ?_; intro g c w5 hrow5 hg5 hgb hgl))
  go_returns
  have hb5 : Below w.heap.size w w5 := kb.out.trans ⟨hg5.os, hg5.tape, hg5.output, hg5.size, fun k hk => hg5.block k (by simp; omega) (by simp [Value.ownBlock]; omega)⟩
  rw [Nat.zero_add, List.nil_append] at hrow5
  obtain ⟨g', c', e1, hg', hlen, hR⟩ := RowK.of_own hrow5 hpos
  injection e1 with e1 _ e3
  injection e1 with e1
  injection e1 with e1
  subst e1; subst e3
  refine ⟨⟨g, c, rfl, fun _ => ⟨g, rfl, hR.lt, fun i hi => hR.at i hi⟩⟩, hb5⟩
theorem keys_any {base : Nat} {w : World} {tp : Nat} {most wait : Int} {t : Tb K UInt8} (h : TabAt base w tp most wait t) (hle : t.l.length ≤ 64) :
    Calls Try.prog 17 #[.pointer (some ⟨tp, 0, none⟩)] w fun e w' => (∃ A c, e = .returned (.slice A t.l.length c) ∧ KsAt w' A (t.l.map (·.k))) ∧ Below w.heap.size w w' := by
  obtain ⟨mb, n, D, ov, dv, h⟩ := h
  have hc : w.cell? ⟨tp, 4, none⟩ = some ov := lies_cell h.tab 4
  have HC : Hid (∀ w', w' = w → Calls Try.prog 30 #[ov] w' fun e w' => (∃ A c, e = .returned (.slice A t.l.length c) ∧ KsAt w' A (t.l.map (·.k))) ∧ Below w.heap.size w w') := by
    rintro w' rfl
    by_cases hz : t.l.length = 0
    · have hnil : t.l = [] := List.length_eq_zero_iff.1 hz
      rcases h.row.2 with ⟨e, _⟩ | ⟨g, cap, cur, e, _⟩
      · rw [e, hz, hnil]
        exact (clone_nil w').mono fun e w2 x => ⟨⟨none, 0, x.1, fun y => absurd rfl y⟩, by rw [x.2]; exact Below.refl _ _⟩
      · rw [e, hz, hnil]
        exact (clone_zero w' g cap).mono fun e w2 x => by
          obtain ⟨⟨A, c, e⟩, hb⟩ := x
          exact ⟨⟨A, c, e, fun y => absurd rfl y⟩, hb⟩
    · obtain ⟨o, cap, e, _, _, hR⟩ := RowK.of_own h.row (by omega)
      rw [e]
      exact (clone_row w' o cap t.l.length _ hR (by rw [List.length_map]) (by omega) hle).mono fun e w2 x => by
        obtain ⟨⟨g, c, e, hk⟩, hb⟩ := x
        exact ⟨⟨_, c, e, hk⟩, hb⟩
  clear h
  obtain ⟨L, HL⟩ : ∃ L, Hid (t.l.length = L) := ⟨_, rfl⟩
  rw [HL.out] at HC ⊢
  generalize t.l.map (·.k) = ks at HC ⊢
  go_enter Try.func17, Try.ntmps17
  go_wp2_with (first
    | (go_at_call 30; (with_reducible refine (HC.out _ rfl).mono ?_); rintro e w2 ⟨⟨A, c, rfl, hk⟩, hb⟩))
  go_returns
  exact ⟨⟨A, c, rfl, hk⟩, hb⟩
end Go.Proofs.Ytgdjcoodjdckkaa
