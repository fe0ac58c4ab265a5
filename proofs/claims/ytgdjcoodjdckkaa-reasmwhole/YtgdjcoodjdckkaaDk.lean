/- slices.IndexFunc and slices.DeleteFunc at Keys: one Key is taken out. -/
import Derived.Test.YtgdjcoodjdckkaaKr
set_option maxRecDepth 100000
namespace Go.Proofs.Ytgdjcoodjdckkaa
open Go.RowKit Go.Proofs.PitotIp Go.Maps
open Go.Proofs.Ytgdjcoodjdckkaa.Bi (lies_lt lies_cell lies_frozen lies_alloc lies_set)

theorem intOf_nat (k : Nat) : (intOf (.int .i64 k)).toNat = k := by simp [intOf]

set_option maxHeartbeats 2000000 in
theorem index_any (w : World) (o cap c n : Nat) (k : K) (l1 l2 : List K) (hk : k ∉ l1) (h : RowK w o cap (l1 ++ k :: l2)) (hc : w.heap[c]? = some k.obj) (hn : n = (l1 ++ k :: l2).length) :
    Calls Try.prog 47 #[.slice (some ⟨o, 0, none⟩) n cap, .func (.func 45) #[] #[.pointer (some ⟨c, 0, none⟩)]] w fun e w' => e = .returned (.int .i64 l1.length) ∧ Below w.heap.size w w' := by
  have hnl : l1.length < n := by rw [hn]; simp
  have hcap : n ≤ maxLen := by obtain ⟨cur, _, _, h3, h4, _⟩ := h; omega
  unfold maxLen at hcap
  have hol := h.lt
  have hcl := lies_lt hc
  have HT : Hid (∀ (w' : World) (i : Nat), Below w.heap.size w w' → ∀ hi : i < (l1 ++ k :: l2).length, KAt w' o (i * 10) (l1 ++ k :: l2)[i]) := fun w' i hb hi => (h.below hb hol).at i hi
  have HC : Hid (∀ (w' : World) (x : K), Below w.heap.size w w' → Calls Try.prog 45 #[x.val, .pointer (some ⟨c, 0, none⟩)] w' fun e w'' => e = .returned (.bool (decide (x = k))) ∧ Below w'.heap.size w' w'') := fun w' x hb => tell_any w' c k x ((hb.block c hcl).trans hc)
  have Hn := Lib.hid hn; clear hn
  have Hk := Lib.hid hk; clear hk
  obtain ⟨p, Hp⟩ : ∃ p, Hid (p = l1.length) := ⟨_, rfl⟩
  rw [← Hp.out] at hnl ⊢
  clear h hc
  go_enter Try.func47, Try.ntmps47
  go_wp2
  go_loopw [8] (fun v8 wr => ∃ (i : Nat), i ≤ p ∧ v8 = .int .i64 i ∧ Below w.heap.size w wr) (fun v8 _ => n - (intOf v8).toNat)
  case atStart => exact ⟨0, Nat.zero_le _, rfl, Below.refl _ _⟩
  case round =>
    obtain ⟨i, hi, rfl, hb⟩ := hrel
    have hin : i < n := by omega
    have hat := HT.out wr i hb (by rw [← Hn.out]; exact hin)
    have hcall := HC.out wr (l1 ++ k :: l2)[i] hb
    have hbs := hb.size
    have he : decide ((l1 ++ k :: l2)[i]'(by rw [← Hn.out]; exact hin) = k) = decide (i = p) := by
      by_cases e : i = p
      · subst e
        rw [decide_eq_true rfl]
        simp [Hp.out]
      · have : i < l1.length := by rw [← Hp.out]; omega
        rw [List.getElem_append_left this, decide_eq_false e]
        exact decide_eq_false fun e2 => Hk.out (e2 ▸ List.getElem_mem _)
    rw [he] at hcall
    generalize (l1 ++ k :: l2)[i]'(by rw [← Hn.out]; exact hin) = x at hat hcall
    simp only [K.val] at hcall
    obtain ⟨c0, c1, c2, c3, c4, c5, c6, c7, c8, c9⟩ := hat
    have HC2 := Lib.hid hcall
    clear hcall he
    by_cases e : i = p
    · subst e
      rw [decide_eq_true rfl] at HC2
      go_wp2_with (go_at_call 45; (with_reducible refine HC2.out.mono ?_); rintro e w' ⟨rfl, hb2⟩)
      go_returns
      exact ⟨rfl, hb.trans (hb2.mono hbs)⟩
    · rw [decide_eq_false e] at HC2
      go_wp2_with (go_at_call 45; (with_reducible refine HC2.out.mono ?_); rintro e w' ⟨rfl, hb2⟩)
      go_roundw
      case rel => exact ⟨i + 1, by omega, by go_num, hb.trans (hb2.mono hbs)⟩
      case measure => simp [intOf]; omega
end Go.Proofs.Ytgdjcoodjdckkaa
