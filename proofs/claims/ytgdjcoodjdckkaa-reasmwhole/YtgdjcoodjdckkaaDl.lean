/- slices.DeleteFunc at Keys: one Key is taken out. -/
import Derived.Test.YtgdjcoodjdckkaaDk
set_option maxRecDepth 100000
namespace Go.Proofs.Ytgdjcoodjdckkaa
open Go.RowKit Go.Proofs.PitotIp Go.Maps
open Go.Proofs.Ytgdjcoodjdckkaa.Bi (lies_lt lies_cell lies_frozen lies_alloc lies_set)

/-- What lies in the row when m of those behind the one that is taken out have been moved. -/
def shl (l1 l2 : List K) (k : K) (m : Nat) : List K := l1 ++ l2.take m ++ (k :: l2).drop m
theorem shl_zero (l1 l2 : List K) (k : K) : shl l1 l2 k 0 = l1 ++ k :: l2 := by simp [shl]
theorem shl_length (l1 l2 : List K) (k : K) (m : Nat) (hm : m ≤ l2.length) : (shl l1 l2 k m).length = l1.length + l2.length + 1 := by simp [shl]; omega
theorem shl_at (l1 l2 : List K) (k : K) (m : Nat) (hm : m < l2.length) (h : l1.length + m + 1 < (shl l1 l2 k m).length) : (shl l1 l2 k m)[l1.length + m + 1] = l2[m] := by
  apply Option.some.inj
  rw [← List.getElem?_eq_getElem, shl, List.getElem?_append_right (by simp; omega)]
  simp only [List.length_append, List.length_take]
  rw [show l1.length + m + 1 - (l1.length + min m l2.length) = 1 by omega, List.getElem?_drop, Nat.add_comm m 1, Nat.add_comm 1 m, List.getElem?_cons_succ, List.getElem?_eq_getElem hm]
theorem drop_set {L : List K} {m : Nat} (h : m < L.length) (x : K) : (L.drop m).set 0 x = x :: L.drop (m + 1) := by
  rw [List.drop_eq_getElem_cons h]; rfl
theorem shl_set (l1 l2 : List K) (k : K) (m : Nat) (hm : m < l2.length) : (shl l1 l2 k m).set (l1.length + m) l2[m] = shl l1 l2 k (m + 1) := by
  unfold shl
  rw [List.set_append_right _ _ (by simp; omega)]
  simp only [List.length_append, List.length_take]
  rw [show l1.length + m - (l1.length + min m l2.length) = 0 by omega, drop_set (by simp; omega), List.take_succ_eq_append_getElem hm]
  simp only [List.append_assoc, List.singleton_append]
theorem shl_end (l1 l2 : List K) (k : K) : (shl l1 l2 k l2.length).take (l1.length + l2.length) = l1 ++ l2 := by
  unfold shl
  rw [List.take_length, List.take_left' (by simp)]

theorem zero52 (w : World) : (zeroValue 52).run Try.prog w = .ok (.agg #[.int .u8 0, .int .u8 0, .int .u8 0, .int .u8 0, .int .u8 0, .int .u8 0, .int .u8 0, .int .u8 0, .int .i64 0, .int .i64 0]) w := by kernel_rfl
abbrev zk : List Value := [.int .u8 0, .int .u8 0, .int .u8 0, .int .u8 0, .int .u8 0, .int .u8 0, .int .u8 0, .int .u8 0, .int .i64 0, .int .i64 0]
def kz : K := ⟨⟨0, 0, 0, 0⟩, ⟨0, 0, 0, 0⟩, 0, 0, by decide, by decide⟩
/-- 'clear' of one Key. -/
theorem clear_one (w : World) (ty : TypeId) (o b c : Nat) (ht : w.there o b 10) :
    (Builtin.clear_ #[45] ty #[.slice (some ⟨o, b, none⟩) 1 c]).run Try.prog w = .ok (.tuple #[]) (w.setCells o b zk) := by
  have hst := run_storeCells_cells (P := Try.prog) o b zk 0 w (fun j hj => by simpa using (ht j (by simpa using hj)).1) (fun j hj => by simpa using (ht j (by simpa using hj)).2) (by
    intro v hv
    simp only [zk, List.mem_cons, List.not_mem_nil, or_false] at hv
    rcases hv with rfl | rfl | rfl | rfl | rfl | rfl | rfl | rfl | rfl | rfl <;> rfl)
  simp only [Nat.add_zero] at hst
  have hz : (Builtin.zeroCells (Value.agg #[.int .u8 0, .int .u8 0, .int .u8 0, .int .u8 0, .int .u8 0, .int .u8 0, .int .u8 0, .int .u8 0, .int .i64 0, .int .i64 0]).cells 1).toList = zk := by kernel_rfl
  simp [Builtin.clear_, run_underlying Try.underlying45, hz, hst]

theorem grown_cells (o : Nat) : ∀ (vs : List Value) (b : Nat) (w : World), w.grownBy (w.setCells o b vs) (some o)
  | [], _, _ => ⟨rfl, rfl, rfl, Nat.le_refl _, fun _ _ _ => rfl⟩
  | v :: r, b, _ => Bi.grown_trans (Bi.grown_set o b v) (grown_cells o r (b + 1) _)
theorem grown_below {w w' : World} (h : Below w.heap.size w w') (r : Option Nat) : w.grownBy w' r := ⟨h.os, h.tape, h.output, h.size, fun i hi _ => h.block i hi⟩
theorem RowK.grown {w w' : World} {o cap : Nat} {ks : List K} (h : RowK w o cap ks) {r : Option Nat} (hb : w.grownBy w' r) (hr : r ≠ some o) : RowK w' o cap ks := by
  obtain ⟨cur, h1, h2⟩ := h
  exact ⟨cur, (hb.block o (lies_lt h1) (fun e => hr e.symm)).trans h1, h2⟩

set_option maxHeartbeats 4000000 in
theorem delete_any (w : World) (o cap c n : Nat) (k : K) (l1 l2 : List K) (hk1 : k ∉ l1) (hk2 : k ∉ l2) (h : RowK w o cap (l1 ++ k :: l2)) (hc : w.heap[c]? = some k.obj) (hoc : c ≠ o) (hn : n = (l1 ++ k :: l2).length) :
    Calls Try.prog 44 #[.slice (some ⟨o, 0, none⟩) n cap, .func (.func 45) #[] #[.pointer (some ⟨c, 0, none⟩)]] w fun e w' => e = .returned (.slice (some ⟨o, 0, none⟩) (l1 ++ l2).length cap) ∧ RowK w' o cap (l1 ++ l2) ∧ w.grownBy w' (some o) := by
  have hcap : n ≤ cap ∧ cap ≤ 9223372036854775807 := by obtain ⟨cur, _, _, h3, h4, _⟩ := h; unfold maxLen at h4; omega
  have hol := h.lt
  have hcl := lies_lt hc
  have HI := Lib.hid (index_any w o cap c n k l1 l2 hk1 h hc hn)
  have HH := Lib.hid h
  have HC : Hid (∀ (w' : World) (x : K), w.grownBy w' (some o) → Calls Try.prog 45 #[x.val, .pointer (some ⟨c, 0, none⟩)] w' fun e w'' => e = .returned (.bool (decide (x = k))) ∧ Below w'.heap.size w' w'') := fun w' x hb => tell_any w' c k x ((hb.block c hcl (by simpa using hoc)).trans hc)
  have Hn : Hid (n = l1.length + l2.length + 1) := by show _ = _; rw [hn]; simp; omega
  clear hn h hc
  have Hk2 := Lib.hid hk2; clear hk1 hk2
  obtain ⟨p, Hp⟩ : ∃ p, Hid (p = l1.length) := ⟨_, rfl⟩
  obtain ⟨z, Hz⟩ : ∃ z, Hid (z = l2.length) := ⟨_, rfl⟩
  obtain ⟨r, Hr⟩ : ∃ r, Hid (r = (l1 ++ l2).length) := ⟨_, rfl⟩
  rw [← Hp.out] at HI
  rw [← Hp.out, ← Hz.out] at Hn
  rw [← Hr.out]
  have hr : r + 1 = n := by rw [Hn.out, Hr.out]; simp [Hp.out, Hz.out]
  have hpn : p < n := by have := Hn.out; omega
  have hp1 : ((p : Int) == -1) = false := beq_eq_false_iff_ne.2 (by omega)
  go_enter Try.func44, Try.ntmps44
  go_wp2_with (go_at_call 47; (with_reducible refine HI.out.mono ?_); rintro e w1 ⟨rfl, hb1⟩)
  go_loopw [5, 6] (fun v5 v6 wr => ∃ (m q j : Nat), m ≤ z ∧ q = p + m ∧ j = q + 1 ∧ v5 = .int .i64 q ∧ v6 = .int .i64 j ∧ RowK wr o cap (shl l1 l2 k m) ∧ w.grownBy wr (some o)) (fun v5 _ _ => n - (intOf v5).toNat)
  case atStart => exact ⟨0, p, p + 1, Nat.zero_le _, rfl, rfl, rfl, by go_num, by rw [shl_zero]; exact HH.out.below hb1 hol, grown_below hb1 _⟩
  case round =>
    obtain ⟨m, q, j, hm, hq, hj, rfl, rfl, hrow, hg⟩ := hrel
    have hln := Hn.out
    have hlen : (shl l1 l2 k m).length = n := by rw [shl_length _ _ _ _ (by rw [← Hz.out]; exact hm), ← Hp.out, ← Hz.out]; omega
    have hgs := hg.size
    by_cases hlt : m < z
    · have hm2 : m < l2.length := by rw [← Hz.out]; exact hlt
      have hjn : j < n := by omega
      have hqn : q < n := by omega
      have hat := hrow.at j (by rw [hlen]; exact hjn)
      have hx : (shl l1 l2 k m)[j]'(by rw [hlen]; exact hjn) = l2[m] := by
        have e : j = l1.length + m + 1 := by rw [← Hp.out]; omega
        subst e
        exact shl_at l1 l2 k m hm2 _
      rw [hx] at hat
      have hcall := HC.out (wr.alloc l2[m].obj) l2[m] (Bi.grown_trans hg (Bi.grown_alloc _))
      have hne : l2[m] ≠ k := fun e => Hk2.out (e ▸ List.getElem_mem hm2)
      rw [decide_eq_false hne] at hcall
      clear hne
      have hset := shl_set l1 l2 k m hm2
      rw [← Hp.out, ← hq] at hset
      generalize l2[m] = x at hat hcall hset
      have Hset := Lib.hid hset; clear hset hx
      have Hrow := Lib.hid hrow; clear hrow
      have Hlen := Lib.hid hlen; clear hlen
      have Hg := Lib.hid hg; clear hg
      have hol2 := Hrow.out.lt
      simp only [K.val] at hcall
      obtain ⟨c0, c1, c2, c3, c4, c5, c6, c7, c8, c9⟩ := hat
      have HC2 := Lib.hid hcall
      have Hq := Lib.hid hq
      have Hj := Lib.hid hj
      have Hr1 := Lib.hid hr
      clear hcall hq hj hln hr
      go_wp2_with (first
        | (go_at_call 45; (with_reducible refine HC2.out.mono ?_); rintro e w2 ⟨rfl, hb2⟩
           (have c0 := c0; clear c0 c1 c2 c3 c4 c5 c6 c7 c8 c9)
           (obtain ⟨c0, c1, c2, c3, c4, c5, c6, c7, c8, c9⟩ := cells10 (lies_below (heap_alloc_new wr x.obj) hb2 (by simp)))
           (simp only [Nat.zero_add] at c1 c2 c3 c4 c5 c6 c7 c8 c9)
           (have Hrow2 := Lib.hid ((Hrow.out.grown (Bi.grown_alloc x.obj) (r := none) (by simp)).below hb2 (by simp; omega)))
           (have ht := Hrow2.out.there q (by rw [Hlen.out]; exact hqn))
           (have b0 := (ht 0 (by omega)).2; have b1 := (ht 1 (by omega)).2; have b2 := (ht 2 (by omega)).2; have b3 := (ht 3 (by omega)).2; have b4 := (ht 4 (by omega)).2; have b5 := (ht 5 (by omega)).2; have b6 := (ht 6 (by omega)).2; have b7 := (ht 7 (by omega)).2; have b8 := (ht 8 (by omega)).2; have b9 := (ht 9 (by omega)).2)
           (simp only [Nat.add_zero] at b0)
           (have ha := Hrow2.out.at q (by rw [Hlen.out]; exact hqn))
           (generalize (shl l1 l2 k m)[q]'(by rw [Hlen.out]; exact hqn) = y at ha)
           (obtain ⟨a0, a1, a2, a3, a4, a5, a6, a7, a8, a9⟩ := ha)
           (clear ht)))
      have hrow3 : RowK (w2.setCells o (q * 10) x.enc) o cap (shl l1 l2 k (m + 1)) := by
        rw [← Hset.out]; exact Hrow2.out.put q (by rw [Hlen.out]; exact hqn) x
      have hg3 : w.grownBy (w2.setCells o (q * 10) x.enc) (some o) := Bi.grown_trans (Bi.grown_trans (Bi.grown_trans Hg.out (Bi.grown_alloc x.obj)) (grown_below hb2 _)) (grown_cells o _ _ _)
      go_roundw
      case rel => exact ⟨m + 1, q + 1, j + 1, by omega, by rw [Hq.out]; omega, by rw [Hj.out], by go_num, by go_num, hrow3, hg3⟩
      case measure => simp [intOf]; omega
    · have hmz : m = z := by omega
      have hqr : q = r := by omega
      have hjn : ¬ (j : Int) < n := by omega
      have hjn2 : ¬ j < n := by omega
      subst hqr
      have hqn : q ≤ n := by omega
      have hqc : q ≤ cap := by omega
      have hqc2 : ¬ q = cap := by omega
      have hqc3 : ¬ cap = q := by omega
      have hqc4 : ¬ (q : Int) = cap := by omega
      have hqc5 : ¬ (cap : Int) = q := by omega
      have hqc6 : ¬ cap - q = 0 := by omega
      have hqc7 : ¬ cap ≤ q := by omega
      have ht := hrow.there q (by rw [hlen]; omega)
      have hcl : ∀ ty, (Builtin.clear_ #[45] ty #[.slice (some ⟨o, q * 10, none⟩) (n - q) (cap - q)]).run Try.prog wr = .ok (.tuple #[]) (wr.setCells o (q * 10) zk) := fun ty => by
        rw [show n - q = 1 by omega]
        exact clear_one wr ty o (q * 10) _ ht
      have hend : RowK (wr.setCells o (q * 10) zk) o cap (l1 ++ l2) ∧ w.grownBy (wr.setCells o (q * 10) zk) (some o) := by
        have e1 := (hrow.put q (by rw [hlen]; omega) kz).cut q
        have e2 : ((shl l1 l2 k m).set q kz).take q = l1 ++ l2 := by
          have e3 : q = l1.length + l2.length := by rw [← Hp.out, ← Hz.out]; omega
          rw [List.take_set_of_le (Nat.le_refl _), e3, hmz, Hz.out]
          exact shl_end l1 l2 k
        rw [e2] at e1
        exact ⟨e1, Bi.grown_trans hg (grown_cells o _ _ _)⟩
      have Hend := Lib.hid hend
      clear hend hrow hg hlen ht
      have HX := Lib.hid (And.intro hq (And.intro hj hln))
      clear hq hj hln hmz hr
      go_wp2
      go_returns
      exact ⟨rfl, Hend.out⟩
end Go.Proofs.Ytgdjcoodjdckkaa
