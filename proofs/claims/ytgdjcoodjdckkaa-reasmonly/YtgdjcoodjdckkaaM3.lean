/- Merged: Dk, Dl, ReMath, By, Tb. -/
import Derived.Test.YtgdjcoodjdckkaaM2
import Derived.Lib.AppendStr
import Derived.Laws.IdiomStrings
import Derived.StillTailTactics
import Derived.Deep.Cut
set_option linter.unusedVariables false
/- slices.IndexFunc and slices.DeleteFunc at Keys: one Key is taken out. -/
set_option maxRecDepth 100000
namespace Go.Proofs.Ytgdjcoodjdckkaa
open Go.RowKit Go.Proofs.PitotIp Go.Maps
open Go.Proofs.Ytgdjcoodjdckkaa.Bi (lies_lt lies_cell lies_frozen lies_alloc lies_set)

theorem intOf_nat (k : Nat) : (intOf (.int .i64 k)).toNat = k := by simp [intOf]

set_option maxHeartbeats 2000000 in
theorem index_any (w : World) (o cap c n : Nat) (k : K) (l1 l2 : List K) (hk : k ∉ l1) (h : RowK w o cap (l1 ++ k :: l2)) (hc : w.heap[c]? = some k.obj) (hn : n = (l1 ++ k :: l2).length) :
    Calls Try.prog 47 #[.slice (some ⟨o, 0, none⟩) n cap, .func (.func 45) #[] #[.pointer (some ⟨c, 0, none⟩)]] w fun e w' => e = .returned (.int .i64 l1.length) ∧ Below w.heap.size w w' := by
  have hnl : l1.length < n := by rw [hn]; simp
  have hcap : n ≤ maxLen := by obtain ⟨cur, _, _, h3, h4, _⟩ := h; omega
  unfold maxLen at hcap
  have hol := h.lt
  have hcl := lies_lt hc
  have HT : Hid (∀ (w' : World) (i : Nat), Below w.heap.size w w' → ∀ hi : i < (l1 ++ k :: l2).length, KAt w' o (i * 10) (l1 ++ k :: l2)[i]) := fun w' i hb hi => (h.below hb hol).at i hi
  have HC : Hid (∀ (w' : World) (x : K), Below w.heap.size w w' → Calls Try.prog 45 #[x.val, .pointer (some ⟨c, 0, none⟩)] w' fun e w'' => e = .returned (.bool (decide (x = k))) ∧ Below w'.heap.size w' w'') := fun w' x hb => tell_any w' c k x ((hb.block c hcl).trans hc)
  have Hn := Lib.hid hn; clear hn
  have Hk := Lib.hid hk; clear hk
  obtain ⟨p, Hp⟩ : ∃ p, Hid (p = l1.length) := ⟨_, rfl⟩
  rw [← Hp.out] at hnl ⊢
  clear h hc
  go_enter Try.func47, Try.ntmps47
  go_wp2
  go_loopw [8] (fun v8 wr => ∃ (i : Nat), i ≤ p ∧ v8 = .int .i64 i ∧ Below w.heap.size w wr) (fun v8 _ => n - (intOf v8).toNat)
  case atStart => exact ⟨0, Nat.zero_le _, rfl, Below.refl _ _⟩
  case round =>
    obtain ⟨i, hi, rfl, hb⟩ := hrel
    have hin : i < n := by omega
    have hat := HT.out wr i hb (by rw [← Hn.out]; exact hin)
    have hcall := HC.out wr (l1 ++ k :: l2)[i] hb
    have hbs := hb.size
    have he : decide ((l1 ++ k :: l2)[i]'(by rw [← Hn.out]; exact hin) = k) = decide (i = p) := by
      by_cases e : i = p
      · subst e
        rw [decide_eq_true rfl]
        simp [Hp.out]
      · have : i < l1.length := by rw [← Hp.out]; omega
        rw [List.getElem_append_left this, decide_eq_false e]
        exact decide_eq_false fun e2 => Hk.out (e2 ▸ List.getElem_mem _)
    rw [he] at hcall
    generalize (l1 ++ k :: l2)[i]'(by rw [← Hn.out]; exact hin) = x at hat hcall
    simp only [K.val] at hcall
    obtain ⟨c0, c1, c2, c3, c4, c5, c6, c7, c8, c9⟩ := hat
    have HC2 := Lib.hid hcall
    clear hcall he
    by_cases e : i = p
    · subst e
      rw [decide_eq_true rfl] at HC2
      go_wp2_with (go_at_call 45; (with_reducible refine HC2.out.mono ?_); rintro e w' ⟨rfl, hb2⟩)
      go_returns
      exact ⟨rfl, hb.trans (hb2.mono hbs)⟩
    · rw [decide_eq_false e] at HC2
      go_wp2_with (go_at_call 45; (with_reducible refine HC2.out.mono ?_); rintro e w' ⟨rfl, hb2⟩)
      go_roundw
      case rel => exact ⟨i + 1, by omega, by go_num, hb.trans (hb2.mono hbs)⟩
      case measure => simp [intOf]; omega
end Go.Proofs.Ytgdjcoodjdckkaa
/- slices.DeleteFunc at Keys: one Key is taken out. -/
set_option maxRecDepth 100000
namespace Go.Proofs.Ytgdjcoodjdckkaa
open Go.RowKit Go.Proofs.PitotIp Go.Maps
open Go.Proofs.Ytgdjcoodjdckkaa.Bi (lies_lt lies_cell lies_frozen lies_alloc lies_set)

/-- What lies in the row when m of those behind the one that is taken out have been moved. -/
def shl (l1 l2 : List K) (k : K) (m : Nat) : List K := l1 ++ l2.take m ++ (k :: l2).drop m
theorem shl_zero (l1 l2 : List K) (k : K) : shl l1 l2 k 0 = l1 ++ k :: l2 := by simp [shl]
theorem shl_length (l1 l2 : List K) (k : K) (m : Nat) (hm : m ≤ l2.length) : (shl l1 l2 k m).length = l1.length + l2.length + 1 := by simp [shl]; omega
theorem shl_at (l1 l2 : List K) (k : K) (m : Nat) (hm : m < l2.length) (h : l1.length + m + 1 < (shl l1 l2 k m).length) : (shl l1 l2 k m)[l1.length + m + 1] = l2[m] := by
  apply Option.some.inj
  rw [← List.getElem?_eq_getElem, shl, List.getElem?_append_right (by simp; omega)]
  simp only [List.length_append, List.length_take]
  rw [show l1.length + m + 1 - (l1.length + min m l2.length) = 1 by omega, List.getElem?_drop, Nat.add_comm m 1, Nat.add_comm 1 m, List.getElem?_cons_succ, List.getElem?_eq_getElem hm]
theorem drop_set {L : List K} {m : Nat} (h : m < L.length) (x : K) : (L.drop m).set 0 x = x :: L.drop (m + 1) := by
  rw [List.drop_eq_getElem_cons h]; rfl
theorem shl_set (l1 l2 : List K) (k : K) (m : Nat) (hm : m < l2.length) : (shl l1 l2 k m).set (l1.length + m) l2[m] = shl l1 l2 k (m + 1) := by
  unfold shl
  rw [List.set_append_right _ _ (by simp; omega)]
  simp only [List.length_append, List.length_take]
  rw [show l1.length + m - (l1.length + min m l2.length) = 0 by omega, drop_set (by simp; omega), List.take_succ_eq_append_getElem hm]
  simp only [List.append_assoc, List.singleton_append]
theorem shl_end (l1 l2 : List K) (k : K) : (shl l1 l2 k l2.length).take (l1.length + l2.length) = l1 ++ l2 := by
  unfold shl
  rw [List.take_length, List.take_left' (by simp)]

theorem zero52 (w : World) : (zeroValue 52).run Try.prog w = .ok (.agg #[.int .u8 0, .int .u8 0, .int .u8 0, .int .u8 0, .int .u8 0, .int .u8 0, .int .u8 0, .int .u8 0, .int .i64 0, .int .i64 0]) w := by kernel_rfl
abbrev zk : List Value := [.int .u8 0, .int .u8 0, .int .u8 0, .int .u8 0, .int .u8 0, .int .u8 0, .int .u8 0, .int .u8 0, .int .i64 0, .int .i64 0]
def kz : K := ⟨⟨0, 0, 0, 0⟩, ⟨0, 0, 0, 0⟩, 0, 0, by decide, by decide⟩
/-- 'clear' of one Key. -/
theorem clear_one (w : World) (ty : TypeId) (o b c : Nat) (ht : w.there o b 10) :
    (Builtin.clear_ #[45] ty #[.slice (some ⟨o, b, none⟩) 1 c]).run Try.prog w = .ok (.tuple #[]) (w.setCells o b zk) := by
  have hst := run_storeCells_cells (P := Try.prog) o b zk 0 w (fun j hj => by simpa using (ht j (by simpa using hj)).1) (fun j hj => by simpa using (ht j (by simpa using hj)).2) (by
    intro v hv
    simp only [zk, List.mem_cons, List.not_mem_nil, or_false] at hv
    rcases hv with rfl | rfl | rfl | rfl | rfl | rfl | rfl | rfl | rfl | rfl <;> rfl)
  simp only [Nat.add_zero] at hst
  have hz : (Builtin.zeroCells (Value.agg #[.int .u8 0, .int .u8 0, .int .u8 0, .int .u8 0, .int .u8 0, .int .u8 0, .int .u8 0, .int .u8 0, .int .i64 0, .int .i64 0]).cells 1).toList = zk := by kernel_rfl
  simp [Builtin.clear_, run_underlying Try.underlying45, hz, hst]

theorem grown_cells (o : Nat) : ∀ (vs : List Value) (b : Nat) (w : World), w.grownBy (w.setCells o b vs) (some o)
  | [], _, _ => ⟨rfl, rfl, rfl, Nat.le_refl _, fun _ _ _ => rfl⟩
  | v :: r, b, _ => Bi.grown_trans (Bi.grown_set o b v) (grown_cells o r (b + 1) _)
theorem grown_below {w w' : World} (h : Below w.heap.size w w') (r : Option Nat) : w.grownBy w' r := ⟨h.os, h.tape, h.output, h.size, fun i hi _ => h.block i hi⟩
theorem RowK.grown {w w' : World} {o cap : Nat} {ks : List K} (h : RowK w o cap ks) {r : Option Nat} (hb : w.grownBy w' r) (hr : r ≠ some o) : RowK w' o cap ks := by
  obtain ⟨cur, h1, h2⟩ := h
  exact ⟨cur, (hb.block o (lies_lt h1) (fun e => hr e.symm)).trans h1, h2⟩

set_option maxHeartbeats 4000000 in
theorem delete_any (w : World) (o cap c n : Nat) (k : K) (l1 l2 : List K) (hk1 : k ∉ l1) (hk2 : k ∉ l2) (h : RowK w o cap (l1 ++ k :: l2)) (hc : w.heap[c]? = some k.obj) (hoc : c ≠ o) (hn : n = (l1 ++ k :: l2).length) :
    Calls Try.prog 44 #[.slice (some ⟨o, 0, none⟩) n cap, .func (.func 45) #[] #[.pointer (some ⟨c, 0, none⟩)]] w fun e w' => e = .returned (.slice (some ⟨o, 0, none⟩) (l1 ++ l2).length cap) ∧ RowK w' o cap (l1 ++ l2) ∧ w.grownBy w' (some o) := by
  have hcap : n ≤ cap ∧ cap ≤ 9223372036854775807 := by obtain ⟨cur, _, _, h3, h4, _⟩ := h; unfold maxLen at h4; omega
  have hol := h.lt
  have hcl := lies_lt hc
  have HI := Lib.hid (index_any w o cap c n k l1 l2 hk1 h hc hn)
  have HH := Lib.hid h
  have HC : Hid (∀ (w' : World) (x : K), w.grownBy w' (some o) → Calls Try.prog 45 #[x.val, .pointer (some ⟨c, 0, none⟩)] w' fun e w'' => e = .returned (.bool (decide (x = k))) ∧ Below w'.heap.size w' w'') := fun w' x hb => tell_any w' c k x ((hb.block c hcl (by simpa using hoc)).trans hc)
  have Hn : Hid (n = l1.length + l2.length + 1) := by show _ = _; rw [hn]; simp; omega
  clear hn h hc
  have Hk2 := Lib.hid hk2; clear hk1 hk2
  obtain ⟨p, Hp⟩ : ∃ p, Hid (p = l1.length) := ⟨_, rfl⟩
  obtain ⟨z, Hz⟩ : ∃ z, Hid (z = l2.length) := ⟨_, rfl⟩
  obtain ⟨r, Hr⟩ : ∃ r, Hid (r = (l1 ++ l2).length) := ⟨_, rfl⟩
  rw [← Hp.out] at HI
  rw [← Hp.out, ← Hz.out] at Hn
  rw [← Hr.out]
  have hr : r + 1 = n := by rw [Hn.out, Hr.out]; simp [Hp.out, Hz.out]
  have hpn : p < n := by have := Hn.out; omega
  have hp1 : ((p : Int) == -1) = false := beq_eq_false_iff_ne.2 (by omega)
  go_enter Try.func44, Try.ntmps44
  go_wp2_with (go_at_call 47; (with_reducible refine HI.out.mono ?_); rintro e w1 ⟨rfl, hb1⟩)
  go_loopw [5, 6] (fun v5 v6 wr => ∃ (m q j : Nat), m ≤ z ∧ q = p + m ∧ j = q + 1 ∧ v5 = .int .i64 q ∧ v6 = .int .i64 j ∧ RowK wr o cap (shl l1 l2 k m) ∧ w.grownBy wr (some o)) (fun v5 _ _ => n - (intOf v5).toNat)
  case atStart => exact ⟨0, p, p + 1, Nat.zero_le _, rfl, rfl, rfl, by go_num, by rw [shl_zero]; exact HH.out.below hb1 hol, grown_below hb1 _⟩
  case round =>
    obtain ⟨m, q, j, hm, hq, hj, rfl, rfl, hrow, hg⟩ := hrel
    have hln := Hn.out
    have hlen : (shl l1 l2 k m).length = n := by rw [shl_length _ _ _ _ (by rw [← Hz.out]; exact hm), ← Hp.out, ← Hz.out]; omega
    have hgs := hg.size
    by_cases hlt : m < z
    · have hm2 : m < l2.length := by rw [← Hz.out]; exact hlt
      have hjn : j < n := by omega
      have hqn : q < n := by omega
      have hat := hrow.at j (by rw [hlen]; exact hjn)
      have hx : (shl l1 l2 k m)[j]'(by rw [hlen]; exact hjn) = l2[m] := by
        have e : j = l1.length + m + 1 := by rw [← Hp.out]; omega
        subst e
        exact shl_at l1 l2 k m hm2 _
      rw [hx] at hat
      have hcall := HC.out (wr.alloc l2[m].obj) l2[m] (Bi.grown_trans hg (Bi.grown_alloc _))
      have hne : l2[m] ≠ k := fun e => Hk2.out (e ▸ List.getElem_mem hm2)
      rw [decide_eq_false hne] at hcall
      clear hne
      have hset := shl_set l1 l2 k m hm2
      rw [← Hp.out, ← hq] at hset
      generalize l2[m] = x at hat hcall hset
      have Hset := Lib.hid hset; clear hset hx
      have Hrow := Lib.hid hrow; clear hrow
      have Hlen := Lib.hid hlen; clear hlen
      have Hg := Lib.hid hg; clear hg
      have hol2 := Hrow.out.lt
      simp only [K.val] at hcall
      obtain ⟨c0, c1, c2, c3, c4, c5, c6, c7, c8, c9⟩ := hat
      have HC2 := Lib.hid hcall
      have Hq := Lib.hid hq
      have Hj := Lib.hid hj
      have Hr1 := Lib.hid hr
      clear hcall hq hj hln hr
      go_wp2_with (first
        | (go_at_call 45; (with_reducible refine HC2.out.mono ?_); rintro e w2 ⟨rfl, hb2⟩
           (have c0 := c0; clear c0 c1 c2 c3 c4 c5 c6 c7 c8 c9)
           (obtain ⟨c0, c1, c2, c3, c4, c5, c6, c7, c8, c9⟩ := cells10 (lies_below (heap_alloc_new wr x.obj) hb2 (by simp)))
           (simp only [Nat.zero_add] at c1 c2 c3 c4 c5 c6 c7 c8 c9)
           (have Hrow2 := Lib.hid ((Hrow.out.grown (Bi.grown_alloc x.obj) (r := none) (by simp)).below hb2 (by simp; omega)))
           (have ht := Hrow2.out.there q (by rw [Hlen.out]; exact hqn))
           (have b0 := (ht 0 (by omega)).2; have b1 := (ht 1 (by omega)).2; have b2 := (ht 2 (by omega)).2; have b3 := (ht 3 (by omega)).2; have b4 := (ht 4 (by omega)).2; have b5 := (ht 5 (by omega)).2; have b6 := (ht 6 (by omega)).2; have b7 := (ht 7 (by omega)).2; have b8 := (ht 8 (by omega)).2; have b9 := (ht 9 (by omega)).2)
           (simp only [Nat.add_zero] at b0)
           (have ha := Hrow2.out.at q (by rw [Hlen.out]; exact hqn))
           (generalize (shl l1 l2 k m)[q]'(by rw [Hlen.out]; exact hqn) = y at ha)
           (obtain ⟨a0, a1, a2, a3, a4, a5, a6, a7, a8, a9⟩ := ha)
           (clear ht)))
      have hrow3 : RowK (w2.setCells o (q * 10) x.enc) o cap (shl l1 l2 k (m + 1)) := by
        rw [← Hset.out]; exact Hrow2.out.put q (by rw [Hlen.out]; exact hqn) x
      have hg3 : w.grownBy (w2.setCells o (q * 10) x.enc) (some o) := Bi.grown_trans (Bi.grown_trans (Bi.grown_trans Hg.out (Bi.grown_alloc x.obj)) (grown_below hb2 _)) (grown_cells o _ _ _)
      go_roundw
      case rel => exact ⟨m + 1, q + 1, j + 1, by omega, by rw [Hq.out]; omega, by rw [Hj.out], by go_num, by go_num, hrow3, hg3⟩
      case measure => simp [intOf]; omega
    · have hmz : m = z := by omega
      have hqr : q = r := by omega
      have hjn : ¬ (j : Int) < n := by omega
      have hjn2 : ¬ j < n := by omega
      subst hqr
      have hqn : q ≤ n := by omega
      have hqc : q ≤ cap := by omega
      have hqc2 : ¬ q = cap := by omega
      have hqc3 : ¬ cap = q := by omega
      have hqc4 : ¬ (q : Int) = cap := by omega
      have hqc5 : ¬ (cap : Int) = q := by omega
      have hqc6 : ¬ cap - q = 0 := by omega
      have hqc7 : ¬ cap ≤ q := by omega
      have ht := hrow.there q (by rw [hlen]; omega)
      have hcl : ∀ ty, (Builtin.clear_ #[45] ty #[.slice (some ⟨o, q * 10, none⟩) (n - q) (cap - q)]).run Try.prog wr = .ok (.tuple #[]) (wr.setCells o (q * 10) zk) := fun ty => by
        rw [show n - q = 1 by omega]
        exact clear_one wr ty o (q * 10) _ ht
      have hend : RowK (wr.setCells o (q * 10) zk) o cap (l1 ++ l2) ∧ w.grownBy (wr.setCells o (q * 10) zk) (some o) := by
        have e1 := (hrow.put q (by rw [hlen]; omega) kz).cut q
        have e2 : ((shl l1 l2 k m).set q kz).take q = l1 ++ l2 := by
          have e3 : q = l1.length + l2.length := by rw [← Hp.out, ← Hz.out]; omega
          rw [List.take_set_of_le (Nat.le_refl _), e3, hmz, Hz.out]
          exact shl_end l1 l2 k
        rw [e2] at e1
        exact ⟨e1, Bi.grown_trans hg (grown_cells o _ _ _)⟩
      have Hend := Lib.hid hend
      clear hend hrow hg hlen ht
      have HX := Lib.hid (And.intro hq (And.intro hj hln))
      clear hq hj hln hmz hr
      go_wp2
      go_returns
      exact ⟨rfl, Hend.out⟩
end Go.Proofs.Ytgdjcoodjdckkaa
/- The table of packets that are begun, plain: over any kind of key. -/
namespace Go.Proofs.PitotReasm
set_option linter.unusedSectionVars false
variable {κ α : Type} [DecidableEq κ]

/-- A packet that is begun: its key, when it was, and its bytes. -/
structure Bg (κ α : Type) where
  k : κ
  t0 : Int
  d : List α
/-- A table. -/
structure Tb (κ α : Type) where
  l : List (Bg κ α)
  now : Int
  dr : Nat

/-- What is there of a key. -/
def find (l : List (Bg κ α)) (k : κ) : Option (Bg κ α) := l.find? fun b => decide (b.k = k)
/-- A key is taken out. -/
def drop (l : List (Bg κ α)) (k : κ) : List (Bg κ α) := l.filter fun b => !decide (b.k = k)
/-- Bytes are put behind those of a key. -/
def more (l : List (Bg κ α)) (k : κ) (d : List α) : List (Bg κ α) := l.map fun b => if b.k = k then { b with d := b.d ++ d } else b
/-- What is not to be given up. -/
def keep (l : List (Bg κ α)) (wait n : Int) : List (Bg κ α) := l.filter fun b => decide (n - b.t0 ≤ wait)
def passed (t : Tb κ α) (wait n : Int) : Tb κ α := ⟨keep t.l wait n, n, t.dr + (t.l.length - (keep t.l wait n).length)⟩
/-- What Pass answers. -/
def passE (t : Tb κ α) (n : Int) : Int := if 1125899906842624 < n then 1 else if n < t.now then 24 else 0
/-- Is a part that is not the last one of no bytes, or not of a multiple of 8? -/
def bad (m : Bool) (d : List α) : Bool := m && (decide (d.length = 0) || decide (d.length % 8 ≠ 0))

/-- A first part: what becomes of the table (behind Pass), and the answer. -/
def first (most : Nat) (t : Tb κ α) (k : κ) (m : Bool) (d : List α) : Tb κ α × Int :=
  let t1 : Tb κ α := ⟨drop t.l k, t.now, t.dr + (t.l.length - (drop t.l k).length)⟩
  if bad m d = true then (t1, 15) else if 8200 < d.length then (t1, 11) else if most ≤ t1.l.length then (t1, 22) else (⟨t1.l ++ [⟨k, t.now, d⟩], t1.now, t1.dr⟩, 0)
/-- Another part: what becomes of the table, what is whole, the answer. -/
def next (t : Tb κ α) (k : κ) (m : Bool) (o : Int) (d : List α) : Tb κ α × Option (List α) × Int :=
  match find t.l k with
  | none => (t, none, 25)
  | some b =>
    let e : Int := if b.d.length % 8 ≠ 0 ∨ o ≠ ((b.d.length / 8 : Nat) : Int) then 25 else if bad m d = true then 15 else if 8200 < b.d.length + d.length then 11 else 0
    if e ≠ 0 then (⟨drop t.l k, t.now, t.dr + 1⟩, none, e)
    else if m = true then (⟨more t.l k d, t.now, t.dr⟩, none, 0)
    else (⟨drop t.l k, t.now, t.dr⟩, some (b.d ++ d), 0)
/-- Put. -/
def put (most : Nat) (wait : Int) (t : Tb κ α) (n : Int) (k : κ) (m : Bool) (o : Int) (d : List α) : Tb κ α × Option (List α) × Int :=
  if passE t n ≠ 0 then (t, none, passE t n)
  else if m = false ∧ o = 0 then (passed t wait n, some d, 0)
  else if o = 0 then ((first most (passed t wait n) k m d).1, none, (first most (passed t wait n) k m d).2)
  else next (passed t wait n) k m o d

/-- No key twice; each has bytes, a multiple of 8. -/
structure Fine (l : List (Bg κ α)) : Prop where
  once : (l.map (·.k)).Nodup
  eight : ∀ b ∈ l, b.d.length % 8 = 0

theorem sub_nodup {l l' : List (Bg κ α)} (h : l'.Sublist l) (hn : (l.map (·.k)).Nodup) : (l'.map (·.k)).Nodup := (h.map _).nodup hn
theorem Fine.sub {l l' : List (Bg κ α)} (h : Fine l) (hs : l'.Sublist l) : Fine l' := ⟨sub_nodup hs h.once, fun b hb => h.eight b (hs.subset hb)⟩
theorem Fine.keep {l : List (Bg κ α)} (h : Fine l) (wait n : Int) : Fine (keep l wait n) := h.sub List.filter_sublist
theorem Fine.drop {l : List (Bg κ α)} (h : Fine l) (k : κ) : Fine (drop l k) := h.sub List.filter_sublist
theorem more_keys (l : List (Bg κ α)) (k : κ) (d : List α) : (more l k d).map (·.k) = l.map (·.k) := by
  induction l with
  | nil => rfl
  | cons b r ih =>
    simp only [more, List.map_cons] at ih ⊢
    rw [ih]
    by_cases h : b.k = k <;> simp [h]
theorem Fine.more {l : List (Bg κ α)} (h : Fine l) (k : κ) (d : List α) (hd : d.length % 8 = 0) : Fine (more l k d) := by
  refine ⟨by rw [more_keys]; exact h.once, fun b hb => ?_⟩
  simp only [PitotReasm.more, List.mem_map] at hb
  obtain ⟨c, hc, rfl⟩ := hb
  have := h.eight c hc
  split
  · simp; omega
  · exact this

theorem find_some {l : List (Bg κ α)} {k : κ} {b : Bg κ α} (h : find l k = some b) : b.k = k ∧ b ∈ l := ⟨by simpa using List.find?_some h, List.mem_of_find?_eq_some h⟩
theorem find_none {l : List (Bg κ α)} {k : κ} (h : find l k = none) : ∀ b ∈ l, b.k ≠ k := fun b hb e => by
  have := List.find?_eq_none.1 h b hb
  simp [e] at this
theorem find_cons (c : Bg κ α) (r : List (Bg κ α)) (k : κ) : find (c :: r) k = if c.k = k then some c else find r k := by
  unfold find
  by_cases h : c.k = k
  · rw [List.find?_cons_of_pos (by simpa using h), if_pos h]
  · rw [List.find?_cons_of_neg (by simpa using h), if_neg h]
theorem drop_cons (c : Bg κ α) (r : List (Bg κ α)) (k : κ) : drop (c :: r) k = if c.k = k then drop r k else c :: drop r k := by
  unfold drop
  by_cases h : c.k = k
  · rw [List.filter_cons_of_neg (by simpa using h), if_pos h]
  · rw [List.filter_cons_of_pos (by simpa using h), if_neg h]
theorem keep_cons (c : Bg κ α) (r : List (Bg κ α)) (wait n : Int) : keep (c :: r) wait n = if n - c.t0 ≤ wait then c :: keep r wait n else keep r wait n := by
  unfold keep
  by_cases h : n - c.t0 ≤ wait
  · rw [List.filter_cons_of_pos (by simpa using h), if_pos h]
  · rw [List.filter_cons_of_neg (by simpa using h), if_neg h]
theorem more_cons (c : Bg κ α) (r : List (Bg κ α)) (k : κ) (d : List α) : more (c :: r) k d = (if c.k = k then { c with d := c.d ++ d } else c) :: more r k d := rfl

theorem find_drop_self (l : List (Bg κ α)) (k : κ) : find (drop l k) k = none := by
  rw [find, List.find?_eq_none]
  intro b hb
  simp only [drop, List.mem_filter] at hb
  simpa using hb.2
theorem find_drop_other (l : List (Bg κ α)) {k k' : κ} (h : k' ≠ k) : find (drop l k') k = find l k := by
  induction l with
  | nil => rfl
  | cons b r ih =>
    rw [drop_cons, find_cons]
    by_cases h1 : b.k = k'
    · rw [if_pos h1, if_neg (fun e => h (h1.symm.trans e))]; exact ih
    · rw [if_neg h1, find_cons, ih]
theorem find_more_self {l : List (Bg κ α)} {k : κ} {b : Bg κ α} (h : find l k = some b) (d : List α) : find (more l k d) k = some { b with d := b.d ++ d } := by
  induction l with
  | nil => simp [find] at h
  | cons c r ih =>
    rw [find_cons] at h
    rw [more_cons, find_cons]
    by_cases h1 : c.k = k
    · rw [if_pos h1] at h
      cases h
      simp [h1]
    · rw [if_neg h1] at h ⊢
      rw [if_neg h1]
      exact ih h
theorem find_more_other (l : List (Bg κ α)) {k k' : κ} (h : k' ≠ k) (d : List α) : find (more l k' d) k = find l k := by
  induction l with
  | nil => rfl
  | cons c r ih =>
    rw [more_cons, find_cons, find_cons, ih]
    by_cases h1 : c.k = k'
    · have h2 : ¬ c.k = k := fun e => h (h1.symm.trans e)
      rw [if_pos h1, if_neg h2, if_neg h2]
    · rw [if_neg h1]
theorem find_snoc (l : List (Bg κ α)) (k : κ) (b : Bg κ α) : find (l ++ [b]) k = (find l k).or (if b.k = k then some b else none) := by
  unfold find
  rw [List.find?_append]
  congr 1
  by_cases h : b.k = k <;> simp [h]
theorem find_keep {l : List (Bg κ α)} {k : κ} {b : Bg κ α} (h : find l k = some b) {wait n : Int} (hw : n - b.t0 ≤ wait) : find (keep l wait n) k = some b := by
  induction l with
  | nil => simp [find] at h
  | cons c r ih =>
    rw [find_cons] at h
    rw [keep_cons]
    by_cases h1 : c.k = k
    · rw [if_pos h1] at h
      cases h
      rw [if_pos hw, find_cons, if_pos h1]
    · rw [if_neg h1] at h
      split
      · rw [find_cons, if_neg h1]; exact ih h
      · exact ih h
theorem keep_all {l : List (Bg κ α)} {wait n : Int} (h : ∀ b ∈ l, n - b.t0 ≤ wait) : keep l wait n = l := List.filter_eq_self.2 fun b hb => decide_eq_true (h b hb)
theorem drop_length_le (l : List (Bg κ α)) (k : κ) : (drop l k).length ≤ l.length := List.length_filter_le _ _
theorem drop_none {l : List (Bg κ α)} {k : κ} (h : find l k = none) : drop l k = l := List.filter_eq_self.2 fun b hb => by simpa using find_none h b hb
theorem drop_one {l : List (Bg κ α)} (hf : (l.map (·.k)).Nodup) {k : κ} {b : Bg κ α} (h : find l k = some b) : (drop l k).length + 1 = l.length := by
  induction l with
  | nil => simp [find] at h
  | cons c r ih =>
    simp only [List.map_cons, List.nodup_cons, List.mem_map, not_exists, not_and] at hf
    rw [find_cons] at h
    rw [drop_cons]
    by_cases h1 : c.k = k
    · have : find r k = none := by
        rw [find, List.find?_eq_none]
        intro b hb
        simpa [h1] using hf.1 b hb
      rw [if_pos h1, drop_none this]; rfl
    · rw [if_neg h1] at h ⊢
      have := ih hf.2 h
      simp only [List.length_cons]
      omega

theorem first_cases (most : Nat) (t : Tb κ α) (k : κ) (m : Bool) (d : List α) : (first most t k m d).1.l = drop t.l k ∨ ((first most t k m d).1.l = drop t.l k ++ [⟨k, t.now, d⟩] ∧ bad m d = false) := by
  unfold first
  by_cases h1 : bad m d = true
  · rw [if_pos h1]; exact .inl rfl
  · rw [if_neg h1]
    by_cases h2 : 8200 < d.length
    · rw [if_pos h2]; exact .inl rfl
    · rw [if_neg h2]
      by_cases h3 : most ≤ (drop t.l k).length
      · rw [if_pos h3]; exact .inl rfl
      · rw [if_neg h3]; exact .inr ⟨rfl, by simpa using h1⟩
theorem next_cases (t : Tb κ α) (k : κ) (m : Bool) (o : Int) (d : List α) : (next t k m o d).1.l = t.l ∨ (next t k m o d).1.l = drop t.l k ∨ ((next t k m o d).1.l = more t.l k d ∧ m = true ∧ bad m d = false) := by
  unfold next
  cases find t.l k with
  | none => exact .inl rfl
  | some b =>
    simp only
    by_cases h1 : b.d.length % 8 ≠ 0 ∨ o ≠ ((b.d.length / 8 : Nat) : Int)
    · rw [if_pos h1, if_pos (by omega)]; exact .inr (.inl rfl)
    · rw [if_neg h1]
      by_cases h2 : bad m d = true
      · rw [if_pos h2, if_pos (by omega)]; exact .inr (.inl rfl)
      · rw [if_neg h2]
        by_cases h3 : 8200 < b.d.length + d.length
        · rw [if_pos h3, if_pos (by omega)]; exact .inr (.inl rfl)
        · rw [if_neg h3, if_neg (by omega)]
          by_cases h4 : m = true
          · rw [if_pos h4]; exact .inr (.inr ⟨rfl, h4, by simpa using h2⟩)
          · rw [if_neg h4]; exact .inr (.inl rfl)
/-- What a Put does to the list. -/
theorem put_cases (most : Nat) (wait : Int) (t : Tb κ α) (n : Int) (k : κ) (m : Bool) (o : Int) (d : List α) :
    (put most wait t n k m o d).1.l = t.l ∨ (put most wait t n k m o d).1.l = keep t.l wait n ∨ (put most wait t n k m o d).1.l = drop (keep t.l wait n) k ∨ ((put most wait t n k m o d).1.l = drop (keep t.l wait n) k ++ [⟨k, n, d⟩] ∧ m = true ∧ bad m d = false) ∨ ((put most wait t n k m o d).1.l = more (keep t.l wait n) k d ∧ m = true ∧ bad m d = false) := by
  unfold put
  by_cases h1 : passE t n ≠ 0
  · rw [if_pos h1]; exact .inl rfl
  · rw [if_neg h1]
    by_cases h2 : m = false ∧ o = 0
    · rw [if_pos h2]; exact .inr (.inl rfl)
    · rw [if_neg h2]
      by_cases h3 : o = 0
      · rw [if_pos h3]
        have hm : m = true := by cases m; exact absurd ⟨rfl, h3⟩ h2; rfl
        rcases first_cases most (passed t wait n) k m d with h | ⟨h, hb⟩
        · exact .inr (.inr (.inl h))
        · exact .inr (.inr (.inr (.inl ⟨h, hm, hb⟩)))
      · rw [if_neg h3]
        rcases next_cases (passed t wait n) k m o d with h | h | ⟨h, hm, hb⟩
        · exact .inr (.inl h)
        · exact .inr (.inr (.inl h))
        · exact .inr (.inr (.inr (.inr ⟨h, hm, hb⟩)))
theorem put_len (most : Nat) (wait : Int) (t : Tb κ α) (n : Int) (k : κ) (m : Bool) (o : Int) (d : List α) : (put most wait t n k m o d).1.l.length ≤ t.l.length + 1 := by
  have hk : (keep t.l wait n).length ≤ t.l.length := List.length_filter_le _ _
  have hd := drop_length_le (keep t.l wait n) k
  rcases put_cases most wait t n k m o d with h | h | h | ⟨h, _, _⟩ | ⟨h, _, _⟩ <;> rw [h]
  · omega
  · omega
  · omega
  · simp; omega
  · simp [more]; omega
/-- What comes of another key turns nothing of this one. -/
theorem put_other {most : Nat} {wait : Int} {t : Tb κ α} {n : Int} {k k' : κ} (h : k' ≠ k) (m : Bool) (o : Int) (d : List α) {b : Bg κ α} (hb : find t.l k = some b) (hw : n - b.t0 ≤ wait) :
    find (put most wait t n k' m o d).1.l k = some b := by
  have hk := find_keep hb hw
  have hd : find (drop (keep t.l wait n) k') k = some b := by rw [find_drop_other _ h]; exact hk
  rcases put_cases most wait t n k' m o d with e | e | e | ⟨e, _, _⟩ | ⟨e, _, _⟩ <;> rw [e]
  · exact hb
  · exact hk
  · exact hd
  · rw [find_snoc, hd]; rfl
  · rw [find_more_other _ h]; exact hk
theorem bad_eight {d : List α} (h : bad true d = false) : d.length % 8 = 0 ∧ d.length ≠ 0 := by
  simp [bad] at h
  refine ⟨h.2, fun e => h.1 ?_⟩
  exact List.length_eq_zero_iff.1 e
theorem put_fine {most : Nat} {wait : Int} {t : Tb κ α} (hf : Fine t.l) (n : Int) (k : κ) (m : Bool) (o : Int) (d : List α) : Fine (put most wait t n k m o d).1.l := by
  have hk := hf.keep wait n
  rcases put_cases most wait t n k m o d with e | e | e | ⟨e, hm, hb⟩ | ⟨e, hm, hb⟩ <;> rw [e]
  · exact hf
  · exact hk
  · exact hk.drop k
  · subst hm
    refine ⟨?_, fun b hb' => ?_⟩
    · simp only [List.map_append, List.map_cons, List.map_nil]
      rw [List.nodup_append]
      refine ⟨(hk.drop k).once, by simp, fun a ha b hb => ?_⟩
      simp only [List.mem_singleton] at hb
      subst hb
      simp only [List.mem_map] at ha
      obtain ⟨c, hc, rfl⟩ := ha
      exact find_none (find_drop_self _ _) c hc
    · simp only [List.mem_append, List.mem_singleton] at hb'
      rcases hb' with hb' | rfl
      · exact (hk.drop k).eight b hb'
      · exact (bad_eight hb).1
  · subst hm
    exact hk.more k d (bad_eight hb).1

/-- A packet that is no part comes out at once, and turns nothing that is not to be given up. -/
theorem put_alone (most : Nat) {wait : Int} {t : Tb κ α} {n : Int} (k : κ) (d : List α) (hp : passE t n = 0) (hw : ∀ b ∈ t.l, n - b.t0 ≤ wait) : put most wait t n k false 0 d = (⟨t.l, n, t.dr⟩, some d, 0) := by
  unfold put
  rw [if_neg (by omega), if_pos ⟨rfl, rfl⟩]
  simp [passed, keep_all hw]
theorem first_ok {most : Nat} {t : Tb κ α} {k : κ} {d : List α} (hn : find t.l k = none) (hb : bad true d = false) (hl : d.length ≤ 8200) (hr : t.l.length < most) : first most t k true d = (⟨t.l ++ [⟨k, t.now, d⟩], t.now, t.dr⟩, 0) := by
  unfold first
  rw [if_neg (by rw [hb]; simp), if_neg (by omega), if_neg (by simp only [drop_none hn]; omega)]
  simp [drop_none hn]
/-- A first part of a key of which none is begun, where there is room. -/
theorem put_first {most : Nat} {wait : Int} {t : Tb κ α} {n : Int} {k : κ} {d : List α} (hp : passE t n = 0) (hn : find (keep t.l wait n) k = none) (hb : bad true d = false) (hl : d.length ≤ 8200) (hr : (keep t.l wait n).length < most) :
    (put most wait t n k true 0 d).2 = (none, 0) ∧ find (put most wait t n k true 0 d).1.l k = some ⟨k, n, d⟩ ∧ (put most wait t n k true 0 d).1.now = n := by
  unfold put
  rw [if_neg (by omega), if_neg (by simp), if_pos rfl]
  rw [first_ok (t := passed t wait n) hn hb hl hr]
  refine ⟨rfl, ?_, rfl⟩
  simp only [find_snoc]
  rw [show find (passed t wait n).l k = none from hn]
  simp [passed]
theorem next_more {t : Tb κ α} {k : κ} {b : Bg κ α} {d : List α} {o : Int} (hf : find t.l k = some b) (h8 : b.d.length % 8 = 0) (ho : o = ((b.d.length / 8 : Nat) : Int)) (hb : bad true d = false) (hl : b.d.length + d.length ≤ 8200) : next t k true o d = (⟨more t.l k d, t.now, t.dr⟩, none, 0) := by
  unfold next
  rw [hf]
  simp only
  have h1 : ¬ (b.d.length % 8 ≠ 0 ∨ o ≠ ((b.d.length / 8 : Nat) : Int)) := by omega
  have h2 : ¬ bad true d = true := by rw [hb]; simp
  have h3 : ¬ 8200 < b.d.length + d.length := by omega
  rw [if_neg h1, if_neg h2, if_neg h3]
  rfl
theorem next_last {t : Tb κ α} {k : κ} {b : Bg κ α} {d : List α} {o : Int} (hf : find t.l k = some b) (h8 : b.d.length % 8 = 0) (ho : o = ((b.d.length / 8 : Nat) : Int)) (hl : b.d.length + d.length ≤ 8200) : next t k false o d = (⟨drop t.l k, t.now, t.dr⟩, some (b.d ++ d), 0) := by
  unfold next
  rw [hf]
  simp only
  have h1 : ¬ (b.d.length % 8 ≠ 0 ∨ o ≠ ((b.d.length / 8 : Nat) : Int)) := by omega
  have h2 : ¬ bad false d = true := by simp [bad]
  have h3 : ¬ 8200 < b.d.length + d.length := by omega
  rw [if_neg h1, if_neg h2, if_neg h3]
  rfl
/-- A part that comes next, behind which others come. -/
theorem put_more {most : Nat} {wait : Int} {t : Tb κ α} {n : Int} {k : κ} {b : Bg κ α} {d : List α} {o : Int} (hp : passE t n = 0) (hf : find t.l k = some b) (hw : n - b.t0 ≤ wait) (h8 : b.d.length % 8 = 0) (ho : o = ((b.d.length / 8 : Nat) : Int)) (ho0 : o ≠ 0) (hb : bad true d = false) (hl : b.d.length + d.length ≤ 8200) :
    (put most wait t n k true o d).2 = (none, 0) ∧ find (put most wait t n k true o d).1.l k = some { b with d := b.d ++ d } ∧ (put most wait t n k true o d).1.now = n := by
  have hk := find_keep hf hw
  unfold put
  rw [if_neg (by omega), if_neg (by simp), if_neg ho0]
  rw [next_more (t := passed t wait n) hk h8 ho hb hl]
  exact ⟨rfl, find_more_self hk d, rfl⟩
/-- The last part. -/
theorem put_last {most : Nat} {wait : Int} {t : Tb κ α} {n : Int} {k : κ} {b : Bg κ α} {d : List α} {o : Int} (hp : passE t n = 0) (hf : find t.l k = some b) (hw : n - b.t0 ≤ wait) (h8 : b.d.length % 8 = 0) (ho : o = ((b.d.length / 8 : Nat) : Int)) (ho0 : o ≠ 0) (hl : b.d.length + d.length ≤ 8200) :
    (put most wait t n k false o d).2 = (some (b.d ++ d), 0) ∧ (put most wait t n k false o d).1 = ⟨drop (keep t.l wait n) k, n, (passed t wait n).dr⟩ := by
  have hk := find_keep hf hw
  unfold put
  rw [if_neg (by omega), if_neg (by simp [ho0]), if_neg ho0]
  rw [next_last (t := passed t wait n) hk h8 ho hl]
  exact ⟨rfl, rfl⟩
/-- A part that is not the first, of a key of which none is begun. -/
theorem put_none {most : Nat} {wait : Int} {t : Tb κ α} {n : Int} {k : κ} {m : Bool} {d : List α} {o : Int} (hp : passE t n = 0) (hf : find (keep t.l wait n) k = none) (ho0 : o ≠ 0) : put most wait t n k m o d = (passed t wait n, none, 25) := by
  unfold put
  rw [if_neg (by omega), if_neg (by simp [ho0]), if_neg ho0]
  simp only [next, passed, hf]

/-- A part that came. -/
structure Pt (κ α : Type) where
  k : κ
  m : Bool
  o : Int
  d : List α
/-- The parts of a key since the last first one; the newest one stands first in the list that is looked through. -/
def own : List (Pt κ α) → κ → List (Pt κ α)
  | [], _ => []
  | p :: r, K => if p.k = K ∧ ¬ (p.o = 0 ∧ p.m = false) then (if p.o = 0 then [p] else own r K ++ [p]) else own r K
/-- Parts that stand one behind the other, all with others behind them. -/
structure Chain (ps : List (Pt κ α)) (b : List α) : Prop where
  some : ps ≠ []
  each : ∀ p ∈ ps, p.m = true ∧ p.d.length % 8 = 0 ∧ p.d.length ≠ 0
  cat : ps.flatMap (·.d) = b
  off : ∀ i (h : i < ps.length), ps[i].o = ((((ps.take i).flatMap (·.d)).length / 8 : Nat) : Int)
theorem Chain.one {p : Pt κ α} (hm : p.m = true) (ho : p.o = 0) (hb : bad true p.d = false) : Chain [p] p.d := by
  have h8 := bad_eight hb
  refine ⟨by simp, fun q hq => ?_, by simp, fun i h => ?_⟩
  · simp only [List.mem_singleton] at hq; subst hq; exact ⟨hm, h8⟩
  · have : i = 0 := by simpa using h
    subst this
    simpa using ho
theorem Chain.snoc {ps : List (Pt κ α)} {b : List α} (h : Chain ps b) {p : Pt κ α} (hm : p.m = true) (ho : p.o = ((b.length / 8 : Nat) : Int)) (hb : bad true p.d = false) : Chain (ps ++ [p]) (b ++ p.d) := by
  have h8 := bad_eight hb
  refine ⟨by simp, fun q hq => ?_, by simp [h.cat], fun i hi => ?_⟩
  · simp only [List.mem_append, List.mem_singleton] at hq
    rcases hq with hq | rfl
    · exact h.each q hq
    · exact ⟨hm, h8⟩
  · by_cases hlt : i < ps.length
    · rw [List.getElem_append_left hlt, List.take_append_of_le_length (Nat.le_of_lt hlt)]
      exact h.off i hlt
    · have : i = ps.length := by simp at hi; omega
      subst this
      rw [List.getElem_append_right (Nat.le_refl _), List.take_append_of_le_length (Nat.le_refl _), List.take_length, h.cat]
      simpa using ho
/-- What is begun is what came of its key since its first part. -/
def Inv (r : List (Pt κ α)) (t : Tb κ α) : Prop := ∀ K b, find t.l K = Option.some b → Chain (own r K) b.d

theorem inv_nil (t : Tb κ α) (h : t.l = []) : Inv [] t := fun K b hb => by rw [h] at hb; simp [find] at hb
theorem own_other {p : Pt κ α} {r : List (Pt κ α)} {K : κ} (h : p.k ≠ K) : own (p :: r) K = own r K := by rw [own, if_neg (fun e => h e.1)]
theorem own_whole {p : Pt κ α} {r : List (Pt κ α)} {K : κ} (ho : p.o = 0) (hm : p.m = false) : own (p :: r) K = own r K := by rw [own, if_neg (fun e => e.2 ⟨ho, hm⟩)]
theorem own_first {p : Pt κ α} {r : List (Pt κ α)} (ho : p.o = 0) (hm : p.m = true) : own (p :: r) p.k = [p] := by rw [own, if_pos ⟨rfl, by simp [hm]⟩, if_pos ho]
theorem own_next {p : Pt κ α} {r : List (Pt κ α)} (ho : p.o ≠ 0) : own (p :: r) p.k = own r p.k ++ [p] := by rw [own, if_pos ⟨rfl, fun e => ho e.1⟩, if_neg ho]

theorem find_some_drop {l : List (Bg κ α)} {k : κ} {b : Bg κ α} (h : find (drop l k) k = Option.some b) : False := by rw [find_drop_self] at h; cases h

theorem inv_step {most : Nat} {wait : Int} {t : Tb κ α} {n : Int} {r : List (Pt κ α)} (hi : Inv r t) (hw : ∀ b ∈ t.l, n - b.t0 ≤ wait) (p : Pt κ α) (hp : passE t n = 0) : Inv (p :: r) (put most wait t n p.k p.m p.o p.d).1 := by
  have hk := keep_all hw
  intro K b hb
  by_cases hK : p.k = K
  · subst hK
    unfold put at hb
    rw [if_neg (by omega)] at hb
    by_cases h2 : p.m = false ∧ p.o = 0
    · rw [if_pos h2] at hb
      rw [own_whole h2.2 h2.1]
      exact hi _ _ (by simpa [passed, hk] using hb)
    · rw [if_neg h2] at hb
      by_cases h3 : p.o = 0
      · rw [if_pos h3] at hb
        have hm : p.m = true := by cases hm : p.m; exact absurd ⟨hm, h3⟩ h2; rfl
        rcases first_cases most (passed t wait n) p.k p.m p.d with e | ⟨e, hbad⟩
        · simp only [e] at hb; exact (find_some_drop hb).elim
        · simp only [e] at hb
          rw [find_snoc, find_drop_self] at hb
          simp at hb
          subst hb
          rw [hm] at hbad
          rw [own_first h3 hm]
          exact Chain.one hm h3 hbad
      · rw [if_neg h3] at hb
        have hl : (passed t wait n).l = t.l := hk
        unfold next at hb
        rw [hl] at hb
        cases hf : find t.l p.k with
        | none => rw [hf] at hb; simp only at hb; rw [hl, hf] at hb; cases hb
        | some c =>
          rw [hf] at hb
          simp only at hb
          by_cases g1 : c.d.length % 8 ≠ 0 ∨ p.o ≠ ((c.d.length / 8 : Nat) : Int)
          · rw [if_pos g1, if_pos (by omega)] at hb; exact (find_some_drop hb).elim
          · rw [if_neg g1] at hb
            by_cases g2 : bad p.m p.d = true
            · rw [if_pos g2, if_pos (by omega)] at hb; exact (find_some_drop hb).elim
            · rw [if_neg g2] at hb
              by_cases g3 : 8200 < c.d.length + p.d.length
              · rw [if_pos g3, if_pos (by omega)] at hb; exact (find_some_drop hb).elim
              · rw [if_neg g3, if_neg (by omega)] at hb
                by_cases g4 : p.m = true
                · rw [if_pos g4] at hb
                  simp only [find_more_self hf] at hb
                  cases hb
                  rw [own_next h3]
                  rw [g4] at g2
                  exact (hi _ _ hf).snoc g4 (by omega) (by simpa using g2)
                · rw [if_neg g4] at hb; exact (find_some_drop hb).elim
  · rw [own_other hK]
    refine hi K b ?_
    have hd : ∀ l : List (Bg κ α), find (drop l p.k) K = find l K := fun l => find_drop_other l hK
    rcases put_cases most wait t n p.k p.m p.o p.d with e | e | e | ⟨e, _, _⟩ | ⟨e, _, _⟩ <;> rw [e] at hb
    · exact hb
    · rwa [hk] at hb
    · rwa [hd, hk] at hb
    · rw [find_snoc, hd, hk] at hb
      simp only [hK, if_false, Option.or_none] at hb
      exact hb
    · rwa [find_more_other _ hK, hk] at hb

/-- What comes out whole: a packet that is no part, or what was begun and this part. -/
theorem out_cases {most : Nat} {wait : Int} {t : Tb κ α} {n : Int} {r : List (Pt κ α)} (hi : Inv r t) (hw : ∀ b ∈ t.l, n - b.t0 ≤ wait) (p : Pt κ α) {x : List α} (h : (put most wait t n p.k p.m p.o p.d).2.1 = Option.some x) :
    p.m = false ∧ ((p.o = 0 ∧ x = p.d) ∨ (p.o ≠ 0 ∧ ∃ b, Chain (own r p.k) b ∧ b.length % 8 = 0 ∧ p.o = ((b.length / 8 : Nat) : Int) ∧ x = b ++ p.d ∧ b.length + p.d.length ≤ 8200)) := by
  have hk := keep_all hw
  unfold put at h
  by_cases h1 : passE t n ≠ 0
  · rw [if_pos h1] at h; cases h
  · rw [if_neg h1] at h
    by_cases h2 : p.m = false ∧ p.o = 0
    · rw [if_pos h2] at h; cases h; exact ⟨h2.1, .inl ⟨h2.2, rfl⟩⟩
    · rw [if_neg h2] at h
      by_cases h3 : p.o = 0
      · rw [if_pos h3] at h; cases h
      · rw [if_neg h3] at h
        have hl : (passed t wait n).l = t.l := hk
        unfold next at h
        rw [hl] at h
        cases hf : find t.l p.k with
        | none => rw [hf] at h; cases h
        | some c =>
          rw [hf] at h
          simp only at h
          by_cases g1 : c.d.length % 8 ≠ 0 ∨ p.o ≠ ((c.d.length / 8 : Nat) : Int)
          · rw [if_pos g1, if_pos (by omega)] at h; cases h
          · rw [if_neg g1] at h
            by_cases g2 : bad p.m p.d = true
            · rw [if_pos g2, if_pos (by omega)] at h; cases h
            · rw [if_neg g2] at h
              by_cases g3 : 8200 < c.d.length + p.d.length
              · rw [if_pos g3, if_pos (by omega)] at h; cases h
              · rw [if_neg g3, if_neg (by omega)] at h
                by_cases g4 : p.m = true
                · rw [if_pos g4] at h; cases h
                · rw [if_neg g4] at h
                  cases h
                  exact ⟨by simpa using g4, .inr ⟨h3, c.d, hi _ _ hf, by omega, by omega, rfl, by omega⟩⟩
end Go.Proofs.PitotReasm
/- Bytes in memory that a table owns: they are made of a string, a string is put behind them, they are read as a string. -/
set_option maxRecDepth 100000
namespace Go.Proofs.Ytgdjcoodjdckkaa
open Go.RowKit Go.Proofs.PitotIp Go.Maps
open Go.Proofs.Ytgdjcoodjdckkaa.Bi (lies_lt lies_cell lies_frozen lies_alloc lies_set)

abbrev bv (b : UInt8) : Value := .int .u8 b.toNat
/-- Bytes that lie in a block of their own; none of its cells is frozen. -/
def BytesAt (base : Nat) (w : World) (v : Value) (l : List UInt8) : Prop :=
  ∃ g cap cur fz, v = .slice (some ⟨g, 0, none⟩) l.length cap ∧ base ≤ g ∧ w.heap[g]? = some (.cells cur 5 fz) ∧ (fz.2 = 0 ∨ cur.size ≤ fz.1) ∧ l.length ≤ cap ∧ cap ≤ maxLen ∧ cur.size = cap ∧ cur.toList.take l.length = l.map bv
theorem BytesAt.kept {base : Nat} {w w' : World} {v : Value} {l : List UInt8} (h : BytesAt base w v l) {r : Option Nat} (hg : w.grownBy w' r) (hr : v.ownBlock ≠ r) : BytesAt base w' v l := by
  obtain ⟨g, cap, cur, fz, rfl, h1, h2, h3⟩ := h
  exact ⟨g, cap, cur, fz, rfl, h1, (hg.block g (Array.getElem?_eq_some_iff.1 h2).1 (by simpa [Value.ownBlock] using hr)).trans h2, h3⟩
theorem BytesAt.block {base : Nat} {w : World} {v : Value} {l : List UInt8} (h : BytesAt base w v l) : ∃ g cur fz, v.ownBlock = some g ∧ base ≤ g ∧ w.heap[g]? = some (.cells cur 5 fz) := by
  obtain ⟨g, cap, cur, fz, rfl, h1, h2, h3⟩ := h
  exact ⟨g, cur, fz, rfl, h1, h2⟩
theorem BytesAt.of_block {base : Nat} {w w' : World} {v : Value} {l : List UInt8} (h : BytesAt base w v l) (hb : ∀ g cur fz, v.ownBlock = some g → w.heap[g]? = some (.cells cur 5 fz) → w'.heap[g]? = some (.cells cur 5 fz)) : BytesAt base w' v l := by
  obtain ⟨g, cap, cur, fz, rfl, h1, h2, h3⟩ := h
  exact ⟨g, cap, cur, fz, rfl, h1, hb g cur fz rfl h2, h3⟩
theorem BytesAt.form {base : Nat} {w : World} {v : Value} {l : List UInt8} (h : BytesAt base w v l) : ∃ g cap, v = .slice (some ⟨g, 0, none⟩) l.length cap ∧ base ≤ g ∧ l.length ≤ cap ∧ g < w.heap.size := by
  obtain ⟨g, cap, cur, fz, rfl, h1, h2, h3, h4, _⟩ := h
  exact ⟨g, cap, rfl, h1, h4, (Array.getElem?_eq_some_iff.1 h2).1⟩

/-- []byte(s). -/
theorem bytes_made (base : Nat) (w : World) (s : ByteArray) (hb : base ≤ w.heap.size) (hs : s.size ≤ maxLen) :
    ∃ v w', (convert 9 71 (.string s)).run Try.prog w = .ok v w' ∧ BytesAt base w' v s.data.toList ∧ v.ownBlock = some w.heap.size ∧ Below w.heap.size w w' := by
  refine ⟨_, _, run_bytes_of_string (P := Try.prog) w 9 71 5 s Try.underlying9 Try.underlying71 Try.underlying5, ?_, rfl, (Below.refl _ w).drew.alloc (Nat.le_refl _) _⟩
  have hge := grownCap_ge w s.size 0 5
  have hl : s.data.toList.length = s.size := by rw [Array.length_toList]; rfl
  have hsz : (bytesRow s (grownCap w s.size 0 5)).size = grownCap w s.size 0 5 := by
    have : s.data.size = s.size := rfl
    simp only [bytesRow, Array.size_append, Array.size_map, Array.size_replicate]
    omega
  refine ⟨w.heap.size, grownCap w s.size 0 5, bytesRow s (grownCap w s.size 0 5), _, by rw [hl], hb, heap_alloc_new w.drew _, .inr (Nat.le_refl _), by rw [hl]; exact hge, grownCap_le_maxLen w _ 0 5 hs, hsz, ?_⟩
  simp only [bytesRow, Array.toList_append, Array.toList_map]
  rw [List.take_left' (by simp)]

theorem setRow_grown (w : World) (g : Nat) (cs : Array Value) : w.grownBy (w.setRow g cs) (some g) :=
  ⟨rfl, rfl, rfl, by simp [World.setRow], fun k _ hk => setRow_other w g k _ (fun e => hk (by rw [e]))⟩
theorem heap_setCellsF : ∀ (vs : List Value) (o : Nat) (w : World) (b : Nat) (cur : Array Value) (t : TypeId) (fz : Nat × Nat), w.heap[b]? = some (.cells cur t fz) → (w.setCells b o vs).heap[b]? = some (.cells (Lib.lay cur o vs) t fz)
  | [], _, _, _, _, _, _, h => h
  | v :: r, o, w, b, cur, t, fz, h => by
    rw [World.setCells]
    refine heap_setCellsF r (o + 1) _ b _ t fz ?_
    rw [setCell_eq_setRow w b o cur t fz v h]
    exact setRow_heap w b cur _ t fz h

/-- append(b, s...). -/
theorem bytes_more {base : Nat} {w : World} {v : Value} {l : List UInt8} (h : BytesAt base w v l) (s : ByteArray) (ty : TypeId) (hb : base ≤ w.heap.size) (hs : l.length + s.size ≤ 1000000) :
    ∃ v' w', (Builtin.append_ #[71, 9] ty #[v, .string s]).run Try.prog w = .ok v' w' ∧ BytesAt base w' v' (l ++ s.data.toList) ∧ BytesAt base w' v l ∧ w.grownBy w' v.ownBlock ∧ (v'.ownBlock = v.ownBlock ∨ v'.ownBlock = some w.heap.size) := by
  obtain ⟨i, hi, hz0, hz1, hz2⟩ := info_parts (show (Try.prog.info? 5).map (fun i => (i.zero, i.size, i.bytes)) = some (some (.int .u8 0), 1, 1) by kernel_rfl)
  obtain ⟨g, cap, cur, fz, rfl, h1, h2, h3, h4, h5, h6, h7⟩ := h
  have hsl : s.data.toList.length = s.size := by rw [Array.length_toList]; rfl
  have hf := Lib.run_firstCells_string (P := Try.prog) w 1 s
  by_cases hroom : l.length + s.size ≤ cap
  · have hfr : ∀ j, w.frozen? ⟨g, l.length + j, none⟩ = false ∨ ¬ j < s.size := fun j => by
      by_cases hj : j < s.size
      · left
        obtain ⟨lo, hi'⟩ := fz
        simp only [World.frozen?, h2, Bool.and_eq_false_iff, decide_eq_false_iff_not]
        rcases h3 with h3 | h3
        · right; simp only at h3; omega
        · left; simp only at h3; omega
      · exact .inr hj
    have hst := run_storeCells_cells (P := Try.prog) g l.length (Lib.strCells s) 0 w (fun j hj => by
        rw [Lib.strCells_length] at hj
        simp only [World.cell?, h2, Nat.add_zero]
        rw [Array.getElem?_eq_getElem (by omega)]
        rfl) (fun j hj => by
        rw [Lib.strCells_length] at hj
        rcases hfr j with h | h
        · simpa using h
        · exact absurd hj h) (Lib.strCells_oneCell s)
    simp only [Nat.add_zero] at hst
    refine ⟨.slice (some ⟨g, 0, none⟩) (l.length + s.size) cap, w.setCells g l.length (Lib.strCells s), ?_, ?_, ?_, grown_cells g _ _ _, .inl rfl⟩
    · simp [Builtin.append_, run_underlying Try.underlying71, run_underlying Try.underlying9, sizeOf, typeInfo, hi, hz1, Builtin.lenOf, hroom, hf, Addr.add_lit, hst]
    · refine ⟨g, cap, _, fz, by rw [List.length_append, hsl], h1, heap_setCellsF _ _ _ _ _ _ _ h2, by rw [Lib.lay_size]; exact h3, by rw [List.length_append, hsl]; exact hroom, h5, by rw [Lib.lay_size]; exact h6, ?_⟩
      apply List.ext_getElem?
      intro j
      rw [List.length_append, hsl]
      by_cases hj : j < l.length + s.size
      · rw [List.getElem?_take_of_lt hj, Array.getElem?_toList, Lib.lay_get? _ _ _ _ (by rw [Lib.strCells_length]; omega), Lib.strCells_length]
        by_cases hj2 : l.length ≤ j
        · rw [if_pos ⟨hj2, hj⟩, List.map_append, List.getElem?_append_right (by simpa using hj2)]
          simp [Lib.strCells]
        · rw [if_neg (by omega), List.map_append, List.getElem?_append_left (by simpa using hj2), ← h7, List.getElem?_take_of_lt (by omega), Array.getElem?_toList]
      · rw [List.getElem?_eq_none (by simp; omega), List.getElem?_eq_none (by simp only [List.length_map, List.length_append, hsl]; omega)]
    · refine ⟨g, cap, _, fz, rfl, h1, heap_setCellsF _ _ _ _ _ _ _ h2, by rw [Lib.lay_size]; exact h3, h4, h5, by rw [Lib.lay_size]; exact h6, ?_⟩
      rw [← h7]
      apply List.ext_getElem?
      intro j
      by_cases hj : j < l.length
      · rw [List.getElem?_take_of_lt hj, List.getElem?_take_of_lt hj, Array.getElem?_toList, Array.getElem?_toList, Lib.lay_get? _ _ _ _ (by rw [Lib.strCells_length]; omega), if_neg (by omega)]
      · rw [List.getElem?_eq_none (by simp; omega), List.getElem?_eq_none (by simp; omega)]
  · have holds : ∀ j u, (l.map bv)[j]? = some u → w.cell? ((⟨g, 0, none⟩ : Addr).add j) = some u := fun j u hu => by
      rw [Bi.add_plain]
      simp only [World.cell?, h2]
      have hj : j < l.length := by have := (List.getElem?_eq_some_iff.1 hu).1; simpa using this
      rw [← h7, List.getElem?_take_of_lt hj, Array.getElem?_toList] at hu
      exact hu
    have hr := Lib.run_append_grow_string (P := Try.prog) w 71 9 ty 5 i (.int .u8 0) Try.underlying71 Try.underlying9 hi hz0 ⟨g, 0, none⟩ l.length cap (l.map bv) (by rw [hz1]; simp) holds s (by omega) (by omega) (by rw [hz2]; exact growslice_fits (by omega) (by omega))
    have hge := grownCap_ge w (l.length + s.size) cap 5
    refine ⟨_, _, hr, ⟨w.heap.size, _, _, (0, 0), by rw [List.length_append, hsl], hb, heap_alloc_new w.drew _, .inl rfl, by rw [List.length_append, hsl]; exact hge, grownCap_le_maxLen w _ _ 5 (by unfold maxLen; omega), ?_, ?_⟩, ?_, ⟨rfl, rfl, rfl, by simp, fun k hk _ => heap_alloc_old w.drew _ k hk⟩, .inr rfl⟩
    · have hz1 : (Value.int IntKind.u8 0).cells.size = 1 := rfl
      simp only [Array.size_append, List.size_toArray, size_zeroCells, hz1, List.length_map, Lib.strCells_length]
      omega
    · simp only [Array.toList_append, List.append_assoc, List.map_append]
      rw [← List.append_assoc, List.take_left' (by simp [Lib.strCells_length, hsl])]
      rfl
    · have hg : g < w.heap.size := (Array.getElem?_eq_some_iff.1 h2).1
      exact ⟨g, cap, cur, fz, rfl, h1, (heap_alloc_old w.drew _ g hg).trans h2, h3, h4, h5, h6, h7⟩

/-- string(b). -/
theorem bytes_back {base : Nat} {w : World} {v : Value} {l : List UInt8} (h : BytesAt base w v l) : (convert 71 9 v).run Try.prog w = .ok (.string ⟨l.toArray⟩) w := by
  obtain ⟨g, cap, cur, fz, rfl, h1, h2, h3, h4, h5, h6, h7⟩ := h
  refine run_convert_bytes_back (P := Try.prog) w 71 9 5 ⟨g, 0, none⟩ cap l Try.underlying71 Try.underlying5 Try.underlying9 (fun j hj => ?_)
  rw [Bi.add_plain]
  simp only [World.cell?, h2]
  rw [← Array.getElem?_toList, ← List.getElem?_take_of_lt hj, h7]
  simp [hj]
end Go.Proofs.Ytgdjcoodjdckkaa
/- A table in memory; contracts of forget and giveUp. -/
set_option maxRecDepth 100000
namespace Go.Proofs.Ytgdjcoodjdckkaa
open Go.RowKit Go.Proofs.PitotIp Go.Maps
open Go.Proofs.PitotReasm (Bg Tb Fine)
open Go.Proofs.Ytgdjcoodjdckkaa.Bi (lies_lt lies_cell lies_frozen lies_alloc lies_set)

abbrev find := @PitotReasm.find K UInt8 _
abbrev drop := @PitotReasm.drop K UInt8 _
/-- How what a map has reads: as it is. -/
def HE (v : Value) : Option (DataW Value × List MemPlace) := some (.held v, [])
abbrev bz : Value := .agg #[.int .i64 0, .slice none 0 0]
def bval (o : Option (Bg K UInt8)) (v : Value) : Value := match o with | some b => .agg #[.int .i64 b.t0, v] | none => bz
abbrev tabC (most wait now : Int) (mb : Nat) (ov : Value) (dr : Int) : Obj := .cells #[.int .i64 most, .int .i64 wait, .int .i64 now, .map (some mb), ov, .int .i64 dr] 70
/-- What a map tells, Key by Key. -/
def Rep (D : DataW Value) (l : List (Bg K UInt8)) (dv : K → Value) : Prop := ∀ k, Maps.has D (kl k) = (find l k).isSome ∧ D.atKey (kl k) (.held bz) = .held (bval (find l k) (dv k))

/-- A table at block p, all of whose blocks lie from base on: its map at mb, its Keys' order ov, its packets' bytes dv. -/
structure Tab (base : Nat) (w : World) (p : Nat) (most wait : Int) (t : Tb K UInt8) (mb n : Nat) (D : DataW Value) (ov : Value) (dv : K → Value) : Prop where
  hp : base ≤ p
  hm : base ≤ mb
  tab : w.heap[p]? = some (tabC most wait t.now mb ov t.dr)
  map : w.ownsMap Try.prog 52 HE mb n D
  rep : Rep D t.l dv
  size : Maps.size D = t.l.length
  row : w.ownsRow base 52 10 ov t.l.length (flatK (t.l.map (·.k)))
  bytes : ∀ b ∈ t.l, BytesAt base w (dv b.k) b.d
  apart : ∀ b ∈ t.l, ∀ c ∈ t.l, b.k ≠ c.k → (dv b.k).ownBlock ≠ (dv c.k).ownBlock
def TabAt (base : Nat) (w : World) (p : Nat) (most wait : Int) (t : Tb K UInt8) : Prop := ∃ mb n D ov dv, Tab base w p most wait t mb n D ov dv

/-- Blocks below base, and blocks of cells of other kinds, are as they were. -/
structure Fr (base : Nat) (w w' : World) : Prop where
  below : Below base w w'
  kind : ∀ (k : Nat) (cs : Array Value) (ty : TypeId) (fr : Nat × Nat), ty ≠ 70 → ty ≠ 52 → ty ≠ 5 → w.heap[k]? = some (Obj.cells cs ty fr) → w'.heap[k]? = some (Obj.cells cs ty fr)
theorem Fr.trans {base : Nat} {w w1 w2 : World} (h : Fr base w w1) (g : Fr base w1 w2) : Fr base w w2 := ⟨h.below.trans g.below, fun k cs ty fr a b c e => g.kind k cs ty fr a b c (h.kind k cs ty fr a b c e)⟩
theorem Fr.of {base : Nat} {w w' : World} (h : Below w.heap.size w w') (hb : base ≤ w.heap.size) : Fr base w w' := ⟨h.mono hb, fun k _ _ _ _ _ _ e => (h.block k (Array.getElem?_eq_some_iff.1 e).1).trans e⟩
theorem Fr.turned {base : Nat} {w w' : World} {b : Nat} (h : w.mapTurned w' b) (hb : base ≤ b) : Fr base w w' := by
  obtain ⟨es, cl, es', cl', hb', rfl⟩ := h
  refine ⟨⟨rfl, rfl, rfl, by simp [ChangeMaps.setBlock], fun k hk => ChangeMaps.heap_setBlock_other hb' _ (by omega)⟩, fun k cs ty fr _ _ _ e => ?_⟩
  by_cases e1 : k = b
  · subst e1; rw [hb'] at e; cases e
  · exact (ChangeMaps.heap_setBlock_other hb' _ e1).trans e
theorem Fr.grown {base : Nat} {w w' : World} {g : Nat} (h : w.grownBy w' (some g)) (hg : base ≤ g) (hb : base ≤ w.heap.size) {cs : Array Value} {ty : TypeId} {fr : Nat × Nat} (ht : w.heap[g]? = some (.cells cs ty fr)) (hty : ty = 70 ∨ ty = 52 ∨ ty = 5) : Fr base w w' := by
  refine ⟨⟨h.os, h.tape, h.output, h.size, fun k hk => h.block k (by omega) (by simp; omega)⟩, fun k cs' ty' fr' h1 h2 h3 e => ?_⟩
  have : k ≠ g := fun e1 => by
    subst e1; rw [ht] at e; injection e with e; injection e with _ e2 _
    rcases hty with rfl | rfl | rfl
    · exact h1 e2.symm
    · exact h2 e2.symm
    · exact h3 e2.symm
  exact (h.block k (Array.getElem?_eq_some_iff.1 e).1 (by simpa using this)).trans e
theorem Fr.drew {base : Nat} {w w' : World} (h : Fr base w w') : Fr base w w'.drew := ⟨h.below.drew, h.kind⟩
theorem Fr.drewN {base : Nat} {w w' : World} (h : Fr base w w') (q : Nat) : Fr base w (w'.drewN q) := ⟨⟨h.below.os, h.below.tape, h.below.output, h.below.size, h.below.block⟩, h.kind⟩
theorem Fr.refl {base : Nat} {w : World} : Fr base w w := ⟨Below.refl _ _, fun _ _ _ _ _ _ _ e => e⟩

theorem map_other {w w' : World} {b p : Nat} {o : Obj} (h : w.mapTurned w' b) (hp : w.heap[p]? = some o) (ho : ∀ es cl, o ≠ .map es cl) : w'.heap[p]? = some o := by
  obtain ⟨es, cl, es', cl', hb, rfl⟩ := h
  have : p ≠ b := fun e => by subst e; rw [hb] at hp; injection hp with hp; exact ho _ _ hp.symm
  exact (ChangeMaps.heap_setBlock_other hb _ this).trans hp
theorem map_tight {w : World} {b n : Nat} {D : DataW Value} (h : w.ownsMap Try.prog 52 HE b n D) : w.ownsMap Try.prog 52 HE b (Maps.size D) D := by
  obtain ⟨es, cl, h1, h2, h3, rfl⟩ := h
  exact ⟨es, cl, h1, h2, by rw [Maps.size_eq, length_read]; exact Nat.le_refl _, rfl⟩

theorem Tab.lt {base : Nat} {w : World} {p : Nat} {most wait : Int} {t : Tb K UInt8} {mb n : Nat} {D : DataW Value} {ov : Value} {dv : K → Value} (h : Tab base w p most wait t mb n D ov dv) : p < w.heap.size ∧ mb < w.heap.size ∧ base ≤ w.heap.size := by
  have := lies_lt h.tab; have := h.map.lt; have := h.hp
  exact ⟨by omega, by omega, by omega⟩
/-- Where only other blocks have turned, a table is what it was. -/
theorem Tab.of {base : Nat} {w w' : World} {p : Nat} {most wait : Int} {t : Tb K UInt8} {mb n : Nat} {D : DataW Value} {ov : Value} {dv : K → Value} (h : Tab base w p most wait t mb n D ov dv) (hg : w.grownBy w' none) : Tab base w' p most wait t mb n D ov dv where
  hp := h.hp
  hm := h.hm
  tab := (hg.block p h.lt.1 (by simp)).trans h.tab
  map := h.map.kept hg (by simp)
  rep := h.rep
  size := h.size
  row := h.row.kept hg (by cases hh : ov.ownBlock <;> simp)
  bytes := fun b hb => (h.bytes b hb).kept hg (by obtain ⟨g, _, _, e, _⟩ := (h.bytes b hb).block; rw [e]; simp)
  apart := h.apart
theorem Tab.below {base : Nat} {w w' : World} {p : Nat} {most wait : Int} {t : Tb K UInt8} {mb n : Nat} {D : DataW Value} {ov : Value} {dv : K → Value} (h : Tab base w p most wait t mb n D ov dv) (hb : Below w.heap.size w w') : Tab base w' p most wait t mb n D ov dv := h.of (grown_below hb none)
theorem TabAt.below {base : Nat} {w w' : World} {p : Nat} {most wait : Int} {t : Tb K UInt8} (h : TabAt base w p most wait t) (hb : Below w.heap.size w w') : TabAt base w' p most wait t := by
  obtain ⟨mb, n, D, ov, dv, h⟩ := h
  exact ⟨mb, n, D, ov, dv, h.below hb⟩
theorem TabAt.base {base : Nat} {w : World} {p : Nat} {most wait : Int} {t : Tb K UInt8} (h : TabAt base w p most wait t) : base ≤ w.heap.size := by
  obtain ⟨mb, n, D, ov, dv, h⟩ := h
  exact h.lt.2.2
theorem TabAt.lt {base : Nat} {w : World} {p : Nat} {most wait : Int} {t : Tb K UInt8} (h : TabAt base w p most wait t) : p < w.heap.size := by
  obtain ⟨mb, n, D, ov, dv, h⟩ := h
  exact h.lt.1
theorem Tab.drewN {base : Nat} {w : World} {p : Nat} {most wait : Int} {t : Tb K UInt8} {mb n : Nat} {D : DataW Value} {ov : Value} {dv : K → Value} (h : Tab base w p most wait t mb n D ov dv) (q : Nat) : Tab base (w.drewN q) p most wait t mb n D ov dv := h.of ⟨rfl, rfl, rfl, Nat.le_refl _, fun _ _ _ => rfl⟩

/-- What a Key's place parts. -/
theorem keys_split : ∀ {l : List (Bg K UInt8)} {k : K} {b : Bg K UInt8}, (l.map (·.k)).Nodup → find l k = some b → ∃ l1 l2, l.map (·.k) = l1 ++ k :: l2 ∧ k ∉ l1 ∧ k ∉ l2 ∧ (drop l k).map (·.k) = l1 ++ l2
  | [], _, _, _, h => by simp [find, PitotReasm.find] at h
  | c :: r, k, b, hn, h => by
    simp only [List.map_cons, List.nodup_cons] at hn
    rw [find, PitotReasm.find_cons] at h
    by_cases e : c.k = k
    · subst e
      refine ⟨[], r.map (·.k), rfl, by simp, hn.1, ?_⟩
      rw [drop, PitotReasm.drop_cons, if_pos rfl, PitotReasm.drop_none]
      · rfl
      · rw [PitotReasm.find, List.find?_eq_none]
        intro x hx hk
        exact hn.1 (List.mem_map.2 ⟨x, hx, by simpa using hk⟩)
    · rw [if_neg e] at h
      obtain ⟨l1, l2, h1, h2, h3, h4⟩ := keys_split hn.2 h
      refine ⟨c.k :: l1, l2, by rw [List.map_cons, h1]; rfl, by simp only [List.mem_cons, not_or]; exact ⟨fun x => e x.symm, h2⟩, h3, ?_⟩
      rw [drop, PitotReasm.drop_cons, if_neg e, List.map_cons]
      show c.k :: (drop r k).map (·.k) = _
      rw [h4]; rfl

theorem rep_del {D : DataW Value} {l : List (Bg K UInt8)} {dv : K → Value} (hr : Rep D l dv) (k : K) : Rep (D.del (kl k)) (drop l k) dv := fun x => by
  by_cases e : x = k
  · subst e
    rw [has_del_same, atKey_del_same, show find (drop l x) x = none from PitotReasm.find_drop_self l x]
    exact ⟨rfl, rfl⟩
  · rw [has_del_other (fun h => e (kl_inj h)), atKey_del_other (fun h => e (kl_inj h)), show find (drop l k) x = find l x from PitotReasm.find_drop_other l (fun h => e h.symm)]
    exact hr x
theorem find_mem {l : List (Bg K UInt8)} {k : K} {b : Bg K UInt8} (h : find l k = some b) : b ∈ l ∧ b.k = k := ⟨(PitotReasm.find_some h).2, (PitotReasm.find_some h).1⟩
theorem drop_mem {l : List (Bg K UInt8)} {k : K} {b : Bg K UInt8} (h : b ∈ drop l k) : b ∈ l := by
  unfold drop PitotReasm.drop at h
  exact (List.mem_filter.1 h).1
end Go.Proofs.Ytgdjcoodjdckkaa
