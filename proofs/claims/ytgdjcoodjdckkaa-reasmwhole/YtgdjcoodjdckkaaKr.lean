/- Keys in memory, one behind the other; the function that tells one from the others; slices.IndexFunc over it. -/
import Derived.Test.YtgdjcoodjdckkaaKy
import Derived.Test.YtgdjcoodjdckkaaWi
import Derived.Deep.MidRow
import Derived.Test.YtgdjcoodjdckkaaPk
import Derived.Lib.SlicesDelete
set_option maxRecDepth 100000
namespace Go.Proofs.Ytgdjcoodjdckkaa
open Go.RowKit Go.Proofs.PitotIp Go.Maps
open Go.Proofs.Ytgdjcoodjdckkaa.Bi (lies_lt lies_cell lies_frozen lies_alloc lies_set)

theorem K.enc_length (k : K) : k.enc.length = 10 := rfl
theorem K.enc_one (k : K) : ∀ u ∈ k.enc, u.oneCell' = true := by
  intro u hu
  simp only [K.enc, List.mem_cons, List.not_mem_nil, or_false] at hu
  rcases hu with rfl | rfl | rfl | rfl | rfl | rfl | rfl | rfl | rfl | rfl <;> rfl
def flatK (l : List K) : List Value := l.flatMap K.enc
theorem flatK_nil : flatK [] = [] := rfl
theorem flatK_cons (k : K) (l : List K) : flatK (k :: l) = k.enc ++ flatK l := rfl
theorem flatK_append (l r : List K) : flatK (l ++ r) = flatK l ++ flatK r := by simp [flatK]
theorem flatK_length : ∀ l : List K, (flatK l).length = l.length * 10
  | [] => rfl
  | x :: r => by
    rw [flatK_cons, List.length_append, K.enc_length, flatK_length r]; simp; omega
theorem flatK_get : ∀ (l : List K) (i : Nat) (h : i < l.length) (j : Nat), j < 10 → (flatK l)[i * 10 + j]? = l[i].enc[j]?
  | x :: r, 0, _, j, hj => by
    rw [flatK_cons, Nat.zero_mul, Nat.zero_add, List.getElem?_append_left (by rw [K.enc_length]; exact hj)]
    rfl
  | x :: r, i + 1, h, j, hj => by
    rw [flatK_cons, List.getElem?_append_right (by rw [K.enc_length]; omega), K.enc_length, show (i + 1) * 10 + j - 10 = i * 10 + j by omega, flatK_get r i (by simpa using h) j hj]
    rfl
abbrev K.obj (k : K) : Obj := .cells #[.int .u8 k.a.a.toNat, .int .u8 k.a.b.toNat, .int .u8 k.a.c.toNat, .int .u8 k.a.d.toNat, .int .u8 k.b.a.toNat, .int .u8 k.b.b.toNat, .int .u8 k.b.c.toNat, .int .u8 k.b.d.toNat, .int .i64 k.pr, .int .i64 k.id] 52

/-- A Key's cells. -/
def KAt (w : World) (b o : Nat) (k : K) : Prop :=
  w.cell? ⟨b, o, none⟩ = some (.int .u8 k.a.a.toNat) ∧ w.cell? ⟨b, o + 1, none⟩ = some (.int .u8 k.a.b.toNat) ∧ w.cell? ⟨b, o + 2, none⟩ = some (.int .u8 k.a.c.toNat) ∧ w.cell? ⟨b, o + 3, none⟩ = some (.int .u8 k.a.d.toNat) ∧ w.cell? ⟨b, o + 4, none⟩ = some (.int .u8 k.b.a.toNat) ∧ w.cell? ⟨b, o + 5, none⟩ = some (.int .u8 k.b.b.toNat) ∧ w.cell? ⟨b, o + 6, none⟩ = some (.int .u8 k.b.c.toNat) ∧ w.cell? ⟨b, o + 7, none⟩ = some (.int .u8 k.b.d.toNat) ∧ w.cell? ⟨b, o + 8, none⟩ = some (.int .i64 k.pr) ∧ w.cell? ⟨b, o + 9, none⟩ = some (.int .i64 k.id)
theorem cells10 {w : World} {b : Nat} {k : K} (h : w.heap[b]? = some k.obj) : KAt w b 0 k := by
  have hc := lies_cell h
  exact ⟨hc 0, hc 1, hc 2, hc 3, hc 4, hc 5, hc 6, hc 7, hc 8, hc 9⟩
/-- Keys as they lie in a block. -/
def RowK (w : World) (o cap : Nat) (ks : List K) : Prop :=
  ∃ cur : Array Value, w.heap[o]? = some (.cells cur 52) ∧ cur.size = cap * 10 ∧ ks.length ≤ cap ∧ cap ≤ maxLen ∧ cur.toList.take (ks.length * 10) = flatK ks
theorem RowK.lt {w : World} {o cap : Nat} {ks : List K} (h : RowK w o cap ks) : o < w.heap.size := by
  obtain ⟨cur, h1, _⟩ := h
  exact lies_lt h1
theorem RowK.below {w w' : World} {o cap B : Nat} {ks : List K} (h : RowK w o cap ks) (hb : Below B w w') (hlt : o < B) : RowK w' o cap ks := by
  obtain ⟨cur, h1, h2⟩ := h
  exact ⟨cur, (hb.block o hlt).trans h1, h2⟩
theorem RowK.at {w : World} {o cap : Nat} {ks : List K} (h : RowK w o cap ks) (i : Nat) (hi : i < ks.length) : KAt w o (i * 10) ks[i] := by
  obtain ⟨cur, h1, h2, h3, h4, h5⟩ := h
  have hc : ∀ j (hj : j < 10), w.cell? ⟨o, i * 10 + j, none⟩ = some (ks[i].enc[j]'(by rw [K.enc_length]; exact hj)) := fun j hj => by
    rw [lies_cell h1]
    have e : cur.toList[i * 10 + j]? = (flatK ks)[i * 10 + j]? := by
      rw [← h5, List.getElem?_take_of_lt (by omega)]
    rw [← Array.getElem?_toList, e, flatK_get ks i hi j hj]
    exact List.getElem?_eq_getElem _
  exact ⟨hc 0 (by omega), hc 1 (by omega), hc 2 (by omega), hc 3 (by omega), hc 4 (by omega), hc 5 (by omega), hc 6 (by omega), hc 7 (by omega), hc 8 (by omega), hc 9 (by omega)⟩
/-- A row that a call owns. -/
theorem RowK.of_own {w : World} {base n : Nat} {v : Value} {ks : List K} (h : w.ownsRow base 52 10 v n (flatK ks)) (hpos : 0 < n) : ∃ o cap, v = .slice (some ⟨o, 0, none⟩) n cap ∧ base ≤ o ∧ n = ks.length ∧ RowK w o cap ks := by
  have hl := h.1
  rw [flatK_length] at hl
  have hn : n = ks.length := by omega
  rcases h.2 with ⟨_, h0⟩ | ⟨g, cap, cur, hv, hg, h1, h2, h3, h4, h5⟩
  · omega
  · exact ⟨g, cap, hv, hg, hn, cur, h1, h4, by omega, h3, by rw [← hn]; exact h5⟩
theorem RowK.own {w : World} {base o cap : Nat} {ks : List K} (h : RowK w o cap ks) (hb : base ≤ o) : w.ownsRow base 52 10 (.slice (some ⟨o, 0, none⟩) ks.length cap) ks.length (flatK ks) := by
  obtain ⟨cur, h1, h2, h3, h4, h5⟩ := h
  exact ⟨flatK_length ks, .inr ⟨o, cap, cur, rfl, hb, h1, h3, h4, h2, h5⟩⟩

/-- Cells are stored in a block. -/
theorem heap_setCells : ∀ (vs : List Value) (o : Nat) (w : World) (b : Nat) (cur : Array Value) (t : TypeId), w.heap[b]? = some (.cells cur t) → (w.setCells b o vs).heap[b]? = some (.cells (Lib.lay cur o vs) t)
  | [], _, _, _, _, _, h => h
  | v :: r, o, _, b, _, t, h => heap_setCells r (o + 1) _ b _ t (lies_set h o v)
theorem RowK.put {w : World} {o cap : Nat} {ks : List K} (h : RowK w o cap ks) (i : Nat) (hi : i < ks.length) (x : K) : RowK (w.setCells o (i * 10) x.enc) o cap (ks.set i x) := by
  obtain ⟨cur, h1, h2, h3, h4, h5⟩ := h
  refine ⟨Lib.lay cur (i * 10) x.enc, heap_setCells _ _ _ _ _ _ h1, by rw [Lib.lay_size]; exact h2, by simpa using h3, h4, ?_⟩
  have hcs : cur.toList.length = cap * 10 := by simpa using h2
  apply List.ext_getElem?
  intro j
  by_cases hj : j < ks.length * 10
  · rw [List.getElem?_take_of_lt (by simpa using hj), Array.getElem?_toList, Lib.lay_get? _ _ _ _ (by rw [K.enc_length, h2]; omega)]
    obtain ⟨q, r, hr, rfl⟩ : ∃ q r, r < 10 ∧ j = q * 10 + r := ⟨j / 10, j % 10, Nat.mod_lt _ (by omega), by omega⟩
    have hq : q < ks.length := by omega
    rw [flatK_get (ks.set i x) q (by simpa using hq) r hr, K.enc_length]
    by_cases e : q = i
    · subst e
      rw [if_pos (by omega)]
      simp
    · rw [if_neg (by omega)]
      have e2 : cur[q * 10 + r]? = (flatK ks)[q * 10 + r]? := by
        rw [← h5, List.getElem?_take_of_lt hj, Array.getElem?_toList]
      rw [e2, flatK_get ks q hq r hr, List.getElem_set_ne (fun h => e h.symm)]
  · rw [List.getElem?_eq_none (by simp [Lib.lay_size]; omega), List.getElem?_eq_none (by rw [flatK_length]; simp; omega)]
theorem RowK.there {w : World} {o cap : Nat} {ks : List K} (h : RowK w o cap ks) (i : Nat) (hi : i < ks.length) : w.there o (i * 10) 10 := by
  obtain ⟨cur, h1, h2, h3, h4, h5⟩ := h
  intro j hj
  refine ⟨?_, lies_frozen h1 _⟩
  rw [lies_cell h1, Array.getElem?_eq_getElem (by omega)]
  rfl
/-- Of the first keys alone. -/
theorem RowK.cut {w : World} {o cap : Nat} {ks : List K} (h : RowK w o cap ks) (n : Nat) : RowK w o cap (ks.take n) := by
  obtain ⟨cur, h1, h2, h3, h4, h5⟩ := h
  refine ⟨cur, h1, h2, by simp; omega, h4, ?_⟩
  have e : flatK (ks.take n) = (flatK ks).take ((ks.take n).length * 10) := by
    have e1 : flatK ks = flatK (ks.take n) ++ flatK (ks.drop n) := by rw [← flatK_append, List.take_append_drop]
    rw [e1, List.take_left' (flatK_length _)]
  rw [e, ← h5, List.take_take]
  congr 1
  all_goals (first | (simp; omega) | simp)

theorem eqK (x y : K) (w : World) : (Go.Op.equalIn 10000 52 x.val y.val).run Try.prog w = .ok (decide (x = y)) w := by
  obtain ⟨r, h, hr⟩ := run_equal_deep w (m := 3) (by omega) (by kernel_rfl) wide52 (key_kl x) (key_kl y)
  have h' : (Go.Op.equalIn 10000 52 x.val y.val).run Try.prog w = .ok r w := h
  rw [h']
  congr 1
  by_cases e : x = y
  · subst e; rw [decide_eq_true rfl]; exact hr.2 rfl
  · rw [decide_eq_false e]
    cases r
    · rfl
    · exact absurd (kl_inj (hr.1 rfl)) e

set_option maxHeartbeats 1000000 in
/-- The function that tells a Key from the others. -/
theorem tell_any (w : World) (c : Nat) (k x : K) (hk : w.heap[c]? = some k.obj) :
    Calls Try.prog 45 #[x.val, .pointer (some ⟨c, 0, none⟩)] w fun e w' => e = .returned (.bool (decide (x = k))) ∧ Below w.heap.size w w' := by
  have kb : Hid (Below w.heap.size w (w.alloc x.obj)) := (Below.refl _ w).alloc (Nat.le_refl _) _
  have HE : ∀ w, (Go.Op.equalIn 10000 52 x.val k.val).run Try.prog w = .ok (decide (x = k)) w := eqK x k
  have hc := cells10 (lies_alloc hk x.obj)
  obtain ⟨R, HR⟩ : ∃ R, Hid (R = decide (x = k)) := ⟨_, rfl⟩
  rw [← HR.out] at HE ⊢
  have hlt := lies_lt hk
  clear hk
  obtain ⟨c0, c1, c2, c3, c4, c5, c6, c7, c8, c9⟩ := hc
  simp only [K.val] at HE
  simp only [Nat.zero_add] at c1 c2 c3 c4 c5 c6 c7 c8 c9
  simp only [K.val]
  go_enter Try.func45, Try.ntmps45
  go_wp2

  go_returns
  exact ⟨rfl, kb.out⟩
end Go.Proofs.Ytgdjcoodjdckkaa
