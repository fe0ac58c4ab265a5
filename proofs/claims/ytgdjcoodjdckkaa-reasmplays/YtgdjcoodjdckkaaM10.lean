/- Merged: Sp, Sq, Rt, Ru, Rfi, Rap. -/
import Derived.Test.YtgdjcoodjdckkaaM9
import Derived.Test.YtgdjcoodjdckkaaM8
import Derived.Deep.RegionHeld3
import Derived.Deep.AppendLies
import Derived.Deep.AppendSrc
import Derived.Deep.Upon
set_option linter.unusedVariables false
/- Contracts of Split: a packet as parts. -/
set_option maxRecDepth 100000
namespace Go.Proofs.Ytgdjcoodjdckkaa
open Go.RowKit Go.Proofs.PitotFrag Go.Proofs.PitotIp
open Go.Proofs.Ytgdjcoodjdckkaa.Bi (lies_lt lies_cell lies_frozen lies_alloc lies_set)

abbrev noParts (e : Int) : Value := .tuple #[.slice none 0 0, .int .i64 e]

set_option maxHeartbeats 1000000 in
theorem split_arg (p : Pk) (x : Int) (hx : x < 64 ∨ 1518 < x) (w : World) :
    Calls Try.prog 20 #[p.val, .int .i64 x] w fun e w' => e = .returned (noParts 1) ∧ Below w.heap.size w w' := by
  obtain ⟨id, m, off, ttl, pr, a, b, s⟩ := p
  have kb : Hid (Below w.heap.size w (w.alloc (pkC id m off ttl pr a b s))) := (Below.refl _ w).alloc (Nat.le_refl _) _
  have H := Lib.hid (room_arg x hx)
  clear hx
  go_enter Try.func20, Try.ntmps20
  go_wp2_with (go_at_call 31; (with_reducible refine (H.out _).mono ?_); rintro r w1 ⟨rfl, rfl⟩)
  go_returns
  exact ⟨rfl, kb.out⟩

set_option maxHeartbeats 1000000 in
theorem split_field (p : Pk) (m : Nat) (h1 : 25 ≤ m) (hm : m ≤ 1479) (h : p.m = true ∨ p.off ≠ 0) (w : World) :
    Calls Try.prog 20 #[p.val, .int .i64 (m + 39)] w fun e w' => e = .returned (noParts 15) ∧ Below w.heap.size w w' := by
  obtain ⟨id, mo, off, ttl, pr, a, b, s⟩ := p
  have kb : Hid (Below w.heap.size w (w.alloc (pkC id mo off ttl pr a b s))) := (Below.refl _ w).alloc (Nat.le_refl _) _
  have H := Lib.hid (room_ok m h1 hm)
  simp only at h
  cases mo
  · have h2 : ¬ off = 0 := by rcases h with h | h; cases h; exact h
    clear h
    go_enter Try.func20, Try.ntmps20
    go_wp2_with (go_at_call 31; (with_reducible refine (H.out _).mono ?_); rintro r w1 ⟨rfl, rfl⟩)
    go_returns
    exact ⟨rfl, kb.out⟩
  · clear h
    go_enter Try.func20, Try.ntmps20
    go_wp2_with (go_at_call 31; (with_reducible refine (H.out _).mono ?_); rintro r w1 ⟨rfl, rfl⟩)
    go_returns
    exact ⟨rfl, kb.out⟩

set_option maxHeartbeats 1000000 in
theorem split_long (p : Pk) (m : Nat) (h1 : 25 ≤ m) (hm : m ≤ 1479) (hmo : p.m = false) (ho : p.off = 0) (hs : 65515 < p.s.size) (hs2 : p.s.size ≤ 9223372036854775807) (w : World) :
    Calls Try.prog 20 #[p.val, .int .i64 (m + 39)] w fun e w' => e = .returned (noParts 11) ∧ Below w.heap.size w w' := by
  obtain ⟨id, mo, off, ttl, pr, a, b, s⟩ := p
  simp only at hmo ho hs hs2
  subst hmo ho
  have kb : Hid (Below w.heap.size w (w.alloc (pkC id false 0 ttl pr a b s))) := (Below.refl _ w).alloc (Nat.le_refl _) _
  have H := Lib.hid (room_ok m h1 hm)
  have H2 := Lib.hid (fun w => count_long m s.size h1 hm (by omega) w)
  go_enter Try.func20, Try.ntmps20
  go_wp2_with (first
    | (go_at_call 31; (with_reducible refine (H.out _).mono ?_); rintro r w1 ⟨rfl, rfl⟩)
    | (go_at_call 32; (with_reducible refine (H2.out _).mono ?_); rintro r w1 ⟨rfl, rfl⟩))
  go_returns
  exact ⟨rfl, kb.out⟩

theorem own_mono {w : World} {B B' : Nat} {e : TypeId} {size : Nat} {v : Value} {n : Nat} {xs : List Value} (h : w.ownsRow B e size v n xs) (hB : B' ≤ B) : w.ownsRow B' e size v n xs := by
  refine ⟨h.1, ?_⟩
  rcases h.2 with h | ⟨g, cap, cur, h1, h2, h3⟩
  · exact .inl h
  · exact .inr ⟨g, cap, cur, h1, Nat.le_trans hB h2, h3⟩
/-- The parts that Split makes of so many bytes a frame. -/
def spl (p : Pk) (m : Nat) : List Pk := cutP p (cnt p.s.size m (m / 8 * 8)) (m / 8 * 8)
theorem spl_length (p : Pk) (m : Nat) : (spl p m).length = cn p.s.size m := by simp [spl, cutP_length, cn]
theorem cnt_mul_le {l m R : Nat} (hR : 0 < R) (hRm : R ≤ m) : cnt l m R * R ≤ l := by
  rcases Nat.eq_zero_or_pos (cnt l m R) with h | h
  · rw [h]; omega
  · obtain ⟨n, hn⟩ : ∃ n, cnt l m R = n + 1 := ⟨cnt l m R - 1, by omega⟩
    have := (cnt_lt (long := l) (lim := m) hR n).1 (by omega)
    rw [hn, Nat.add_mul]
    omega

set_option maxHeartbeats 1000000 in
theorem split_ok (p : Pk) (m : Nat) (h1 : 25 ≤ m) (hm : m ≤ 1479) (hmo : p.m = false) (ho : p.off = 0) (hs : p.s.size ≤ 65515) (w : World) :
    Calls Try.prog 20 #[p.val, .int .i64 (m + 39)] w fun e w' => ∃ g cap, e = .returned (.tuple #[.slice (some ⟨g, 0, none⟩) (cn p.s.size m) cap, .int .i64 0]) ∧ w'.ownsRow w.heap.size 34 14 (.slice (some ⟨g, 0, none⟩) (cn p.s.size m) cap) (cn p.s.size m) (flatP (spl p m)) ∧ Below w.heap.size w w' := by
  obtain ⟨id, mo, off, ttl, pr, a, b, s⟩ := p
  simp only at hmo ho hs
  subst hmo ho
  have kb : Hid (Below w.heap.size w (w.alloc (pkC id false 0 ttl pr a b s))) := (Below.refl _ w).alloc (Nat.le_refl _) _
  have H := room_ok m h1 hm
  have H2 := fun w => count_ok m s.size h1 hm hs w
  have H3 := fun w => cut_any ⟨id, false, 0, ttl, pr, a, b, s⟩ (cnt s.size m (m / 8 * 8)) (m / 8 * 8) (by omega) (by omega) (cnt_mul_le (by omega) (by omega)) hs rfl w
  obtain ⟨LS, HLS⟩ : ∃ LS, Hid (LS = spl ⟨id, false, 0, ttl, pr, a, b, s⟩ m) := ⟨_, rfl⟩
  rw [show cutP ⟨id, false, 0, ttl, pr, a, b, s⟩ (cnt s.size m (m / 8 * 8)) (m / 8 * 8) = LS from HLS.out.symm, show cnt s.size m (m / 8 * 8) + 1 = cn s.size m from rfl] at H3
  rw [← HLS.out]
  generalize m / 8 * 8 = R at H H3
  show Calls Try.prog 20 _ _ fun e w' => ∃ g cap, e = .returned (.tuple #[.slice (some ⟨g, 0, none⟩) (cn s.size m) cap, .int .i64 0]) ∧ w'.ownsRow w.heap.size 34 14 (.slice (some ⟨g, 0, none⟩) (cn s.size m) cap) (cn s.size m) (flatP LS) ∧ Below w.heap.size w w'
  generalize cn s.size m = Q at H2 H3 ⊢
  have H := Lib.hid H; have H2 := Lib.hid H2; have H3 := Lib.hid H3
  clear HLS
  go_enter Try.func20, Try.ntmps20
  go_wp2_with (first
    | (go_at_call 31; (with_reducible refine (H.out _).mono ?_); rintro r w1 ⟨rfl, rfl⟩)
    | (go_at_call 32; (with_reducible refine (H2.out _).mono ?_); rintro r w1 ⟨rfl, rfl⟩)
    | (go_at_call 33; (with_reducible refine (H3.out _).mono ?_); rintro r w2 ⟨g, cap, rfl, hown, hb⟩))
  go_returns
  refine ⟨g, cap, rfl, ?_, kb.out.trans (hb.mono kb.out.size)⟩
  exact own_mono hown (by simp)
end Go.Proofs.Ytgdjcoodjdckkaa
/- What the parts are that Split makes. -/
set_option maxRecDepth 100000
namespace Go.Proofs.Ytgdjcoodjdckkaa
open Go.RowKit Go.Proofs.PitotFrag Go.Proofs.PitotIp
open Go.Proofs.Ytgdjcoodjdckkaa.Bi (lies_lt lies_cell lies_frozen lies_alloc lies_set)

theorem row_get {w : World} {base g n cap : Nat} {l : List Pk} (h : w.ownsRow base 34 14 (.slice (some ⟨g, 0, none⟩) n cap) n (flatP l)) (i : Nat) (hi : i < l.length) : PkAt w g (i * 14) l[i] := by
  have hc : ∀ j (hj : j < 14), w.cell? ⟨g, i * 14 + j, none⟩ = some (l[i].enc[j]'(by rw [Pk.enc_length]; exact hj)) := fun j hj => by
    have := h.cells (g := g) rfl (i * 14 + j) (l[i].enc[j]'(by rw [Pk.enc_length]; exact hj)) (by rw [flatP_get l i hi j hj]; exact List.getElem?_eq_getElem _)
    rwa [show (⟨g, 0, none⟩ : Addr).add (i * 14 + j) = ⟨g, i * 14 + j, none⟩ by unfold Addr.add; split <;> simp_all] at this
  exact ⟨hc 0 (by omega), hc 1 (by omega), hc 2 (by omega), hc 3 (by omega), hc 4 (by omega), hc 5 (by omega), hc 6 (by omega), hc 7 (by omega), hc 8 (by omega), hc 9 (by omega), hc 10 (by omega), hc 11 (by omega), hc 12 (by omega), hc 13 (by omega)⟩

theorem spl_part (p : Pk) (m k : Nat) (hk : k < cnt p.s.size m (m / 8 * 8)) (h : k < (spl p m).length) : (spl p m)[k] = partAt p (m / 8 * 8) k := by
  simp only [spl, cutP]
  rw [List.getElem_append_left (by simpa using hk)]
  simp
theorem spl_last (p : Pk) (m : Nat) (h : cnt p.s.size m (m / 8 * 8) < (spl p m).length) : (spl p m)[cnt p.s.size m (m / 8 * 8)] = restAt p (m / 8 * 8) (cnt p.s.size m (m / 8 * 8)) := by
  simp only [spl, cutP]
  rw [List.getElem_append_right (by simp)]
  simp
theorem size_list (s : ByteArray) : s.data.toList.length = s.size := by show s.data.toList.length = s.data.size; simp
theorem part_size (p : Pk) (m k : Nat) (hm : 25 ≤ m) (hk : k < cnt p.s.size m (m / 8 * 8)) : (partAt p (m / 8 * 8) k).s.size = m / 8 * 8 := by
  show (bl _).size = _
  rw [bl_size]
  rw [← size_list] at hk
  exact piece_length _ (by omega) (by omega) hk
theorem rest_size (p : Pk) (m : Nat) (hm : 25 ≤ m) : (restAt p (m / 8 * 8) (cnt p.s.size m (m / 8 * 8))).s.size ≤ m := by
  show (bl _).size ≤ _
  rw [bl_size, ← size_list]
  exact last_le _ (by omega)
theorem rest_two (p : Pk) (m n : Nat) (hm : 25 ≤ m) (hn : cnt p.s.size m (m / 8 * 8) = n + 1) : m < m / 8 * 8 + (restAt p (m / 8 * 8) (n + 1)).s.size := by
  show _ < _ + (bl _).size
  rw [bl_size]
  rw [← size_list] at hn
  exact last_two _ (by omega) hn

/-- A packet that one frame carries is its only part. -/
theorem spl_small (p : Pk) (m : Nat) (h1 : 25 ≤ m) (hs : p.s.size ≤ m) (ho : p.off = 0) : spl p m = [p] := by
  obtain ⟨id, mo, off, ttl, pr, a, b, s⟩ := p
  simp only at ho hs
  subst ho
  simp [spl, cutP, cnt_zero (show 0 < m / 8 * 8 by omega) hs, restAt, bl]
theorem cn_small {l m : Nat} (h1 : 25 ≤ m) (hs : l ≤ m) : cn l m = 1 := by simp [cn, cnt_zero (show 0 < m / 8 * 8 by omega) hs]
theorem cn_two {m : Nat} (h1 : 25 ≤ m) : cn (m + 1) m = 2 := by
  rw [cn, cnt_step (by omega) (by omega), cnt_zero (by omega) (by omega)]
end Go.Proofs.Ytgdjcoodjdckkaa
/- The document's table in memory. -/
set_option maxRecDepth 100000
namespace Go.Proofs.Ytgdjcoodjdckkaa
open Go.RowKit Go.Proofs.PitotIp Go.Maps
open Go.Proofs.PitotReasm (Bg Tb Fine bad first next passed passE put keep)
open Go.Proofs.Ytgdjcoodjdckkaa.Bi (lies_lt lies_cell lies_frozen lies_alloc lies_set)

/-- A packet as the document has it. -/
abbrev Pk.rv (p : Pk) : Value := rp p.id p.m p.off p.ttl p.pr (ipB p.a) (ipB p.b) p.s
abbrev Pk.rvC (p : Pk) : Obj := rpC p.id p.m p.off p.ttl p.pr (ipB p.a) (ipB p.b) p.s
/-- A packet that is begun, as the document has it: its first part, when, and its bytes. -/
structure Rb where
  p : Pk
  hw : p.Wf
  at_ : Int
  d : List UInt8
abbrev Rb.k (b : Rb) : K := b.p.key b.hw
/-- What it is in the plain table. -/
def Rb.bg (b : Rb) : Bg K UInt8 := ⟨b.k, b.at_, b.d⟩
abbrev Rb.enc (k : Rb) : List Value := [.int .i64 k.p.id, .bool k.p.m, .int .i64 k.p.off, .int .i64 k.p.ttl, .int .i64 k.p.pr, .string (ipB k.p.a), .string (ipB k.p.b), .string k.p.s, .int .i64 k.at_, .string (bl k.d)]

theorem Rb.enc_length (k : Rb) : k.enc.length = 10 := rfl
theorem Rb.enc_one (k : Rb) : ∀ u ∈ k.enc, u.oneCell' = true := by
  intro u hu
  simp only [Rb.enc, List.mem_cons, List.not_mem_nil, or_false] at hu
  rcases hu with rfl | rfl | rfl | rfl | rfl | rfl | rfl | rfl | rfl | rfl <;> rfl
def flatB (l : List Rb) : List Value := l.flatMap Rb.enc
theorem flatB_nil : flatB [] = [] := rfl
theorem flatB_cons (k : Rb) (l : List Rb) : flatB (k :: l) = k.enc ++ flatB l := rfl
theorem flatB_append (l r : List Rb) : flatB (l ++ r) = flatB l ++ flatB r := by simp [flatB]
theorem flatB_length : ∀ l : List Rb, (flatB l).length = l.length * 10
  | [] => rfl
  | x :: r => by
    rw [flatB_cons, List.length_append, Rb.enc_length, flatB_length r]; simp; omega
theorem flatB_get : ∀ (l : List Rb) (i : Nat) (h : i < l.length) (j : Nat), j < 10 → (flatB l)[i * 10 + j]? = l[i].enc[j]?
  | x :: r, 0, _, j, hj => by
    rw [flatB_cons, Nat.zero_mul, Nat.zero_add, List.getElem?_append_left (by rw [Rb.enc_length]; exact hj)]
    rfl
  | x :: r, i + 1, h, j, hj => by
    rw [flatB_cons, List.getElem?_append_right (by rw [Rb.enc_length]; omega), Rb.enc_length, show (i + 1) * 10 + j - 10 = i * 10 + j by omega, flatB_get r i (by simpa using h) j hj]
    rfl
/-- A begun packet's cells. -/
def BAt (w : World) (b o : Nat) (k : Rb) : Prop :=
  w.cell? ⟨b, o, none⟩ = some (.int .i64 k.p.id) ∧ w.cell? ⟨b, o + 1, none⟩ = some (.bool k.p.m) ∧ w.cell? ⟨b, o + 2, none⟩ = some (.int .i64 k.p.off) ∧ w.cell? ⟨b, o + 3, none⟩ = some (.int .i64 k.p.ttl) ∧ w.cell? ⟨b, o + 4, none⟩ = some (.int .i64 k.p.pr) ∧ w.cell? ⟨b, o + 5, none⟩ = some (.string (ipB k.p.a)) ∧ w.cell? ⟨b, o + 6, none⟩ = some (.string (ipB k.p.b)) ∧ w.cell? ⟨b, o + 7, none⟩ = some (.string k.p.s) ∧ w.cell? ⟨b, o + 8, none⟩ = some (.int .i64 k.at_) ∧ w.cell? ⟨b, o + 9, none⟩ = some (.string (bl k.d))
/-- The packets that are begun, as they lie in a block. -/
def RowB (w : World) (o cap : Nat) (ks : List Rb) : Prop :=
  ∃ cur : Array Value, w.heap[o]? = some (.cells cur 55) ∧ cur.size = cap * 10 ∧ ks.length ≤ cap ∧ cap ≤ maxLen ∧ cur.toList.take (ks.length * 10) = flatB ks
theorem RowB.lt {w : World} {o cap : Nat} {ks : List Rb} (h : RowB w o cap ks) : o < w.heap.size := by
  obtain ⟨cur, h1, _⟩ := h
  exact lies_lt h1
theorem RowB.below {w w' : World} {o cap B : Nat} {ks : List Rb} (h : RowB w o cap ks) (hb : Below B w w') (hlt : o < B) : RowB w' o cap ks := by
  obtain ⟨cur, h1, h2⟩ := h
  exact ⟨cur, (hb.block o hlt).trans h1, h2⟩
theorem RowB.at {w : World} {o cap : Nat} {ks : List Rb} (h : RowB w o cap ks) (i : Nat) (hi : i < ks.length) : BAt w o (i * 10) ks[i] := by
  obtain ⟨cur, h1, h2, h3, h4, h5⟩ := h
  have hc : ∀ j (hj : j < 10), w.cell? ⟨o, i * 10 + j, none⟩ = some (ks[i].enc[j]'(by rw [Rb.enc_length]; exact hj)) := fun j hj => by
    rw [lies_cell h1]
    have e : cur.toList[i * 10 + j]? = (flatB ks)[i * 10 + j]? := by
      rw [← h5, List.getElem?_take_of_lt (by omega)]
    rw [← Array.getElem?_toList, e, flatB_get ks i hi j hj]
    exact List.getElem?_eq_getElem _
  exact ⟨hc 0 (by omega), hc 1 (by omega), hc 2 (by omega), hc 3 (by omega), hc 4 (by omega), hc 5 (by omega), hc 6 (by omega), hc 7 (by omega), hc 8 (by omega), hc 9 (by omega)⟩
/-- A row that a call owns. -/
theorem RowB.of_own {w : World} {base n : Nat} {v : Value} {ks : List Rb} (h : w.ownsRow base 55 10 v n (flatB ks)) (hpos : 0 < n) : ∃ o cap, v = .slice (some ⟨o, 0, none⟩) n cap ∧ base ≤ o ∧ n = ks.length ∧ RowB w o cap ks := by
  have hl := h.1
  rw [flatB_length] at hl
  have hn : n = ks.length := by omega
  rcases h.2 with ⟨_, h0⟩ | ⟨g, cap, cur, hv, hg, h1, h2, h3, h4, h5⟩
  · omega
  · exact ⟨g, cap, hv, hg, hn, cur, h1, h4, by omega, h3, by rw [← hn]; exact h5⟩
theorem RowB.own {w : World} {base o cap : Nat} {ks : List Rb} (h : RowB w o cap ks) (hb : base ≤ o) : w.ownsRow base 55 10 (.slice (some ⟨o, 0, none⟩) ks.length cap) ks.length (flatB ks) := by
  obtain ⟨cur, h1, h2, h3, h4, h5⟩ := h
  exact ⟨flatB_length ks, .inr ⟨o, cap, cur, rfl, hb, h1, h3, h4, h2, h5⟩⟩

theorem RowB.put {w : World} {o cap : Nat} {ks : List Rb} (h : RowB w o cap ks) (i : Nat) (hi : i < ks.length) (x : Rb) : RowB (w.setCells o (i * 10) x.enc) o cap (ks.set i x) := by
  obtain ⟨cur, h1, h2, h3, h4, h5⟩ := h
  refine ⟨Lib.lay cur (i * 10) x.enc, heap_setCells _ _ _ _ _ _ h1, by rw [Lib.lay_size]; exact h2, by simpa using h3, h4, ?_⟩
  have hcs : cur.toList.length = cap * 10 := by simpa using h2
  apply List.ext_getElem?
  intro j
  by_cases hj : j < ks.length * 10
  · rw [List.getElem?_take_of_lt (by simpa using hj), Array.getElem?_toList, Lib.lay_get? _ _ _ _ (by rw [Rb.enc_length, h2]; omega)]
    obtain ⟨q, r, hr, rfl⟩ : ∃ q r, r < 10 ∧ j = q * 10 + r := ⟨j / 10, j % 10, Nat.mod_lt _ (by omega), by omega⟩
    have hq : q < ks.length := by omega
    rw [flatB_get (ks.set i x) q (by simpa using hq) r hr, Rb.enc_length]
    by_cases e : q = i
    · subst e
      rw [if_pos (by omega)]
      simp
    · rw [if_neg (by omega)]
      have e2 : cur[q * 10 + r]? = (flatB ks)[q * 10 + r]? := by
        rw [← h5, List.getElem?_take_of_lt hj, Array.getElem?_toList]
      rw [e2, flatB_get ks q hq r hr, List.getElem_set_ne (fun h => e h.symm)]
  · rw [List.getElem?_eq_none (by simp [Lib.lay_size]; omega), List.getElem?_eq_none (by rw [flatB_length]; simp; omega)]
theorem RowB.there {w : World} {o cap : Nat} {ks : List Rb} (h : RowB w o cap ks) (i : Nat) (hi : i < ks.length) : w.there o (i * 10) 10 := by
  obtain ⟨cur, h1, h2, h3, h4, h5⟩ := h
  intro j hj
  refine ⟨?_, lies_frozen h1 _⟩
  rw [lies_cell h1, Array.getElem?_eq_getElem (by omega)]
  rfl
/-- Of the first keys alone. -/
theorem RowB.cut {w : World} {o cap : Nat} {ks : List Rb} (h : RowB w o cap ks) (n : Nat) : RowB w o cap (ks.take n) := by
  obtain ⟨cur, h1, h2, h3, h4, h5⟩ := h
  refine ⟨cur, h1, h2, by simp; omega, h4, ?_⟩
  have e : flatB (ks.take n) = (flatB ks).take ((ks.take n).length * 10) := by
    have e1 : flatB ks = flatB (ks.take n) ++ flatB (ks.drop n) := by rw [← flatB_append, List.take_append_drop]
    rw [e1, List.take_left' (flatB_length _)]
  rw [e, ← h5, List.take_take]
  congr 1
  all_goals (first | (simp; omega) | simp)
end Go.Proofs.Ytgdjcoodjdckkaa
/- The document's table: New, Same, wrong. -/
set_option maxRecDepth 100000
namespace Go.Proofs.Ytgdjcoodjdckkaa
open Go.RowKit Go.Proofs.PitotIp Go.Maps
open Go.Proofs.PitotReasm (Bg Tb Fine bad first next passed passE put keep)
open Go.Proofs.Ytgdjcoodjdckkaa.Bi (lies_lt lies_cell lies_frozen lies_alloc lies_set)

abbrev refC (lv : Value) (most wait now : Int) (dr : Int) : Obj := .cells #[lv, .int .i64 most, .int .i64 wait, .int .i64 now, .int .i64 dr] 49
/-- The document's table at block rp. -/
structure Ref (base : Nat) (w : World) (rp : Nat) (most wait : Int) (L : List Rb) (now : Int) (dr : Nat) (lv : Value) : Prop where
  hp : base ≤ rp
  tab : w.heap[rp]? = some (refC lv most wait now dr)
  row : w.ownsRow base 55 10 lv L.length (flatB L)
def RefAt (base : Nat) (w : World) (rp : Nat) (most wait : Int) (L : List Rb) (now : Int) (dr : Nat) : Prop := ∃ lv, Ref base w rp most wait L now dr lv
/-- Blocks below base are as they were, and blocks of cells of other kinds. -/
structure Fq (base : Nat) (w w' : World) : Prop where
  below : Below base w w'
  kind : ∀ (k : Nat) (cs : Array Value) (ty : TypeId) (fr : Nat × Nat), ty ≠ 49 → ty ≠ 55 → w.heap[k]? = some (Obj.cells cs ty fr) → w'.heap[k]? = some (Obj.cells cs ty fr)
  maps : ∀ (k : Nat) (es : Array MapEntry) (cl : Nat), w.heap[k]? = some (Obj.map es cl) → w'.heap[k]? = some (Obj.map es cl)
theorem Fq.trans {base : Nat} {w w1 w2 : World} (h : Fq base w w1) (g : Fq base w1 w2) : Fq base w w2 := ⟨h.below.trans g.below, fun k cs ty fr a b e => g.kind k cs ty fr a b (h.kind k cs ty fr a b e), fun k es cl e => g.maps k es cl (h.maps k es cl e)⟩
theorem Fq.of {base : Nat} {w w' : World} (h : Below w.heap.size w w') (hb : base ≤ w.heap.size) : Fq base w w' := ⟨h.mono hb, fun k _ _ _ _ _ e => (h.block k (Array.getElem?_eq_some_iff.1 e).1).trans e, fun k _ _ e => (h.block k (Array.getElem?_eq_some_iff.1 e).1).trans e⟩
theorem Fq.refl {base : Nat} {w : World} : Fq base w w := ⟨Below.refl _ _, fun _ _ _ _ _ _ e => e, fun _ _ _ e => e⟩
theorem Fq.grown {base : Nat} {w w' : World} {g : Nat} (h : w.grownBy w' (some g)) (hg : base ≤ g) (hb : base ≤ w.heap.size) {cs : Array Value} {ty : TypeId} {fr : Nat × Nat} (ht : w.heap[g]? = some (.cells cs ty fr)) (hty : ty = 49 ∨ ty = 55) : Fq base w w' := by
  refine ⟨⟨h.os, h.tape, h.output, h.size, fun k hk => h.block k (by omega) (by simp; omega)⟩, fun k cs' ty' fr' h1 h2 e => ?_, fun k es cl e => (h.block k (Array.getElem?_eq_some_iff.1 e).1 (by intro e2; injection e2 with e2; subst e2; rw [ht] at e; cases e)).trans e⟩
  have : k ≠ g := fun e1 => by
    subst e1; rw [ht] at e; injection e with e; injection e with _ e2 _
    rcases hty with rfl | rfl
    · exact h1 e2.symm
    · exact h2 e2.symm
  exact (h.block k (Array.getElem?_eq_some_iff.1 e).1 (by simpa using this)).trans e
theorem Fq.drew {base : Nat} {w w' : World} (h : Fq base w w') : Fq base w w'.drew := ⟨h.below.drew, h.kind, h.maps⟩
theorem Fq.fresh {base : Nat} {w W W' : World} (h : Fq base w W) {g : Nat} (hg : W.grownBy W' (some g)) (_hb : base ≤ w.heap.size) (hgw : w.heap.size ≤ g) : Fq base w W' := by
  have hs := h.below.size
  refine ⟨h.below.trans ⟨hg.os, hg.tape, hg.output, hg.size, fun k hk => hg.block k (by omega) (by intro e; injection e with e; omega)⟩, fun k cs ty fr h1 h2 e => ?_, fun k es cl e => ?_⟩
  · have hk := (Array.getElem?_eq_some_iff.1 e).1
    have e1 := h.kind k cs ty fr h1 h2 e
    exact (hg.block k (Array.getElem?_eq_some_iff.1 e1).1 (by intro e; injection e with e; omega)).trans e1
  · have hk := (Array.getElem?_eq_some_iff.1 e).1
    have e1 := h.maps k es cl e
    exact (hg.block k (Array.getElem?_eq_some_iff.1 e1).1 (by intro e; injection e with e; omega)).trans e1
theorem Ref.lt {base : Nat} {w : World} {rp : Nat} {most wait : Int} {L : List Rb} {now : Int} {dr : Nat} {lv : Value} (h : Ref base w rp most wait L now dr lv) : rp < w.heap.size ∧ base ≤ w.heap.size := by
  have := lies_lt h.tab; have := h.hp
  exact ⟨by omega, by omega⟩
theorem Ref.of {base : Nat} {w w' : World} {rp : Nat} {most wait : Int} {L : List Rb} {now : Int} {dr : Nat} {lv : Value} (h : Ref base w rp most wait L now dr lv) (hg : w.grownBy w' none) : Ref base w' rp most wait L now dr lv :=
  ⟨h.hp, (hg.block rp h.lt.1 (by simp)).trans h.tab, h.row.kept hg (by cases hh : lv.ownBlock <;> simp)⟩
theorem Ref.below {base : Nat} {w w' : World} {rp : Nat} {most wait : Int} {L : List Rb} {now : Int} {dr : Nat} {lv : Value} (h : Ref base w rp most wait L now dr lv) (hb : Below w.heap.size w w') : Ref base w' rp most wait L now dr lv := h.of (grown_below hb none)
theorem RefAt.below {base : Nat} {w w' : World} {rp : Nat} {most wait : Int} {L : List Rb} {now : Int} {dr : Nat} (h : RefAt base w rp most wait L now dr) (hb : Below w.heap.size w w') : RefAt base w' rp most wait L now dr := by
  obtain ⟨lv, h⟩ := h; exact ⟨lv, h.below hb⟩
/-- A block of another kind is turned. -/
theorem Ref.away {base : Nat} {w w' : World} {rp : Nat} {most wait : Int} {L : List Rb} {now : Int} {dr : Nat} {lv : Value} (h : Ref base w rp most wait L now dr lv) {g : Nat} (hg : w.grownBy w' (some g)) {cs : Array Value} {ty : TypeId} {fr : Nat × Nat} (hk : w.heap[g]? = some (Obj.cells cs ty fr)) (h1 : ty ≠ 49) (h2 : ty ≠ 55) : Ref base w' rp most wait L now dr lv := by
  refine ⟨h.hp, (hg.block rp h.lt.1 (by
    intro e; injection e with e; subst e
    have := h.tab; rw [hk] at this; injection this with this; injection this with _ e2; exact h1 e2)).trans h.tab, h.row.kept hg ?_⟩
  rcases h.row.2 with ⟨e, _⟩ | ⟨g', cap, cur, e, _, hcur, _⟩
  · left; rw [e]; rfl
  · right
    rw [e]
    intro e2
    simp [Value.ownBlock] at e2
    subst e2
    rw [hk] at hcur; injection hcur with hcur; injection hcur with _ e2; exact h2 e2
/-- A number of the table's own, or its row, is stored. -/
theorem Ref.set {base : Nat} {w : World} {rp : Nat} {most wait : Int} {L : List Rb} {now now' : Int} {dr dr' : Nat} {lv : Value} (h : Ref base w rp most wait L now dr lv) (i : Nat) (v : Value) (hL : (w.setCell ⟨rp, i, none⟩ v).heap[rp]? = some (refC lv most wait now' dr')) : Ref base (w.setCell ⟨rp, i, none⟩ v) rp most wait L now' dr' lv ∧ Fq base w (w.setCell ⟨rp, i, none⟩ v) := by
  refine ⟨⟨h.hp, hL, h.row.kept (Bi.grown_set rp i _) ?_⟩, Fq.grown (Bi.grown_set rp i _) h.hp h.lt.2 h.tab (.inl rfl)⟩
  rcases h.row.2 with ⟨e, _⟩ | ⟨g', cap, cur, e, _, hcur, _⟩
  · left; rw [e]; rfl
  · right
    rw [e]
    intro e2
    simp [Value.ownBlock] at e2
    subst e2
    have := h.tab
    rw [hcur] at this; injection this with this; injection this with _ e2; exact absurd e2 (by decide)

set_option maxHeartbeats 2000000 in
theorem refNew_ok (w : World) (most : Nat) (wait : Int) (h1 : 1 ≤ most) (h2 : most ≤ 64) (h3 : 0 ≤ wait) (h4 : wait ≤ 1125899906842624) :
    Calls Try.prog 10 #[.int .i64 most, .int .i64 wait] w fun e w' => ∃ rp, e = .returned (.tuple #[.pointer (some ⟨rp, 0, none⟩), .int .i64 0]) ∧ RefAt w.heap.size w' rp most wait [] 0 0 ∧ Below w.heap.size w w' := by
  have e1 : decide ((most : Int) < 1) = false := decide_eq_false (by omega)
  have e2 : decide (64 < (most : Int)) = false := decide_eq_false (by omega)
  have e3 : decide (wait < 0) = false := decide_eq_false (by omega)
  have e4 : decide (1125899906842624 < wait) = false := decide_eq_false (by omega)
  have e1' : decide (most < 1) = false := decide_eq_false (by omega)
  have e2' : decide (64 < most) = false := decide_eq_false (by omega)
  clear h1 h2 h3 h4
  go_enter Try.func10, Try.ntmps10
  go_wp2
  go_returns
  exact ⟨w.heap.size, rfl, ⟨.slice none 0 0, Nat.le_refl _, heap_alloc_new w _, ⟨rfl, .inl ⟨rfl, rfl⟩⟩⟩, (Below.refl _ w).alloc (Nat.le_refl _) _⟩
set_option maxHeartbeats 2000000 in
theorem refNew_bad (w : World) (most wait : Int) (h : most < 1 ∨ 64 < most ∨ wait < 0 ∨ 1125899906842624 < wait) :
    Calls Try.prog 10 #[.int .i64 most, .int .i64 wait] w fun e w' => e = .returned (.tuple #[.pointer none, .int .i64 1]) ∧ w' = w := by
  by_cases h1 : most < 1
  · have e1 : decide (most < 1) = true := decide_eq_true h1
    clear h h1
    go_enter Try.func10, Try.ntmps10
    go_wp2
    go_returns
    exact ⟨rfl, rfl⟩
  · have e1 : decide (most < 1) = false := decide_eq_false h1
    by_cases h2 : 64 < most
    · have e2 : decide (64 < most) = true := decide_eq_true h2
      clear h h1 h2
      go_enter Try.func10, Try.ntmps10
      go_wp2
      go_returns
      exact ⟨rfl, rfl⟩
    · have e2 : decide (64 < most) = false := decide_eq_false h2
      by_cases h3 : wait < 0
      · have e3 : decide (wait < 0) = true := decide_eq_true h3
        clear h h1 h2 h3
        go_enter Try.func10, Try.ntmps10
        go_wp2
        go_returns
        exact ⟨rfl, rfl⟩
      · have e3 : decide (wait < 0) = false := decide_eq_false h3
        have e4 : decide (1125899906842624 < wait) = true := decide_eq_true (by omega)
        clear h h1 h2 h3
        go_enter Try.func10, Try.ntmps10
        go_wp2
        go_returns
        exact ⟨rfl, rfl⟩

theorem ipB_inj {x y : Q4} (h : ipB x = ipB y) : x = y := by
  obtain ⟨a, b, c, d⟩ := x
  obtain ⟨a', b', c', d'⟩ := y
  simp only [ipB, ByteArray.mk.injEq, Array.mk.injEq, List.cons.injEq, and_true] at h
  obtain ⟨rfl, rfl, rfl, rfl⟩ := h
  rfl
theorem str_eq (x y : ByteArray) : (x.toList == y.toList) = decide (x = y) := by
  by_cases h : x = y
  · subst h; simp
  · have : x.toList ≠ y.toList := fun e => by
      rw [ByteArray.toList_eq, ByteArray.toList_eq] at e
      obtain ⟨⟨x⟩⟩ := x; obtain ⟨⟨y⟩⟩ := y
      simp only at e
      exact h (by rw [e])
    rw [decide_eq_false h]
    simpa using this
set_option maxHeartbeats 2000000 in
/-- Same. -/
theorem same_any (p q : Pk) (hp : p.Wf) (hq : q.Wf) (w : World) : Calls Try.prog 19 #[p.rv, q.rv] w fun e w' => e = .returned (.bool (decide (p.key hp = q.key hq))) ∧ Below w.heap.size w w' := by
  obtain ⟨R, HR⟩ : ∃ R, Hid (R = decide (p.key hp = q.key hq)) := ⟨_, rfl⟩
  rw [← HR.out]
  have hR := HR.out
  have kb : Hid (Below w.heap.size w ((w.alloc p.rvC).alloc q.rvC)) := by
    have k1 := (Below.refl w.heap.size w).alloc (Nat.le_refl _) p.rvC
    exact k1.alloc k1.size _
  have ne : ∀ (x y : Q4), x ≠ y → ((ipB x).toList == (ipB y).toList) = false := fun x y h => by rw [str_eq]; exact decide_eq_false fun e => h (ipB_inj e)
  have NE := Lib.hid ne; clear ne
  obtain ⟨id, m, off, ttl, pr, a, b, s⟩ := p
  obtain ⟨id', m', off', ttl', pr', a', b', s'⟩ := q
  simp only [Pk.key, K.mk.injEq] at hR
  by_cases h1 : a = a'
  · have e1 : ((ipB a).toList == (ipB a').toList) = true := by rw [h1]; simp
    by_cases h2 : b = b'
    · have e2 : ((ipB b).toList == (ipB b').toList) = true := by rw [h2]; simp
      by_cases h3 : pr = pr'
      · by_cases h4 : id = id'
        · have e3 : (pr == pr') = true := by simpa using h3
          have e4 : (id == id') = true := by simpa using h4
          obtain rfl : R = true := by rw [hR]; exact decide_eq_true ⟨h1, h2, h3, h4⟩
          clear h1 h2 h3 h4 hR HR
          go_enter Try.func19, Try.ntmps19
          go_wp2
          go_returns
          exact ⟨rfl, kb.out⟩
        · have e3 : (pr == pr') = true := by simpa using h3
          have e4 : (id == id') = false := by simpa using h4
          obtain rfl : R = false := by rw [hR]; exact decide_eq_false fun x => h4 x.2.2.2
          clear h1 h2 h3 h4 hR HR
          go_enter Try.func19, Try.ntmps19
          go_wp2
          go_returns
          exact ⟨rfl, kb.out⟩
      · have e3 : (pr == pr') = false := by simpa using h3
        obtain rfl : R = false := by rw [hR]; exact decide_eq_false fun x => h3 x.2.2.1
        clear h1 h2 h3 hR HR
        go_enter Try.func19, Try.ntmps19
        go_wp2
        go_returns
        exact ⟨rfl, kb.out⟩
    · have e2 := NE.out b b' h2
      obtain rfl : R = false := by rw [hR]; exact decide_eq_false fun x => h2 x.2.1
      clear h1 h2 hR HR
      go_enter Try.func19, Try.ntmps19
      go_wp2
      go_returns
      exact ⟨rfl, kb.out⟩
  · have e1 := NE.out a a' h1
    obtain rfl : R = false := by rw [hR]; exact decide_eq_false fun x => h1 x.1
    clear h1 hR HR
    go_enter Try.func19, Try.ntmps19
    go_wp2
    go_returns
    exact ⟨rfl, kb.out⟩
set_option maxHeartbeats 2000000 in
/-- wrong. -/
theorem wrong_any (p : Pk) (w : World) (hs : p.s.size ≤ 1000000000) : Calls Try.prog 28 #[p.rv] w fun e w' => e = .returned (.bool (bad p.m p.d)) ∧ Below w.heap.size w w' := by
  obtain ⟨R, HR⟩ : ∃ R, Hid (R = bad p.m p.d) := ⟨_, rfl⟩
  rw [← HR.out]
  have hR := HR.out
  have kb : Hid (Below w.heap.size w (w.alloc p.rvC)) := (Below.refl _ w).alloc (Nat.le_refl _) _
  have hl := p.d_length
  simp only [bad, hl] at hR
  obtain ⟨id, m, off, ttl, pr, a, b, s⟩ := p
  simp only at hR hs
  clear hl HR
  cases m
  · obtain rfl : R = false := by rw [hR]; simp
    clear hR
    go_enter Try.func28, Try.ntmps28
    go_wp2
    go_returns
    exact ⟨rfl, kb.out⟩
  · by_cases h2 : s.size = 0
    · obtain rfl : R = true := by rw [hR]; simp [h2]
      have h3 : (s.toList == []) = true := by
        have : s.toList = [] := by rw [ByteArray.toList_eq]; exact List.length_eq_zero_iff.1 (by simpa using h2)
        rw [this]; rfl
      clear hR
      go_enter Try.func28, Try.ntmps28
      go_wp2
      go_returns
      exact ⟨rfl, kb.out⟩
    · have h3 : (s.toList == []) = false := by
        have : s.toList ≠ [] := by rw [ByteArray.toList_eq]; intro e; apply h2; have := congrArg List.length e; simpa using this
        simpa using this
      by_cases h4 : s.size % 8 = 0
      · obtain rfl : R = false := by rw [hR]; simp [h2, h4]
        have h5 : (s.size : Int) % 8 = 0 := by omega
        clear hR
        go_enter Try.func28, Try.ntmps28
        go_wp2
        go_returns
        exact ⟨rfl, kb.out⟩
      · obtain rfl : R = true := by rw [hR]; simp [h4]
        have h5 : ((s.size : Int) % 8 != 0) = true := by simp; omega
        clear hR
        go_enter Try.func28, Try.ntmps28
        go_wp2
        go_returns
        exact ⟨rfl, kb.out⟩
end Go.Proofs.Ytgdjcoodjdckkaa
/- The document's table: find. -/
set_option maxRecDepth 100000
namespace Go.Proofs.Ytgdjcoodjdckkaa
open Go.RowKit Go.Proofs.PitotIp Go.Maps
open Go.Proofs.PitotReasm (Bg Tb Fine bad first next passed passE put keep)
open Go.Proofs.Ytgdjcoodjdckkaa.Bi (lies_lt lies_cell lies_frozen lies_alloc lies_set)

set_option maxHeartbeats 4000000 in
theorem find_row (w : World) (rp o cap n : Nat) (most wait now dr : Int) (L : List Rb) (q : Pk) (hq : q.Wf) (hn : n = L.length) (hcap : n ≤ 64) (ht : w.heap[rp]? = some (refC (.slice (some ⟨o, 0, none⟩) n cap) most wait now dr)) (hr : RowB w o cap L) (p : Nat) (hp : p ≤ n) (h1 : ∀ i (_ : i < p) (h : i < L.length), L[i].k ≠ q.key hq) (h2 : ∀ (h : p < L.length), L[p].k = q.key hq) :
    Calls Try.prog 26 #[.pointer (some ⟨rp, 0, none⟩), q.rv] w fun e w' => e = .returned (.int .i64 (if p < n then (p : Int) else -1)) ∧ Below w.heap.size w w' := by
  have k0 : Below w.heap.size w (w.alloc q.rvC) := (Below.refl _ w).alloc (Nat.le_refl _) _
  have T0 : Hid ((w.alloc q.rvC).heap[rp]? = some (refC (.slice (some ⟨o, 0, none⟩) n cap) most wait now dr)) := lies_alloc ht _
  have R0 : Hid (RowB (w.alloc q.rvC) o cap L) := hr.below k0 hr.lt
  have Q0 : Hid ((w.alloc q.rvC).heap[w.heap.size]? = some q.rvC) := heap_alloc_new w _
  have K0 := Lib.hid k0
  have HSAME := Lib.hid (fun (c : Rb) w => same_any c.p q c.hw hq w)
  obtain ⟨RES, HRES⟩ : ∃ x : Int, Hid (x = if p < n then (p : Int) else -1) := ⟨_, rfl⟩
  rw [← HRES.out]
  have Hn := Lib.hid hn; have H1' := Lib.hid h1; have H2' := Lib.hid h2
  clear hn h1 h2 ht hr k0
  go_enter Try.func26, Try.ntmps26
  go_wp2
  go_loopw [5] (fun v5 wr => ∃ (i : Nat), i ≤ p ∧ v5 = .int .i64 i ∧ wr.heap[rp]? = some (refC (.slice (some ⟨o, 0, none⟩) n cap) most wait now dr) ∧ RowB wr o cap L ∧ wr.heap[w.heap.size]? = some q.rvC ∧ Below w.heap.size w wr) (fun v5 _ => n - (intOf v5).toNat)
  case atStart => exact ⟨0, Nat.zero_le _, rfl, T0.out, R0.out, Q0.out, K0.out⟩
  case round =>
    obtain ⟨i, hi, rfl, hT, hR, hQ, hb⟩ := hrel
    have H1 := Lib.hid hT; have H2 := Lib.hid hR; have H3 := Lib.hid hQ; have HB := Lib.hid hb
    clear hT hR hQ hb
    have hc0 : wr.cell? ⟨rp, 0, none⟩ = some (.slice (some ⟨o, 0, none⟩) n cap) := lies_cell H1.out 0
    by_cases hin : i < n
    · have hil : i < L.length := by rw [← Hn.out]; exact hin
      have iInt : (i : Int) < n := by omega
      obtain ⟨x, HX⟩ : ∃ x, Hid (L[i] = x) := ⟨L[i], Lib.hid rfl⟩
      have hdec : decide (x.k = q.key hq) = decide (i = p) := by
        rw [← HX.out]
        by_cases e : i = p
        · subst e; rw [decide_eq_true rfl, decide_eq_true (H2'.out hil)]
        · rw [decide_eq_false e]; exact decide_eq_false (H1'.out i (by omega) hil)
      have hs := HSAME.out x
      rw [show decide (x.p.key x.hw = q.key hq) = decide (i = p) from hdec] at hs
      clear hdec
      by_cases e : i = p
      · rw [decide_eq_true e] at hs
        have HS := Lib.hid hs; clear hs
        obtain rfl : RES = i := by rw [HRES.out, if_pos (by omega), e]
        clear e
        go_upto_region 4 with (fail)
        refine wp_region_held_drew (S := fun w' => w'.heap[rp]? = some (refC (.slice (some ⟨o, 0, none⟩) n cap) most wait now dr) ∧ RowB w' o cap L ∧ w'.heap[w.heap.size]? = some q.rvC) (by kernel_rfl) ?_ (fun hHeld => ?_)
        · exact ⟨H1.out, H2.out, H3.out⟩
        refine wpAnyH_take (i := 0) (oi := { dst := some 15, op := Go.Op.move (Go.Operand.tmp 0), type := 27, pos := "ref.go:61", after := #[], guard := none }) (v := ?_) rfl (by kernel_rfl) (by kernel_rfl) (by kernel_rfl) (fun _ _ _ h => h) (Or.inl ⟨by rfl, ?_⟩) (by assumption) ?_
        rotate_left
        focus ((intro w hSw; (try dsimp only at hSw); clear hSw; go_simp) <;> (with_reducible rfl))
        try simp only [Act.put, List.setIfInBounds_toArray, List.set_cons_zero, List.set_cons_succ]
        refine wpAnyH_take (i := 1) (oi := { dst := some 16, op := Go.Op.nilCheck (Go.Operand.tmp 15), type := 0, pos := "ref.go:61", after := #[{ on := 0, ground := Go.Ground.data }], guard := none }) (v := ?_) rfl (by kernel_rfl) (by kernel_rfl) (by kernel_rfl) (fun _ _ _ h => h) (Or.inl ⟨by rfl, ?_⟩) (by assumption) ?_
        rotate_left
        focus ((intro w hSw; (try dsimp only at hSw); clear hSw; go_simp) <;> (with_reducible rfl))
        try simp only [Act.put, List.setIfInBounds_toArray, List.set_cons_zero, List.set_cons_succ]
        refine wpAnyH_take (i := 2) (oi := { dst := some 17, op := Go.Op.fieldAddr 49 (Go.Operand.tmp 16) 0, type := 0, pos := "ref.go:61", after := #[{ on := 1, ground := Go.Ground.data }], guard := none }) (v := ?_) rfl (by kernel_rfl) (by kernel_rfl) (by kernel_rfl) (fun _ _ _ h => h) (Or.inl ⟨by rfl, ?_⟩) (by assumption) ?_
        rotate_left
        focus ((intro w hSw; (try dsimp only at hSw); clear hSw; go_simp) <;> (with_reducible rfl))
        try simp only [Act.put, List.setIfInBounds_toArray, List.set_cons_zero, List.set_cons_succ]
        refine wpAnyH_take (i := 3) (oi := { dst := some 18, op := Go.Op.load 47 (Go.Operand.tmp 17), type := 47, pos := "ref.go:61", after := #[{ on := 2, ground := Go.Ground.data }], guard := none }) (v := ?_) rfl (by kernel_rfl) (by kernel_rfl) (by kernel_rfl) (fun _ _ _ h => h) (Or.inl ⟨by rfl, ?_⟩) (by assumption) ?_
        rotate_left
        focus ((intro w hSw; (try dsimp only at hSw); have hc : w.cell? ⟨rp, 0, none⟩ = some (.slice (some ⟨o, 0, none⟩) n cap) := lies_cell hSw.1 0; clear hSw; go_simp) <;> (with_reducible rfl))
        try simp only [Act.put, List.setIfInBounds_toArray, List.set_cons_zero, List.set_cons_succ]
        refine wpAnyH_take (i := 4) (oi := { dst := some 19, op := Go.Op.move (Go.Operand.tmp 5), type := 3, pos := "ref.go:61", after := #[], guard := none }) (v := ?_) rfl (by kernel_rfl) (by kernel_rfl) (by kernel_rfl) (fun _ _ _ h => h) (Or.inl ⟨by rfl, ?_⟩) (by assumption) ?_
        rotate_left
        focus ((intro w hSw; (try dsimp only at hSw); clear hSw; go_simp) <;> (with_reducible rfl))
        try simp only [Act.put, List.setIfInBounds_toArray, List.set_cons_zero, List.set_cons_succ]
        refine wpAnyH_take (i := 5) (oi := { dst := some 20, op := Go.Op.indexAddr 47 (Go.Operand.tmp 18) (Go.Operand.tmp 19), type := 0, pos := "ref.go:61", after := #[{ on := 3, ground := Go.Ground.data }, { on := 4, ground := Go.Ground.data }], guard := none }) (v := ?_) rfl (by kernel_rfl) (by kernel_rfl) (by kernel_rfl) (fun _ _ _ h => h) (Or.inl ⟨by rfl, ?_⟩) (by assumption) ?_
        rotate_left
        focus ((intro w hSw; (try dsimp only at hSw); clear hSw; go_simp) <;> (with_reducible rfl))
        try simp only [Act.put, List.setIfInBounds_toArray, List.set_cons_zero, List.set_cons_succ]
        refine wpAnyH_take (i := 6) (oi := { dst := some 21, op := Go.Op.fieldAddr 55 (Go.Operand.tmp 20) 0, type := 0, pos := "ref.go:61", after := #[{ on := 5, ground := Go.Ground.data }], guard := none }) (v := ?_) rfl (by kernel_rfl) (by kernel_rfl) (by kernel_rfl) (fun _ _ _ h => h) (Or.inl ⟨by rfl, ?_⟩) (by assumption) ?_
        rotate_left
        focus ((intro w hSw; (try dsimp only at hSw); clear hSw; go_simp) <;> (with_reducible rfl))
        try simp only [Act.put, List.setIfInBounds_toArray, List.set_cons_zero, List.set_cons_succ]
        refine wpAnyH_take (i := 7) (oi := { dst := some 22, op := Go.Op.load 41 (Go.Operand.tmp 21), type := 41, pos := "ref.go:61", after := #[{ on := 6, ground := Go.Ground.data }], guard := none }) (v := ?_) rfl (by kernel_rfl) (by kernel_rfl) (by kernel_rfl) (fun _ _ _ h => h) (Or.inl ⟨by rfl, ?_⟩) (by assumption) ?_
        rotate_left
        focus ((intro w hSw; (try dsimp only at hSw); have hb := hSw.2.1.at i hil; rw [HX.out] at hb; obtain ⟨b0, b1, b2, b3, b4, b5, b6, b7, b8, b9⟩ := hb; clear hSw; go_simp) <;> (with_reducible rfl))
        try simp only [Act.put, List.setIfInBounds_toArray, List.set_cons_zero, List.set_cons_succ]
        refine wpAnyH_take (i := 8) (oi := { dst := some 23, op := Go.Op.load 41 (Go.Operand.tmp 3), type := 41, pos := "ref.go:61", after := #[], guard := none }) (v := ?_) rfl (by kernel_rfl) (by kernel_rfl) (by kernel_rfl) (fun _ _ _ h => h) (Or.inl ⟨by rfl, ?_⟩) (by assumption) ?_
        rotate_left
        focus ((intro w hSw; (try dsimp only at hSw); obtain ⟨q0, q1, q2, q3, q4, q5, q6, q7⟩ := cells8 hSw.2.2; clear hSw; go_simp) <;> (with_reducible rfl))
        try simp only [Act.put, List.setIfInBounds_toArray, List.set_cons_zero, List.set_cons_succ]
        refine wpAnyH_ready (rs := [9]) (by kernel_rfl) (by simp) ?_
        refine AllReadyH.cons (o := { dst := some 24, op := Go.Op.call { callee := Go.Callee.value (Go.Operand.func 19), args := #[Go.Operand.tmp 22, Go.Operand.tmp 23], argTypes := #[41, 41] }, type := 4, pos := "ref.go:61", after := #[{ on := 7, ground := Go.Ground.data }, { on := 8, ground := Go.Ground.data }], guard := none }) rfl (fun K hK => ?_) AllReadyH.nil
        go_simp
        (go_at_call 19; (with_reducible refine (HS.out _).mono ?_); rintro e V5 ⟨rfl, hb5⟩; go_wp2_with fail)
        refine hK.out _ _ ?_ (fun hHeld => ?_)
        · exact ⟨lies_below (w := wr.drew) H1.out hb5 (lies_lt H1.out), RowB.below (w := wr.drew) H2.out hb5 H2.out.lt, lies_below (w := wr.drew) H3.out hb5 (lies_lt H3.out)⟩
        clear hK K
        try simp only [Act.put, List.setIfInBounds_toArray, List.set_cons_zero, List.set_cons_succ]
        refine wpAnyH_done (by kernel_rfl) ?_ _
        clear hHeld
        go_wp2
        go_returns
        exact ⟨rfl, HB.out.drew.trans (hb5.mono HB.out.size)⟩
      · rw [decide_eq_false e] at hs
        have HS := Lib.hid hs; clear hs
        go_upto_region 4 with (fail)
        refine wp_region_held_drew (S := fun w' => w'.heap[rp]? = some (refC (.slice (some ⟨o, 0, none⟩) n cap) most wait now dr) ∧ RowB w' o cap L ∧ w'.heap[w.heap.size]? = some q.rvC) (by kernel_rfl) ?_ (fun hHeld => ?_)
        · exact ⟨H1.out, H2.out, H3.out⟩
        refine wpAnyH_take (i := 0) (oi := { dst := some 15, op := Go.Op.move (Go.Operand.tmp 0), type := 27, pos := "ref.go:61", after := #[], guard := none }) (v := ?_) rfl (by kernel_rfl) (by kernel_rfl) (by kernel_rfl) (fun _ _ _ h => h) (Or.inl ⟨by rfl, ?_⟩) (by assumption) ?_
        rotate_left
        focus ((intro w hSw; (try dsimp only at hSw); clear hSw; go_simp) <;> (with_reducible rfl))
        try simp only [Act.put, List.setIfInBounds_toArray, List.set_cons_zero, List.set_cons_succ]
        refine wpAnyH_take (i := 1) (oi := { dst := some 16, op := Go.Op.nilCheck (Go.Operand.tmp 15), type := 0, pos := "ref.go:61", after := #[{ on := 0, ground := Go.Ground.data }], guard := none }) (v := ?_) rfl (by kernel_rfl) (by kernel_rfl) (by kernel_rfl) (fun _ _ _ h => h) (Or.inl ⟨by rfl, ?_⟩) (by assumption) ?_
        rotate_left
        focus ((intro w hSw; (try dsimp only at hSw); clear hSw; go_simp) <;> (with_reducible rfl))
        try simp only [Act.put, List.setIfInBounds_toArray, List.set_cons_zero, List.set_cons_succ]
        refine wpAnyH_take (i := 2) (oi := { dst := some 17, op := Go.Op.fieldAddr 49 (Go.Operand.tmp 16) 0, type := 0, pos := "ref.go:61", after := #[{ on := 1, ground := Go.Ground.data }], guard := none }) (v := ?_) rfl (by kernel_rfl) (by kernel_rfl) (by kernel_rfl) (fun _ _ _ h => h) (Or.inl ⟨by rfl, ?_⟩) (by assumption) ?_
        rotate_left
        focus ((intro w hSw; (try dsimp only at hSw); clear hSw; go_simp) <;> (with_reducible rfl))
        try simp only [Act.put, List.setIfInBounds_toArray, List.set_cons_zero, List.set_cons_succ]
        refine wpAnyH_take (i := 3) (oi := { dst := some 18, op := Go.Op.load 47 (Go.Operand.tmp 17), type := 47, pos := "ref.go:61", after := #[{ on := 2, ground := Go.Ground.data }], guard := none }) (v := ?_) rfl (by kernel_rfl) (by kernel_rfl) (by kernel_rfl) (fun _ _ _ h => h) (Or.inl ⟨by rfl, ?_⟩) (by assumption) ?_
        rotate_left
        focus ((intro w hSw; (try dsimp only at hSw); have hc : w.cell? ⟨rp, 0, none⟩ = some (.slice (some ⟨o, 0, none⟩) n cap) := lies_cell hSw.1 0; clear hSw; go_simp) <;> (with_reducible rfl))
        try simp only [Act.put, List.setIfInBounds_toArray, List.set_cons_zero, List.set_cons_succ]
        refine wpAnyH_take (i := 4) (oi := { dst := some 19, op := Go.Op.move (Go.Operand.tmp 5), type := 3, pos := "ref.go:61", after := #[], guard := none }) (v := ?_) rfl (by kernel_rfl) (by kernel_rfl) (by kernel_rfl) (fun _ _ _ h => h) (Or.inl ⟨by rfl, ?_⟩) (by assumption) ?_
        rotate_left
        focus ((intro w hSw; (try dsimp only at hSw); clear hSw; go_simp) <;> (with_reducible rfl))
        try simp only [Act.put, List.setIfInBounds_toArray, List.set_cons_zero, List.set_cons_succ]
        refine wpAnyH_take (i := 5) (oi := { dst := some 20, op := Go.Op.indexAddr 47 (Go.Operand.tmp 18) (Go.Operand.tmp 19), type := 0, pos := "ref.go:61", after := #[{ on := 3, ground := Go.Ground.data }, { on := 4, ground := Go.Ground.data }], guard := none }) (v := ?_) rfl (by kernel_rfl) (by kernel_rfl) (by kernel_rfl) (fun _ _ _ h => h) (Or.inl ⟨by rfl, ?_⟩) (by assumption) ?_
        rotate_left
        focus ((intro w hSw; (try dsimp only at hSw); clear hSw; go_simp) <;> (with_reducible rfl))
        try simp only [Act.put, List.setIfInBounds_toArray, List.set_cons_zero, List.set_cons_succ]
        refine wpAnyH_take (i := 6) (oi := { dst := some 21, op := Go.Op.fieldAddr 55 (Go.Operand.tmp 20) 0, type := 0, pos := "ref.go:61", after := #[{ on := 5, ground := Go.Ground.data }], guard := none }) (v := ?_) rfl (by kernel_rfl) (by kernel_rfl) (by kernel_rfl) (fun _ _ _ h => h) (Or.inl ⟨by rfl, ?_⟩) (by assumption) ?_
        rotate_left
        focus ((intro w hSw; (try dsimp only at hSw); clear hSw; go_simp) <;> (with_reducible rfl))
        try simp only [Act.put, List.setIfInBounds_toArray, List.set_cons_zero, List.set_cons_succ]
        refine wpAnyH_take (i := 7) (oi := { dst := some 22, op := Go.Op.load 41 (Go.Operand.tmp 21), type := 41, pos := "ref.go:61", after := #[{ on := 6, ground := Go.Ground.data }], guard := none }) (v := ?_) rfl (by kernel_rfl) (by kernel_rfl) (by kernel_rfl) (fun _ _ _ h => h) (Or.inl ⟨by rfl, ?_⟩) (by assumption) ?_
        rotate_left
        focus ((intro w hSw; (try dsimp only at hSw); have hb := hSw.2.1.at i hil; rw [HX.out] at hb; obtain ⟨b0, b1, b2, b3, b4, b5, b6, b7, b8, b9⟩ := hb; clear hSw; go_simp) <;> (with_reducible rfl))
        try simp only [Act.put, List.setIfInBounds_toArray, List.set_cons_zero, List.set_cons_succ]
        refine wpAnyH_take (i := 8) (oi := { dst := some 23, op := Go.Op.load 41 (Go.Operand.tmp 3), type := 41, pos := "ref.go:61", after := #[], guard := none }) (v := ?_) rfl (by kernel_rfl) (by kernel_rfl) (by kernel_rfl) (fun _ _ _ h => h) (Or.inl ⟨by rfl, ?_⟩) (by assumption) ?_
        rotate_left
        focus ((intro w hSw; (try dsimp only at hSw); obtain ⟨q0, q1, q2, q3, q4, q5, q6, q7⟩ := cells8 hSw.2.2; clear hSw; go_simp) <;> (with_reducible rfl))
        try simp only [Act.put, List.setIfInBounds_toArray, List.set_cons_zero, List.set_cons_succ]
        refine wpAnyH_ready (rs := [9]) (by kernel_rfl) (by simp) ?_
        refine AllReadyH.cons (o := { dst := some 24, op := Go.Op.call { callee := Go.Callee.value (Go.Operand.func 19), args := #[Go.Operand.tmp 22, Go.Operand.tmp 23], argTypes := #[41, 41] }, type := 4, pos := "ref.go:61", after := #[{ on := 7, ground := Go.Ground.data }, { on := 8, ground := Go.Ground.data }], guard := none }) rfl (fun K hK => ?_) AllReadyH.nil
        go_simp
        (go_at_call 19; (with_reducible refine (HS.out _).mono ?_); rintro e V5 ⟨rfl, hb5⟩; go_wp2_with fail)
        refine hK.out _ _ ?_ (fun hHeld => ?_)
        · exact ⟨lies_below (w := wr.drew) H1.out hb5 (lies_lt H1.out), RowB.below (w := wr.drew) H2.out hb5 H2.out.lt, lies_below (w := wr.drew) H3.out hb5 (lies_lt H3.out)⟩
        clear hK K
        try simp only [Act.put, List.setIfInBounds_toArray, List.set_cons_zero, List.set_cons_succ]
        refine wpAnyH_done (by kernel_rfl) ?_ _
        go_wp2
        go_roundw
        case rel => exact ⟨i + 1, by omega, by go_num, hHeld.1, hHeld.2.1, hHeld.2.2, HB.out.drew.trans (hb5.mono HB.out.size)⟩
        case measure => simp [intOf]; omega
    · obtain rfl : i = n := by omega
      have iInt : ¬ (i : Int) < i := by omega
      obtain rfl : RES = -1 := by rw [HRES.out, if_neg (by omega)]
      go_wp2
      go_returns
      exact ⟨rfl, HB.out⟩
set_option maxHeartbeats 1000000 in
theorem find_nil (w : World) (rp : Nat) (most wait now dr : Int) (q : Pk) (ht : w.heap[rp]? = some (refC (.slice none 0 0) most wait now dr)) :
    Calls Try.prog 26 #[.pointer (some ⟨rp, 0, none⟩), q.rv] w fun e w' => e = .returned (.int .i64 (-1)) ∧ Below w.heap.size w w' := by
  have K0 : Hid (Below w.heap.size w (w.alloc q.rvC)) := (Below.refl _ w).alloc (Nat.le_refl _) _
  have T0 : Hid ((w.alloc q.rvC).heap[rp]? = some (refC (.slice none 0 0) most wait now dr)) := lies_alloc ht _
  clear ht
  go_enter Try.func26, Try.ntmps26
  go_wp2
  go_loopw [5] (fun v5 wr => v5 = .int .i64 0 ∧ wr = w.alloc q.rvC) (fun v5 _ => 0)
  case atStart => exact ⟨rfl, rfl⟩
  case round =>
    obtain ⟨rfl, hw⟩ := hrel
    have H1 : Hid (wr.heap[rp]? = some (refC (.slice none 0 0) most wait now dr)) := by show _ = _; rw [hw]; exact T0.out
    have KW : Hid (Below w.heap.size w wr) := by show Below _ _ _; rw [hw]; exact K0.out
    clear hw
    have hc0 : wr.cell? ⟨rp, 0, none⟩ = some (.slice none 0 0) := lies_cell H1.out 0
    go_wp2
    go_returns
    exact ⟨rfl, KW.out⟩
theorem refFind_any {base : Nat} {w : World} {rp : Nat} {most wait : Int} {L : List Rb} {now : Int} {dr : Nat} {lv : Value} (h : Ref base w rp most wait L now dr lv) (hL : L.length ≤ 64) (q : Pk) (hq : q.Wf) (p : Nat) (hp : p ≤ L.length) (h1 : ∀ i (_ : i < p) (h : i < L.length), L[i].k ≠ q.key hq) (h2 : ∀ (h : p < L.length), L[p].k = q.key hq) :
    Calls Try.prog 26 #[.pointer (some ⟨rp, 0, none⟩), q.rv] w fun e w' => e = .returned (.int .i64 (if p < L.length then (p : Int) else -1)) ∧ Below w.heap.size w w' := by
  rcases h.row.2 with ⟨e, h0⟩ | ⟨g, cap, cur, e, _, hg, k1, k2, k3, k4⟩
  · have ht := h.tab
    rw [e] at ht
    rw [if_neg (by omega)]
    exact find_nil w rp most wait now dr q ht
  · have ht := h.tab
    rw [e] at ht
    exact find_row w rp g cap L.length most wait now dr L q hq rfl hL ht ⟨cur, hg, k3, k1, k2, k4⟩ p hp h1 h2
end Go.Proofs.Ytgdjcoodjdckkaa
/- Rows of begun packets: append. -/
set_option maxRecDepth 100000
namespace Go.Proofs.Ytgdjcoodjdckkaa
open Go.RowKit Go.Proofs.PitotIp Go.Maps
open Go.Proofs.PitotReasm (Bg Tb Fine bad first next passed passE put keep)
open Go.Proofs.Ytgdjcoodjdckkaa.Bi (lies_lt lies_cell lies_frozen lies_alloc lies_set)

theorem info55 : (Try.prog.info? 55).map (fun i => (i.zero, i.size, i.bytes)) = some (some (.agg #[.int .i64 0, .bool false, .int .i64 0, .int .i64 0, .int .i64 0, .string ⟨#[]⟩, .string ⟨#[]⟩, .string ⟨#[]⟩, .int .i64 0, .string ⟨#[]⟩]), 10, 112) := by kernel_rfl
theorem run_app {base : Nat} (w : World) {v : Value} {n : Nat} {xs : List Value} (hown : w.ownsRow base 55 10 v n xs) (ad : Addr) (m c : Nat) (news : List Value) (hl : news.length = m * 10) (hnews : ∀ j u, news[j]? = some u → w.cell? (ad.add j) = some u) (h1 : ∀ u ∈ news, u.oneCell' = true) (hn : n + m ≤ 1000) (hb : base ≤ w.heap.size) (ty : TypeId) :
    ∃ v' w', (Builtin.append_ #[47, 47] ty #[v, .slice (some ad) m c]).run Try.prog w = .ok v' w' ∧ w'.ownsRow base 55 10 v' (n + m) (xs ++ news) ∧ w.grownBy w' v.ownBlock ∧ ∃ A cp, v' = .slice A (n + m) cp := by
  obtain ⟨i, hi, hz, hs, hb'⟩ := info_parts info55
  by_cases hm : m = 0
  · subst hm
    have hnil : news = [] := List.length_eq_zero_iff.1 (by omega)
    subst hnil
    rw [Nat.add_zero, List.append_nil]
    rcases hown.2 with ⟨e, h0⟩ | ⟨g, cap, cur, e, hg, k1, k2, k3, k4, k5⟩
    · subst e; subst h0
      exact ⟨_, w, run_append_nothing w 47 47 ty 55 i Try.underlying47 hi none 0 0 (Nat.le_refl _) _ (Src.ofSlice w Try.underlying47 ad 0 c [] (by simp) hnews (by simp)), hown, ⟨rfl, rfl, rfl, Nat.le_refl _, fun _ _ _ => rfl⟩, _, _, rfl⟩
    · subst e
      exact ⟨_, w, run_append_nothing w 47 47 ty 55 i Try.underlying47 hi _ n cap k2 _ (Src.ofSlice w Try.underlying47 ad 0 c [] (by simp) hnews (by simp)), hown, ⟨rfl, rfl, rfl, Nat.le_refl _, fun _ _ _ => rfl⟩, _, _, rfl⟩
  · obtain ⟨g, cap, w5, h1, h2, h3, _⟩ := run_append_lies (P := Try.prog) (w := w) 47 ty base 55 i _ 10 112 Try.underlying47 hi hz hs hb' rfl (by omega) v n xs hown ad m c news hl hnews h1 (by omega) (by unfold maxLen; omega) (by omega) hb w.heap.size rfl
    exact ⟨_, w5, h1, h2, h3, _, _, rfl⟩
theorem wpList_app {base : Nat} {w : World} {ops : Array Oper} {rest : List Oper} {o : Oper} {a : Act} {Q : Exit → Act → World → Prop} (hgd : o.guard = none) (s x : Operand)
    (ho : o.op = .call { callee := .builtin .append, args := #[s, x], argTypes := #[47, 47] }) (v : Value) (n : Nat) (xs : List Value) (hs : a.eval s = v) (hown : w.ownsRow base 55 10 v n xs)
    (ad : Addr) (m c : Nat) (news : List Value) (hx : a.eval x = .slice (some ad) m c) (hl : news.length = m * 10) (hnews : ∀ j u, news[j]? = some u → w.cell? (ad.add j) = some u) (h1 : ∀ u ∈ news, u.oneCell' = true) (hn : n + m ≤ 1000) (hb : base ≤ w.heap.size)
    (h : ∀ v' w', w'.ownsRow base 55 10 v' (n + m) (xs ++ news) → w.grownBy w' v.ownBlock → (∃ A cp, v' = .slice A (n + m) cp) → wpList Try.prog ops Q rest (a.put o.dst v') w') : wpList Try.prog ops Q (o :: rest) a w :=
  wpList_plain hgd fun _ hK => by
    obtain ⟨v', w', hr, h2, h3, h4⟩ := run_app w hown ad m c news hl hnews h1 hn hb o.type
    unfold Oper.wp execOp
    simp only [ho, resolve, invoke, builtin, Sem.run_bind, Sem.run_pure, Result.andThen_ok, List.map_toArray, List.map_cons, List.map_nil, hs, hx, hr]
    exact hK _ _ (h v' w' h2 h3 h4)
theorem flatB_one (ks : List Rb) : ∀ u ∈ flatB ks, u.oneCell' = true := fun u hu => by
  obtain ⟨k, _, hk⟩ := List.mem_flatMap.1 hu
  exact k.enc_one u hk
theorem add_off (g k j : Nat) : (⟨g, k, none⟩ : Addr).add j = ⟨g, k + j, none⟩ := by unfold Addr.add; split <;> simp_all
/-- Some of the packets of a row, as what is to be appended. -/
theorem RowB.part {w : World} {o cap : Nat} {l1 l2 l3 : List Rb} (h : RowB w o cap (l1 ++ (l2 ++ l3))) : ∀ j u, (flatB l2)[j]? = some u → w.cell? ((⟨o, l1.length * 10, none⟩ : Addr).add j) = some u := fun j u hu => by
  obtain ⟨cur, h1, h2, h3, h4, h5⟩ := h
  have hj : j < l2.length * 10 := by
    have := (List.getElem?_eq_some_iff.1 hu).1
    rwa [flatB_length] at this
  have hle : l1.length * 10 + j < (l1 ++ (l2 ++ l3)).length * 10 := by simp only [List.length_append]; omega
  have e : (flatB (l1 ++ (l2 ++ l3)))[l1.length * 10 + j]? = some u := by
    rw [flatB_append, flatB_append, List.getElem?_append_right (by rw [flatB_length]; omega), flatB_length, show l1.length * 10 + j - l1.length * 10 = j by omega, List.getElem?_append_left (by rw [flatB_length]; exact hj)]
    exact hu
  rw [add_off, lies_cell h1, ← e, ← h5, List.getElem?_take_of_lt hle, Array.getElem?_toList]
theorem Fq.grown_own {base : Nat} {w w' : World} {ov : Value} {n : Nat} {xs : List Value} (h : w.grownBy w' ov.ownBlock) (ho : w.ownsRow base 55 10 ov n xs) (hb : base ≤ w.heap.size) : Fq base w w' := by
  rcases ho.2 with ⟨e, _⟩ | ⟨g, cap, cur, e, hg, hcur, _⟩
  · subst e
    exact Fq.of ⟨h.os, h.tape, h.output, h.size, fun k hk => h.block k hk (by simp [Value.ownBlock])⟩ hb
  · subst e
    exact Fq.grown h hg hb hcur (.inr rfl)
theorem own_ne {base : Nat} {w : World} {ov : Value} {n : Nat} {xs : List Value} (ho : w.ownsRow base 55 10 ov n xs) {g : Nat} {cs : Array Value} {ty : TypeId} {fr : Nat × Nat} (hk : w.heap[g]? = some (Obj.cells cs ty fr)) (hty : ty ≠ 55) : some g ≠ ov.ownBlock := by
  rcases ho.2 with ⟨e, _⟩ | ⟨g', cap, cur, e, _, hcur, _⟩
  · rw [e]; simp [Value.ownBlock]
  · rw [e]
    intro e2
    simp [Value.ownBlock] at e2
    subst e2
    rw [hk] at hcur; injection hcur with hcur; injection hcur with _ e3; exact hty e3
end Go.Proofs.Ytgdjcoodjdckkaa
