/- Contracts of Split: a packet as parts. -/
import Derived.Test.YtgdjcoodjdckkaaCu
set_option maxRecDepth 100000
namespace Go.Proofs.Ytgdjcoodjdckkaa
open Go.RowKit Go.Proofs.PitotFrag Go.Proofs.PitotIp
open Go.Proofs.Ytgdjcoodjdckkaa.Bi (lies_lt lies_cell lies_frozen lies_alloc lies_set)

abbrev noParts (e : Int) : Value := .tuple #[.slice none 0 0, .int .i64 e]

set_option maxHeartbeats 1000000 in
theorem split_arg (p : Pk) (x : Int) (hx : x < 64 ∨ 1518 < x) (w : World) :
    Calls Try.prog 20 #[p.val, .int .i64 x] w fun e w' => e = .returned (noParts 1) ∧ Below w.heap.size w w' := by
  obtain ⟨id, m, off, ttl, pr, a, b, s⟩ := p
  have kb : Hid (Below w.heap.size w (w.alloc (pkC id m off ttl pr a b s))) := (Below.refl _ w).alloc (Nat.le_refl _) _
  have H := Lib.hid (room_arg x hx)
  clear hx
  go_enter Try.func20, Try.ntmps20
  go_wp2_with (go_at_call 31; (with_reducible refine (H.out _).mono ?_); rintro r w1 ⟨rfl, rfl⟩)
  go_returns
  exact ⟨rfl, kb.out⟩

set_option maxHeartbeats 1000000 in
theorem split_field (p : Pk) (m : Nat) (h1 : 25 ≤ m) (hm : m ≤ 1479) (h : p.m = true ∨ p.off ≠ 0) (w : World) :
    Calls Try.prog 20 #[p.val, .int .i64 (m + 39)] w fun e w' => e = .returned (noParts 15) ∧ Below w.heap.size w w' := by
  obtain ⟨id, mo, off, ttl, pr, a, b, s⟩ := p
  have kb : Hid (Below w.heap.size w (w.alloc (pkC id mo off ttl pr a b s))) := (Below.refl _ w).alloc (Nat.le_refl _) _
  have H := Lib.hid (room_ok m h1 hm)
  simp only at h
  cases mo
  · have h2 : ¬ off = 0 := by rcases h with h | h; cases h; exact h
    clear h
    go_enter Try.func20, Try.ntmps20
    go_wp2_with (go_at_call 31; (with_reducible refine (H.out _).mono ?_); rintro r w1 ⟨rfl, rfl⟩)
    go_returns
    exact ⟨rfl, kb.out⟩
  · clear h
    go_enter Try.func20, Try.ntmps20
    go_wp2_with (go_at_call 31; (with_reducible refine (H.out _).mono ?_); rintro r w1 ⟨rfl, rfl⟩)
    go_returns
    exact ⟨rfl, kb.out⟩

set_option maxHeartbeats 1000000 in
theorem split_long (p : Pk) (m : Nat) (h1 : 25 ≤ m) (hm : m ≤ 1479) (hmo : p.m = false) (ho : p.off = 0) (hs : 65515 < p.s.size) (hs2 : p.s.size ≤ 9223372036854775807) (w : World) :
    Calls Try.prog 20 #[p.val, .int .i64 (m + 39)] w fun e w' => e = .returned (noParts 11) ∧ Below w.heap.size w w' := by
  obtain ⟨id, mo, off, ttl, pr, a, b, s⟩ := p
  simp only at hmo ho hs hs2
  subst hmo ho
  have kb : Hid (Below w.heap.size w (w.alloc (pkC id false 0 ttl pr a b s))) := (Below.refl _ w).alloc (Nat.le_refl _) _
  have H := Lib.hid (room_ok m h1 hm)
  have H2 := Lib.hid (fun w => count_long m s.size h1 hm (by omega) w)
  go_enter Try.func20, Try.ntmps20
  go_wp2_with (first
    | (go_at_call 31; (with_reducible refine (H.out _).mono ?_); rintro r w1 ⟨rfl, rfl⟩)
    | (go_at_call 32; (with_reducible refine (H2.out _).mono ?_); rintro r w1 ⟨rfl, rfl⟩))
  go_returns
  exact ⟨rfl, kb.out⟩

theorem own_mono {w : World} {B B' : Nat} {e : TypeId} {size : Nat} {v : Value} {n : Nat} {xs : List Value} (h : w.ownsRow B e size v n xs) (hB : B' ≤ B) : w.ownsRow B' e size v n xs := by
  refine ⟨h.1, ?_⟩
  rcases h.2 with h | ⟨g, cap, cur, h1, h2, h3⟩
  · exact .inl h
  · exact .inr ⟨g, cap, cur, h1, Nat.le_trans hB h2, h3⟩
/-- The parts that Split makes of so many bytes a frame. -/
def spl (p : Pk) (m : Nat) : List Pk := cutP p (cnt p.s.size m (m / 8 * 8)) (m / 8 * 8)
theorem spl_length (p : Pk) (m : Nat) : (spl p m).length = cn p.s.size m := by simp [spl, cutP_length, cn]
theorem cnt_mul_le {l m R : Nat} (hR : 0 < R) (hRm : R ≤ m) : cnt l m R * R ≤ l := by
  rcases Nat.eq_zero_or_pos (cnt l m R) with h | h
  · rw [h]; omega
  · obtain ⟨n, hn⟩ : ∃ n, cnt l m R = n + 1 := ⟨cnt l m R - 1, by omega⟩
    have := (cnt_lt (long := l) (lim := m) hR n).1 (by omega)
    rw [hn, Nat.add_mul]
    omega

set_option maxHeartbeats 1000000 in
theorem split_ok (p : Pk) (m : Nat) (h1 : 25 ≤ m) (hm : m ≤ 1479) (hmo : p.m = false) (ho : p.off = 0) (hs : p.s.size ≤ 65515) (w : World) :
    Calls Try.prog 20 #[p.val, .int .i64 (m + 39)] w fun e w' => ∃ g cap, e = .returned (.tuple #[.slice (some ⟨g, 0, none⟩) (cn p.s.size m) cap, .int .i64 0]) ∧ w'.ownsRow w.heap.size 34 14 (.slice (some ⟨g, 0, none⟩) (cn p.s.size m) cap) (cn p.s.size m) (flatP (spl p m)) ∧ Below w.heap.size w w' := by
  obtain ⟨id, mo, off, ttl, pr, a, b, s⟩ := p
  simp only at hmo ho hs
  subst hmo ho
  have kb : Hid (Below w.heap.size w (w.alloc (pkC id false 0 ttl pr a b s))) := (Below.refl _ w).alloc (Nat.le_refl _) _
  have H := room_ok m h1 hm
  have H2 := fun w => count_ok m s.size h1 hm hs w
  have H3 := fun w => cut_any ⟨id, false, 0, ttl, pr, a, b, s⟩ (cnt s.size m (m / 8 * 8)) (m / 8 * 8) (by omega) (by omega) (cnt_mul_le (by omega) (by omega)) hs rfl w
  obtain ⟨LS, HLS⟩ : ∃ LS, Hid (LS = spl ⟨id, false, 0, ttl, pr, a, b, s⟩ m) := ⟨_, rfl⟩
  rw [show cutP ⟨id, false, 0, ttl, pr, a, b, s⟩ (cnt s.size m (m / 8 * 8)) (m / 8 * 8) = LS from HLS.out.symm, show cnt s.size m (m / 8 * 8) + 1 = cn s.size m from rfl] at H3
  rw [← HLS.out]
  generalize m / 8 * 8 = R at H H3
  show Calls Try.prog 20 _ _ fun e w' => ∃ g cap, e = .returned (.tuple #[.slice (some ⟨g, 0, none⟩) (cn s.size m) cap, .int .i64 0]) ∧ w'.ownsRow w.heap.size 34 14 (.slice (some ⟨g, 0, none⟩) (cn s.size m) cap) (cn s.size m) (flatP LS) ∧ Below w.heap.size w w'
  generalize cn s.size m = Q at H2 H3 ⊢
  have H := Lib.hid H; have H2 := Lib.hid H2; have H3 := Lib.hid H3
  clear HLS
  go_enter Try.func20, Try.ntmps20
  go_wp2_with (first
    | (go_at_call 31; (with_reducible refine (H.out _).mono ?_); rintro r w1 ⟨rfl, rfl⟩)
    | (go_at_call 32; (with_reducible refine (H2.out _).mono ?_); rintro r w1 ⟨rfl, rfl⟩)
    | (go_at_call 33; (with_reducible refine (H3.out _).mono ?_); rintro r w2 ⟨g, cap, rfl, hown, hb⟩))
  go_returns
  refine ⟨g, cap, rfl, ?_, kb.out.trans (hb.mono kb.out.size)⟩
  exact own_mono hown (by simp)
end Go.Proofs.Ytgdjcoodjdckkaa
