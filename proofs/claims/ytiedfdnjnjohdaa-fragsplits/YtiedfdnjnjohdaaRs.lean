/- Contracts of the document's Split. -/
import Derived.Test.YtiedfdnjnjohdaaSm
set_option maxRecDepth 100000
namespace Go.Proofs.Ytiedfdnjnjohdaa
open Go.RowKit Go.Proofs.PitotFrag Go.Proofs.PitotIp
open Go.Proofs.Ytiedfdnjnjohdaa.Bi (lies_lt lies_cell lies_frozen lies_alloc lies_set)

set_option maxHeartbeats 1000000 in
theorem refSplit_arg (p : Rk) (x : Int) (hx : x < 64 ∨ 1518 < x) (w : World) :
    Calls Try.prog 15 #[p.val, .int .i64 x] w fun e w' => e = .returned (noParts 1) ∧ Below w.heap.size w w' := by
  obtain ⟨id, m, off, ttl, pr, a, b, s⟩ := p
  have kb : Hid (Below w.heap.size w (w.alloc (rpC id m off ttl pr a b s))) := (Below.refl _ w).alloc (Nat.le_refl _) _
  have H := Lib.hid (refRoom_arg x hx)
  clear hx
  go_enter Try.func15, Try.ntmps15
  go_wp2_with (go_at_call 10; (with_reducible refine (H.out _).mono ?_); rintro r w1 ⟨rfl, rfl⟩)
  go_returns
  exact ⟨rfl, kb.out⟩

set_option maxHeartbeats 1000000 in
theorem refSplit_field (p : Rk) (m : Nat) (h1 : 25 ≤ m) (hm : m ≤ 1479) (h : p.m = true ∨ p.off ≠ 0) (w : World) :
    Calls Try.prog 15 #[p.val, .int .i64 (m + 39)] w fun e w' => e = .returned (noParts 15) ∧ Below w.heap.size w w' := by
  obtain ⟨id, mo, off, ttl, pr, a, b, s⟩ := p
  have kb : Hid (Below w.heap.size w (w.alloc (rpC id mo off ttl pr a b s))) := (Below.refl _ w).alloc (Nat.le_refl _) _
  have H := Lib.hid (refRoom_ok m h1 hm)
  simp only at h
  cases mo
  · have h2 : ¬ off = 0 := by rcases h with h | h; cases h; exact h
    clear h
    go_enter Try.func15, Try.ntmps15
    go_wp2_with (go_at_call 10; (with_reducible refine (H.out _).mono ?_); rintro r w1 ⟨rfl, rfl⟩)
    go_returns
    exact ⟨rfl, kb.out⟩
  · clear h
    go_enter Try.func15, Try.ntmps15
    go_wp2_with (go_at_call 10; (with_reducible refine (H.out _).mono ?_); rintro r w1 ⟨rfl, rfl⟩)
    go_returns
    exact ⟨rfl, kb.out⟩

set_option maxHeartbeats 1000000 in
theorem refSplit_long (p : Rk) (m : Nat) (h1 : 25 ≤ m) (hm : m ≤ 1479) (hmo : p.m = false) (ho : p.off = 0) (hs : 65515 < p.s.size) (hs2 : p.s.size ≤ 9223372036854775807) (w : World) :
    Calls Try.prog 15 #[p.val, .int .i64 (m + 39)] w fun e w' => e = .returned (noParts 11) ∧ Below w.heap.size w w' := by
  obtain ⟨id, mo, off, ttl, pr, a, b, s⟩ := p
  simp only at hmo ho hs hs2
  subst hmo ho
  have kb : Hid (Below w.heap.size w (w.alloc (rpC id false 0 ttl pr a b s))) := (Below.refl _ w).alloc (Nat.le_refl _) _
  have H := Lib.hid (refRoom_ok m h1 hm)
  go_enter Try.func15, Try.ntmps15
  go_wp2_with (first
    | (go_at_call 10; (with_reducible refine (H.out _).mono ?_); rintro r w1 ⟨rfl, rfl⟩))
  go_returns
  exact ⟨rfl, kb.out⟩

theorem mul8 {R : Nat} (k : Nat) (h : R % 8 = 0) : k * R / 8 = k * (R / 8) := Nat.mul_div_assoc k (Nat.dvd_of_mod_eq_zero h)

set_option maxHeartbeats 4000000 in
theorem refSplit_core (id ttl pr : Int) (a b s : ByteArray) (m R C : Nat) (hm : m ≤ 1479) (r1 : 24 ≤ R) (r2 : R ≤ m) (r8 : R % 8 = 0) (hC : ∀ k, k < C ↔ m + k * R < s.size) (hs : s.size ≤ 65515) (H10 : ∀ w, Calls Try.prog 10 #[.int .i64 (m + 39)] w fun e w' => e = .returned (.tuple #[.int .i64 R, .int .i64 0]) ∧ w = w')
    (PS : List Rk) (hPl : PS.length = C) (hst : ∀ k, k < C → PS.take (k + 1) = PS.take k ++ [⟨id, true, (k * (R / 8) : Nat), ttl, pr, a, b, bl (piece s.data.toList R k)⟩]) (w : World) :
    Calls Try.prog 15 #[rp id false 0 ttl pr a b s, .int .i64 (m + 39)] w fun e w' => ∃ v, e = .returned (.tuple #[v, .int .i64 0]) ∧ w'.ownsRow w.heap.size 39 8 v (C + 1) (flatR (PS ++ [⟨id, false, (C * (R / 8) : Nat), ttl, pr, a, b, bl (s.data.toList.drop (C * R))⟩])) ∧ Below w.heap.size w w' := by
  obtain ⟨i0, hi, hz0, hz1, hz2⟩ := info_parts Try.info39
  have H := Lib.hid H10; have HC := Lib.hid hC; have HPl := Lib.hid hPl; have Hst := Lib.hid hst
  clear H10 hPl hst
  have hC2 : C ≤ 65515 := by
    rcases Nat.eq_zero_or_pos C with h | h
    · omega
    · have h3 := (hC (C - 1)).1 (by omega)
      have : (C - 1) * 24 ≤ (C - 1) * R := Nat.mul_le_mul_left _ r1
      omega
  clear hC
  obtain ⟨l, rfl⟩ : ∃ l, s = bl l := ⟨s.data.toList, rfl⟩
  have Hlen : Hid ((bl l).size = l.length) := bl_size l
  rw [bl_list] at Hst ⊢
  have kb : Hid (Below w.heap.size w (w.alloc (rpC id false 0 ttl pr a b (bl l)))) := (Below.refl _ w).alloc (Nat.le_refl _) _
  have L0 : Hid ((w.alloc (rpC id false 0 ttl pr a b (bl l))).heap[w.heap.size]? = some (rpC id false 0 ttl pr a b (bl l))) := heap_alloc_new w _
  have S0 : (w.alloc (rpC id false 0 ttl pr a b (bl l))).heap.size = w.heap.size + 1 := by simp
  have S0 := Lib.hid S0
  go_enter Try.func15, Try.ntmps15
  go_wp2_with (first
    | (go_at_call 10; (with_reducible refine (H.out _).mono ?_); rintro r w1 ⟨rfl, rfl⟩))
  go_loopw [8, 9] (fun v8 v9 wr => ∃ (k : Nat), k ≤ C ∧ v9 = .int .i64 (k * R : Nat) ∧ wr.ownsRow (w.heap.size + 1) 39 8 v8 k (flatR (PS.take k)) ∧ Below (w.heap.size + 1) (w.alloc (rpC id false 0 ttl pr a b (bl l))) wr) (fun v8 _ _ => C - Bi.sliceLen v8)
  case atStart =>
    refine ⟨0, Nat.zero_le _, by simp, World.ownsRow_nil _ _ _ _, Below.refl _ _⟩
  case round =>
    obtain ⟨k, hk, rfl, hown, hb⟩ := hrel
    have hcn := HC.out k
    have L1 := lies_below L0.out hb (by omega)
    obtain ⟨c0, c1, c2, c3, c4, c5, c6, c7⟩ := cells8 L1
    clear L1
    have hbs := hb.size
    rw [S0.out] at hbs
    have hne2 : ¬ wr.heap.size = w.heap.size := by omega
    have hne3 : w.heap.size < wr.heap.size := by omega
    obtain ⟨T, hT⟩ : ∃ T, T = k * R := ⟨_, rfl⟩
    rw [← hT] at hcn ⊢
    obtain ⟨g0, q0, hvs⟩ := own_slice hown
    subst hvs
    by_cases hkC : k < C
    · have g1 := hcn.1 hkC
      obtain ⟨X, hX⟩ : ∃ X, (bl l).extract T (T + R) = X := ⟨_, rfl⟩
      have HX : Hid (X = bl (piece l R k)) := by show _ = _; rw [← hX, bl_extract, hT]; simp [piece]
      have HT := Lib.hid hT
      have HO : Hid (((k * (R / 8) : Nat) : Int) = (T : Int) / 8) := by show _ = _; rw [← mul8 k r8, ← hT]; simp
      clear hT hcn
      have t1 : T ≤ 65515 := by omega
      have g2 : (m : Int) < (bl l).size - T := by omega
      have Hone : Hid (∀ u ∈ Rk.enc ⟨id, true, (T : Int) / 8, ttl, pr, a, b, X⟩, u.oneCell' = true) := Rk.enc_one _
      have HS := Lib.hid (Hst.out k hkC)
      go_wp2_with (at_builtin; refine wpList_append_lies _ rfl _ _ 35 (by rfl) (w.heap.size + 1) 39 i0 rp0 8 88 Try.underlying35 hi hz0 hz1 hz2 rfl (by decide) _ _ _ (by rfl) ((hown.alloc _).alloc _) ⟨wr.heap.size + 1, 0, none⟩ 1 1 (Rk.enc ⟨id, true, (T : Int) / 8, ttl, pr, a, b, X⟩) (by rfl) rfl (World.news_of_block (new2 wr _ _)) Hone.out (by omega) (by unfold maxLen; omega) (by omega) (by simp; omega) _ rfl ?_; intro gg cap2 w2 hown2 hgrow2 hat2 hlt2)
      have hb2 := ((hb.alloc hbs (.cells #[.int .i64 id, .bool true, .int .i64 ((T : Int) / 8), .int .i64 ttl, .int .i64 pr, .string a, .string b, .string X] 39)).alloc (by simp; omega) (.cells #[.int .i64 id, .bool true, .int .i64 ((T : Int) / 8), .int .i64 ttl, .int .i64 pr, .string a, .string b, .string X] 39)).grown hgrow2 (by simp; omega) (fun j hj => (hown.lt j hj).1)
      go_roundw
      case rel =>
        refine ⟨k + 1, by omega, ?_, ?_, hb2⟩
        · rw [Nat.add_mul, Nat.one_mul, ← HT.out]; simp
        · rw [HS.out, flatR_snoc, HO.out, ← HX.out]
          exact hown2
      case measure => simp only [Bi.sliceLen]; omega
    · obtain rfl : k = C := by omega
      have g1 : ¬ (m + T < (bl l).size) := fun h => hkC (hcn.2 h)
      have t0 : T ≤ (bl l).size := by
        rcases Nat.eq_zero_or_pos k with h | h
        · subst h; omega
        · obtain ⟨j, rfl⟩ : ∃ j, k = j + 1 := ⟨k - 1, by omega⟩
          have h3 := (HC.out j).1 (by omega)
          rw [hT, Nat.add_mul]; omega
      obtain ⟨X, hX⟩ : ∃ X, (bl l).extract T (bl l).size = X := ⟨_, rfl⟩
      have HX : Hid (X = bl (l.drop (k * R))) := by show _ = _; rw [← hX, bl_extract, hT, bl_size, List.take_of_length_le (by simp)]
      have HO : Hid (((k * (R / 8) : Nat) : Int) = (T : Int) / 8) := by show _ = _; rw [← mul8 k r8, ← hT]; simp
      clear hT hcn
      have t1 : T ≤ 65515 := by omega
      have g2 : ¬ (m : Int) < (bl l).size - T := by omega
      have Hone : Hid (∀ u ∈ Rk.enc ⟨id, false, (T : Int) / 8, ttl, pr, a, b, X⟩, u.oneCell' = true) := Rk.enc_one _
      rw [List.take_of_length_le (by rw [HPl.out]; omega)] at hown
      go_wp2_with (at_builtin; refine wpList_append_lies _ rfl _ _ 35 (by rfl) (w.heap.size + 1) 39 i0 rp0 8 88 Try.underlying35 hi hz0 hz1 hz2 rfl (by decide) _ _ _ (by rfl) ((hown.alloc _).alloc _) ⟨wr.heap.size + 1, 0, none⟩ 1 1 (Rk.enc ⟨id, false, (T : Int) / 8, ttl, pr, a, b, X⟩) (by rfl) rfl (World.news_of_block (new2 wr _ _)) Hone.out (by omega) (by unfold maxLen; omega) (by omega) (by simp; omega) _ rfl ?_; intro gg cap2 w2 hown2 hgrow2 hat2 hlt2)
      have hb2 := ((hb.alloc hbs (.cells #[.int .i64 id, .bool false, .int .i64 ((T : Int) / 8), .int .i64 ttl, .int .i64 pr, .string a, .string b, .string X] 39)).alloc (by simp; omega) (.cells #[.int .i64 id, .bool false, .int .i64 ((T : Int) / 8), .int .i64 ttl, .int .i64 pr, .string a, .string b, .string X] 39)).grown hgrow2 (by simp; omega) (fun j hj => (hown.lt j hj).1)
      go_returns
      refine ⟨_, rfl, ?_, kb.out.trans (hb2.mono (by omega))⟩
      have HO' : (k : Int) * ((R : Int) / 8) = (T : Int) / 8 := by have := HO.out; simpa using this
      rw [flatR_snoc, HO', ← HX.out]
      exact own_mono hown2 (by omega)

/-- The document's Split makes the same parts. -/
theorem refSplit_ok (p : Pk) (m : Nat) (h1 : 25 ≤ m) (hm : m ≤ 1479) (hmo : p.m = false) (ho : p.off = 0) (hs : p.s.size ≤ 65515) (w : World) :
    Calls Try.prog 15 #[(pln p).val, .int .i64 (m + 39)] w fun e w' => ∃ v, e = .returned (.tuple #[v, .int .i64 0]) ∧ w'.ownsRow w.heap.size 39 8 v (cn p.s.size m) (flatR ((spl p m).map pln)) ∧ Below w.heap.size w w' := by
  obtain ⟨id, mo, off, ttl, pr, a, b, s⟩ := p
  simp only at hmo ho hs
  subst hmo ho
  have h := refSplit_core id ttl pr (ipB a) (ipB b) s m (m / 8 * 8) (cnt s.size m (m / 8 * 8)) hm (by omega) (by omega) (by omega) (fun k => cnt_lt (by omega) k) hs (refRoom_ok m h1 hm)
    (((List.range (cnt s.size m (m / 8 * 8))).map (partAt ⟨id, false, 0, ttl, pr, a, b, s⟩ (m / 8 * 8))).map pln) (by simp) (fun k hk => by rw [← List.map_take, parts_take _ _ _ _ hk]; simp [pln, partAt]) w
  refine h.mono fun e w' ⟨v, he, hown, hb⟩ => ⟨v, he, ?_, hb⟩
  have e1 : (spl ⟨id, false, 0, ttl, pr, a, b, s⟩ m).map pln = ((List.range (cnt s.size m (m / 8 * 8))).map (partAt ⟨id, false, 0, ttl, pr, a, b, s⟩ (m / 8 * 8))).map pln ++ [⟨id, false, (cnt s.size m (m / 8 * 8) * (m / 8 * 8 / 8) : Nat), ttl, pr, ipB a, ipB b, bl (s.data.toList.drop (cnt s.size m (m / 8 * 8) * (m / 8 * 8)))⟩] := by
    rw [spl, cutP, List.map_append]; rfl
  rw [e1]
  exact hown
end Go.Proofs.Ytiedfdnjnjohdaa
