/- The parts that Split makes are joined to the packet: plain; and the contract of Size. -/
import Derived.Test.YtiedfdnjnjohdaaJn
set_option maxRecDepth 100000
namespace Go.Proofs.Ytiedfdnjnjohdaa
open Go.RowKit Go.Proofs.PitotFrag Go.Proofs.PitotIp

theorem mul_eight {R : Nat} (h : R % 8 = 0) (k : Nat) : k * R / 8 = k * (R / 8) := by
  obtain ⟨q, rfl⟩ : ∃ q, R = 8 * q := ⟨R / 8, by omega⟩
  rw [show k * (8 * q) = 8 * (k * q) from Nat.mul_left_comm k 8 q, Nat.mul_div_cancel_left _ (by omega), Nat.mul_div_cancel_left _ (by omega)]

theorem com_spl (p : Pk) (m : Nat) : ∀ q ∈ spl p m, com q = com p := by
  intro q hq
  simp only [spl, cutP, List.mem_append, List.mem_map, List.mem_singleton] at hq
  rcases hq with ⟨k, _, rfl⟩ | rfl <;> rfl

theorem catP_spl (p : Pk) (m : Nat) : catP (spl p m) = p.s.data.toList := by
  unfold spl cutP catP
  rw [List.flatMap_append]
  generalize cnt p.s.size m (m / 8 * 8) = C
  generalize m / 8 * 8 = R
  have h1 : ((List.range C).map (partAt p R)).flatMap (fun p => p.s.data.toList) = ((List.range C).map (piece p.s.data.toList R)).flatten := by
    rw [List.flatMap_def, List.map_map]
    have e : ((fun p : Pk => p.s.data.toList) ∘ partAt p R) = piece p.s.data.toList R := funext fun k => bl_list _
    rw [e]
  have h2 : ([restAt p R C] : List Pk).flatMap (fun p => p.s.data.toList) = p.s.data.toList.drop (C * R) := by
    rw [List.flatMap_singleton]
    exact bl_list _
  rw [h1, h2, pieces_flat, List.take_append_drop]

theorem jd_part (p : Pk) {R : Nat} (k : Nat) (hR : R % 8 = 0) (hR0 : 0 < R) (hs : (partAt p R k).s.size = R) : jd (partAt p R k) (k * R) false = 0 := by
  unfold jd
  rw [if_neg (by rw [mul_eight hR]; exact fun h => h rfl), if_neg (by rw [hs]; omega), if_neg (by simp [partAt])]
theorem jd_rest (p : Pk) {R : Nat} (k : Nat) (hR : R % 8 = 0) (hm : p.m = false) : jd (restAt p R k) (k * R) true = 0 := by
  unfold jd
  have e : (restAt p R k).m = false := hm
  rw [if_neg (by rw [mul_eight hR]; exact fun h => h rfl), if_neg (by rw [e]; simp), if_neg (by simp)]

theorem ms_spl (p : Pk) (m : Nat) (h1 : 25 ≤ m) (hmo : p.m = false) : ms (spl p m) 0 = ((p.s.size : Int), 0) := by
  have hl := spl_length p m
  have hR : m / 8 * 8 % 8 = 0 := by omega
  have hCR := cnt_mul_le (l := p.s.size) (m := m) (show 0 < m / 8 * 8 by omega) (by omega)
  have key : ∀ j k, k + j = cnt p.s.size m (m / 8 * 8) → ms ((spl p m).drop k) (k * (m / 8 * 8)) = ((p.s.size : Int), 0) := by
    intro j
    induction j with
    | zero =>
      intro k hk
      have hk' : k = cnt p.s.size m (m / 8 * 8) := by omega
      subst hk'
      have hlt : cnt p.s.size m (m / 8 * 8) < (spl p m).length := by rw [hl, cn]; omega
      rw [ms_cons hlt, spl_last, decide_eq_true (by rw [hl, cn]), if_pos (jd_rest p _ hR hmo), List.drop_of_length_le (by rw [hl, cn]; omega), ms]
      have e : (restAt p (m / 8 * 8) (cnt p.s.size m (m / 8 * 8))).s.size = p.s.size - cnt p.s.size m (m / 8 * 8) * (m / 8 * 8) := by
        show (bl _).size = _
        rw [bl_size, List.length_drop, size_list]
      rw [e, show cnt p.s.size m (m / 8 * 8) * (m / 8 * 8) + (p.s.size - cnt p.s.size m (m / 8 * 8) * (m / 8 * 8)) = p.s.size by omega]
    | succ j ih =>
      intro k hk
      have hk' : k < cnt p.s.size m (m / 8 * 8) := by omega
      have hlt : k < (spl p m).length := by rw [hl, cn]; omega
      have hs := part_size p m k h1 hk'
      rw [ms_cons hlt, spl_part p m k hk', decide_eq_false (by rw [hl, cn]; omega), if_pos (jd_part p k hR (by omega) hs), hs, ← Nat.succ_mul]
      exact ih (k + 1) (by omega)
  have := key (cnt p.s.size m (m / 8 * 8)) 0 (by omega)
  simpa using this

theorem jn_spl (p : Pk) (m : Nat) (h1 : 25 ≤ m) (hmo : p.m = false) (ho : p.off = 0) (hs : p.s.size ≤ 65515) : jn (spl p m) = (p, 0) := by
  have hl := spl_length p m
  have h0 : 0 < (spl p m).length := by rw [hl, cn]; omega
  have hc := com_spl p m
  have hms := ms_spl p m h1 hmo
  have hal : alike (spl p m) = true := alike_yes h0 (by
    rw [List.all_eq_true]
    intro q hq
    rw [hc q hq, hc _ (List.getElem_mem h0)]
    exact (pkb_iff _ _).2 rfl)
  have hlt : cnt p.s.size m (m / 8 * 8) < (spl p m).length := by rw [hl, cn]; omega
  have hla : lastM (spl p m) = false := by
    rw [lastM_at (c := cnt p.s.size m (m / 8 * 8)) (by rw [hl, cn]), spl_last]
    exact hmo
  rw [jn_ok h0 hal (by rw [hms]) hla (by rw [hms]; simp only; omega)]
  have h2 := hc _ (List.getElem_mem h0)
  simp only [com, Pk.mk.injEq] at h2
  obtain ⟨e1, _, _, e2, e3, e4, e5, _⟩ := h2
  rw [e1, e2, e3, e4, e5, catP_spl]
  obtain ⟨id, mo, off, ttl, pr, a, b, s⟩ := p
  simp only at hmo ho
  subst hmo ho
  rfl

/-- What a part is. -/
theorem spl_at (p : Pk) (m k : Nat) (h1 : 25 ≤ m) (hmo : p.m = false) (hs : p.s.size ≤ 65515) (h : k < (spl p m).length) :
    ∃ (o : Nat) (S : ByteArray), (spl p m)[k] = ⟨p.id, decide (k + 1 < cn p.s.size m), o, p.ttl, p.pr, p.a, p.b, S⟩ ∧ S.size ≤ m ∧ o < 8192 := by
  have hl := spl_length p m
  have hCR := cnt_mul_le (l := p.s.size) (m := m) (show 0 < m / 8 * 8 by omega) (by omega)
  have hoff : k ≤ cnt p.s.size m (m / 8 * 8) → k * (m / 8 * 8 / 8) < 8192 := fun hk => by
    have h2 : k * (m / 8 * 8) ≤ cnt p.s.size m (m / 8 * 8) * (m / 8 * 8) := Nat.mul_le_mul_right _ hk
    have h3 := mul_eight (R := m / 8 * 8) (by omega) k
    omega
  rw [hl, cn] at h
  by_cases hk : k < cnt p.s.size m (m / 8 * 8)
  · refine ⟨k * (m / 8 * 8 / 8), (partAt p (m / 8 * 8) k).s, ?_, ?_, hoff (by omega)⟩
    · rw [spl_part p m k hk, decide_eq_true (by rw [cn]; omega)]; rfl
    · rw [part_size p m k h1 hk]; omega
  · have hk' : k = cnt p.s.size m (m / 8 * 8) := by omega
    subst hk'
    refine ⟨cnt p.s.size m (m / 8 * 8) * (m / 8 * 8 / 8), (restAt p (m / 8 * 8) (cnt p.s.size m (m / 8 * 8))).s, ?_, rest_size p m h1, hoff (Nat.le_refl _)⟩
    rw [spl_last, decide_eq_false (by rw [cn]; omega), ← hmo]; rfl
theorem spl_sizes (p : Pk) (m : Nat) (h1 : 25 ≤ m) (hm : m ≤ 1479) (hmo : p.m = false) (hs : p.s.size ≤ 65515) : ∀ q ∈ spl p m, q.s.size ≤ 10000 := by
  intro q hq
  obtain ⟨k, hk, rfl⟩ := List.getElem_of_mem hq
  obtain ⟨o, S, e, h3, _⟩ := spl_at p m k h1 hmo hs hk
  rw [e]
  show S.size ≤ _
  omega

set_option maxHeartbeats 400000 in
theorem size_le (n m : Nat) (h1 : 25 ≤ m) (hm : m ≤ 1479) (hn : n ≤ m + 20) (w : World) :
    Calls Try.prog 22 #[.int .i64 n] w fun e w' => (∃ z : Nat, e = .returned (.int .i64 z) ∧ z ≤ m + 39) ∧ w = w' := by
  go_enter Try.func22, Try.ntmps22
  go_wp2
  go_returns
  exact ⟨⟨max 64 (min n 1499 + 19), ret_int (by omega), by omega⟩, rfl⟩
end Go.Proofs.Ytiedfdnjnjohdaa
