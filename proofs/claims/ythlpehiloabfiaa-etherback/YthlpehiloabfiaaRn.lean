/- Contracts of the document's Look and Decode. What the program's and the document's answer, both. -/
import Derived.Test.YthlpehiloabfiaaDx
import Derived.Test.YthlpehiloabfiaaAdOz
namespace Go.Proofs.Ythlpehiloabfiaa
open Go.RowKit Go.Proofs.PitotAddr Go.Proofs.PitotEther
open Go.Proofs.Ythlpehiloabfiaa.Ad (lies_lt lies_below lies_frozen refVl_any refOf_any ofR ofR_hit ofR_miss)

/-- What the document's VL and Of answer. -/
abbrev VlIs (X : ByteArray) (x e : Int) : Prop := ∀ w, Calls Try.prog 38 #[.string X] w fun r w' => r = .returned (.tuple #[.int .i64 x, .int .i64 e]) ∧ Below w.heap.size w w'
abbrev OfIs (X : ByteArray) (h n e : Int) : Prop := ∀ w, Calls Try.prog 39 #[.string X] w fun r w' => r = .returned (.tuple #[.int .i64 h, .int .i64 n, .int .i64 e]) ∧ Below w.heap.size w w'

theorem vlIs_yes (m : M6) (h : m.isVL = true) : VlIs ⟨m.bytes.toArray⟩ (num m.e m.f : Nat) 0 := fun w => by
  refine (refVl_any m.a m.b m.c m.d m.e m.f w).mono fun r w' ⟨h1, h2⟩ => ⟨?_, h2⟩
  rw [h1, if_pos h]
theorem vlIs_no (m : M6) (h : m.isVL = false) : VlIs ⟨m.bytes.toArray⟩ 0 14 := fun w => by
  refine (refVl_any m.a m.b m.c m.d m.e m.f w).mono fun r w' ⟨h1, h2⟩ => ⟨?_, h2⟩
  rw [h1, if_neg (by rw [show (M6.mk m.a m.b m.c m.d m.e m.f).isVL = m.isVL from rfl, h]; simp)]
theorem ofIs_no (m : M6) (h0 : m.isEnd 0 = false) (h1 : m.isEnd 1 = false) : OfIs ⟨m.bytes.toArray⟩ 0 0 14 := fun w => by
  refine (refOf_any m.a m.b m.c m.d m.e m.f w).mono fun r w' ⟨g1, g2⟩ => ⟨?_, g2⟩
  rw [g1.out, ofR_miss ⟨m.a, m.b, m.c, m.d, m.e, m.f⟩ (fun j hj => by
    have : j = 0 ∨ j = 1 := by omega
    rcases this with rfl | rfl
    · exact h0
    · exact h1)]
theorem isEnd_one (m : M6) (j k : Nat) (hk : k ≤ 1) (hj : j < k) (h : m.isEnd k = true) : m.isEnd j = false := by
  have e1 : k = 1 := by omega
  have e0 : j = 0 := by omega
  subst e1 e0
  cases hc : m.isEnd 0 with
  | false => rfl
  | true =>
    exfalso
    unfold M6.isEnd at h hc
    simp at h hc
    omega
theorem ofIs_yes (m : M6) (k : Nat) (hk : k ≤ 1) (h : m.isEnd k = true) : OfIs ⟨m.bytes.toArray⟩ (num m.d m.e : Nat) k 0 := fun w => by
  refine (refOf_any m.a m.b m.c m.d m.e m.f w).mono fun r w' ⟨g1, g2⟩ => ⟨?_, g2⟩
  rw [g1.out, ofR_hit ⟨m.a, m.b, m.c, m.d, m.e, m.f⟩ k hk (fun j hj => isEnd_one m j k hk hj h) h]
/-- Of, either way. -/
theorem ofIs_any (m : M6) : ∃ h n e : Int, OfIs ⟨m.bytes.toArray⟩ h n e := by
  by_cases hk : ∃ k, k ≤ 1 ∧ m.isEnd k = true
  · obtain ⟨k, hk1, hk2⟩ := hk
    exact ⟨_, _, _, ofIs_yes m k hk1 hk2⟩
  · refine ⟨_, _, _, ofIs_no m ?_ ?_⟩
    · cases h0 : m.isEnd 0 with
      | false => rfl
      | true => exact absurd ⟨0, by omega, h0⟩ hk
    · cases h0 : m.isEnd 1 with
      | false => rfl
      | true => exact absurd ⟨1, by omega, h0⟩ hk

section
variable (s X Y : ByteArray) (x e h n g : Int) (w : World)

set_option maxHeartbeats 400000 in
theorem rlook_short (hs : s.size < 12) :
    Calls Try.prog 17 #[.string s] w fun r w' => r = .returned (.tuple #[.int .i64 0, .int .i64 10]) ∧ Below w.heap.size w w' := by
  go_enter Try.func17, Try.ntmps17
  go_wp2
  go_returns
  exact ⟨rfl, Below.refl _ _⟩

set_option maxRecDepth 100000 in
set_option maxHeartbeats 1000000 in
theorem rlook_bad (hs : 12 ≤ s.size) (hm : s.size ≤ 100000) (hX : s.extract 0 6 = X) (hY : s.extract 6 12 = Y) (hV : VlIs X x e) (hO : OfIs Y h n g) (hb : e ≠ 0 ∨ (e = 0 ∧ g ≠ 0)) :
    Calls Try.prog 17 #[.string s] w fun r w' => r = .returned (.tuple #[.int .i64 0, .int .i64 14]) ∧ Below w.heap.size w w' := by
  have HV := Lib.hid hV; clear hV
  have HO := Lib.hid hO; clear hO
  have hE : (e != 0) = true ∧ ¬ e = 0 ∨ e = 0 ∧ (g != 0) = true ∧ ¬ g = 0 := by simp only [bne_iff_ne]; omega
  clear hb
  rcases hE with ⟨h1, h2⟩ | ⟨rfl, h1, h2⟩
  all_goals
    go_enter Try.func17, Try.ntmps17
    go_wp2_with (first
      | (go_at_call 38; (with_reducible refine (HV.out _).mono ?_); rintro r w1 ⟨rfl, hb1⟩)
      | (go_at_call 39; (with_reducible refine (HO.out _).mono ?_); rintro r w2 ⟨rfl, hb2⟩))
    go_returns
    exact ⟨rfl, hb1.trans (hb2.mono hb1.size)⟩

set_option maxRecDepth 100000 in
set_option maxHeartbeats 1000000 in
theorem rlook_ok (hs : 12 ≤ s.size) (hm : s.size ≤ 100000) (hX : s.extract 0 6 = X) (hY : s.extract 6 12 = Y) (hV : VlIs X x 0) (hO : OfIs Y h n 0) :
    Calls Try.prog 17 #[.string s] w fun r w' => r = .returned (.tuple #[.int .i64 x, .int .i64 0]) ∧ Below w.heap.size w w' := by
  have HV := Lib.hid hV; clear hV
  have HO := Lib.hid hO; clear hO
  go_enter Try.func17, Try.ntmps17
  go_wp2_with (first
    | (go_at_call 38; (with_reducible refine (HV.out _).mono ?_); rintro r w1 ⟨rfl, hb1⟩)
    | (go_at_call 39; (with_reducible refine (HO.out _).mono ?_); rintro r w2 ⟨rfl, hb2⟩))
  go_returns
  exact ⟨rfl, hb1.trans (hb2.mono hb1.size)⟩

set_option maxHeartbeats 400000 in
theorem rdec_short (hs : s.size < 64) :
    Calls Try.prog 15 #[.string s] w fun e w' => e = .returned (.tuple #[fr0, .int .i64 10]) ∧ Below w.heap.size w w' := by
  go_enter Try.func15, Try.ntmps15
  go_wp2
  (try simp only [Exit.inBlock, Exit.then])
  refine bodyPost_ret (by simp [results, Try.results15, go_sem]; try rfl) rfl ?_
  exact ⟨rfl, (Below.refl _ _).alloc (Nat.le_refl _) _⟩

set_option maxHeartbeats 400000 in
theorem rdec_long (hs : 1518 < s.size) (hm : s.size ≤ 9223372036854775807) :
    Calls Try.prog 15 #[.string s] w fun e w' => e = .returned (.tuple #[fr0, .int .i64 11]) ∧ Below w.heap.size w w' := by
  go_enter Try.func15, Try.ntmps15
  go_wp2
  (try simp only [Exit.inBlock, Exit.then])
  refine bodyPost_ret (by simp [results, Try.results15, go_sem]; try rfl) rfl ?_
  exact ⟨rfl, (Below.refl _ _).alloc (Nat.le_refl _) _⟩

/-- The document's Open. -/
theorem ropen_no (k : Nat) (hn : s.size = k + 4) (hs : s.size ≤ 100000) (ho : PitotCrc.opened s.data.toList = false) (w : World) :
    Calls Try.prog 37 #[.string s] w fun e w' => e = .returned (.tuple #[.string ⟨#[]⟩, .int .i64 12]) ∧ Below w.heap.size w w' := by
  refine (Cr.refOpen_long s w k hn hs).mono fun e w' ⟨he, hb⟩ => ⟨?_, hb⟩
  rw [he.out, if_neg (by simp [ho])]
theorem ropen_yes (t : ByteArray) (k : Nat) (hn : s.size = k + 4) (hs : s.size ≤ 100000) (ho : PitotCrc.opened s.data.toList = true) (ht : s.extract 0 k = t) (w : World) :
    Calls Try.prog 37 #[.string s] w fun e w' => e = .returned (.tuple #[.string t, .int .i64 0]) ∧ Below w.heap.size w w' := by
  refine (Cr.refOpen_long s w k hn hs).mono fun e w' ⟨he, hb⟩ => ⟨?_, hb⟩
  rw [he.out, if_pos ho, ht]

set_option maxRecDepth 100000 in
set_option maxHeartbeats 1000000 in
theorem rdec_sum (h1 : 64 ≤ s.size) (h2 : s.size ≤ 1518) (ho : PitotCrc.opened s.data.toList = false) :
    Calls Try.prog 15 #[.string s] w fun e w' => e = .returned (.tuple #[fr0, .int .i64 12]) ∧ Below w.heap.size w w' := by
  have HO := Lib.hid (ropen_no s (s.size - 4) (by omega) (by omega) ho); clear ho
  go_enter Try.func15, Try.ntmps15
  go_wp2_with (first
    | (go_at_call 37; (with_reducible refine (HO.out _).mono ?_); rintro e w1 ⟨rfl, hb1⟩
       (have L1 := lies_below (heap_alloc_new w fr0C) hb1 (by simp))
       (obtain ⟨r0, r1, r2, r3, r4⟩ := five L1)
       (have f0 := lies_frozen L1 0)
       (have f1 := lies_frozen L1 1)
       (have f2 := lies_frozen L1 2)
       (have f3 := lies_frozen L1 3)
       (have f4 := lies_frozen L1 4)
       (have L1 := Lib.hid L1)))
  (try simp only [Exit.inBlock, Exit.then])
  obtain ⟨q0, q1, q2, q3, q4⟩ := read_five (y0 := .int .i64 0) (y1 := .int .i64 0) (y2 := .int .i64 0) (y3 := .int .i64 0) (y4 := .string ⟨#[]⟩) L1.out
  refine bodyPost_ret (by simp [results, Try.results15, go_sem, q0, q1, q2, q3, q4]; try rfl) rfl ?_
  have k1 : Below w.heap.size w w1 := ((Below.refl _ w).alloc (Nat.le_refl _) _).trans (hb1.mono (by simp))
  exact ⟨rfl, below_five k1 (Nat.le_refl _) _ _ _ _ _⟩
end

theorem Pt.x6 (p : Pt) : p.txt.extract 0 6 = ⟨p.a.bytes.toArray⟩ := by
  apply ByteArray.ext; rw [← Array.toList_inj, Cr.extract_list, Pt.txt_list]; simp [Pt.list, M6.bytes]
theorem Pt.x12 (p : Pt) : p.txt.extract 6 12 = ⟨p.b.bytes.toArray⟩ := by
  apply ByteArray.ext; rw [← Array.toList_inj, Cr.extract_list, Pt.txt_list]; simp [Pt.list, M6.bytes]
theorem Pt.x14 (p : Pt) : p.txt.extract 12 14 = ⟨#[p.x, p.y]⟩ := by
  apply ByteArray.ext; rw [← Array.toList_inj, Cr.extract_list, Pt.txt_list]; simp [Pt.list, Pt.behind, M6.bytes]
theorem Pt.xd (p : Pt) : p.txt.extract 14 (p.d.length + 14) = ⟨p.d.toArray⟩ := by
  apply ByteArray.ext; rw [← Array.toList_inj, Cr.extract_list, Pt.txt_list]; simp [Pt.list, Pt.behind, M6.bytes]
theorem Pt.xq (p : Pt) : p.txt.data.toList[p.d.length + 14]? = some p.q := by
  rw [Pt.txt_list]
  simp [Pt.list, Pt.behind, M6.bytes]
theorem idx_at (B : ByteArray) (x : UInt8) (j : Nat) (hj : j < B.size) (h : B.data.toList[j]? = some x) : B[j]'hj = x := by
  have : B[j]'hj = B.data.toList[j]'(by simpa using hj) := by simp; rfl
  rw [this]
  exact (List.getElem?_eq_some_iff.1 h).2
theorem idx_run (B : ByteArray) (x : UInt8) (j : Nat) (hj : j < B.size) (h : B.data.toList[j]? = some x) (w : World) :
    (Instr.index 9 (.string B) (.int .i64 j)).run Try.prog w = .ok (.int .u8 x.toNat) w := by
  have h1 := idx_at B x j hj h
  simp [Instr.index, go_sem, h1, hj]

section
variable (s : ByteArray) (p : Pt) (x e h n g : Int) (w : World)

set_option maxRecDepth 100000 in
set_option maxHeartbeats 1000000 in
theorem rdec_addr (ho : Opens s p) (hV : VlIs ⟨p.a.bytes.toArray⟩ x e) (hO : OfIs ⟨p.b.bytes.toArray⟩ h n g) (hb : e ≠ 0 ∨ (e = 0 ∧ g ≠ 0)) :
    Calls Try.prog 15 #[.string s] w fun e w' => e = .returned (.tuple #[fr0, .int .i64 14]) ∧ Below w.heap.size w w' := by
  obtain ⟨hz, hl, hh, hop, ht⟩ := ho
  have HP := Lib.hid (ropen_yes s p.txt (p.d.length + 15) (by omega) (by omega) hop ht); clear hop ht
  have h1 : 64 ≤ s.size := by omega
  have h2 : s.size ≤ 1518 := by omega
  have hX := p.x6
  have hY := p.x12
  have hT := p.txt_size
  obtain ⟨X, HX⟩ : ∃ X : ByteArray, Hid (X = ⟨p.a.bytes.toArray⟩) := ⟨_, rfl⟩
  obtain ⟨Y, HY⟩ : ∃ X : ByteArray, Hid (X = ⟨p.b.bytes.toArray⟩) := ⟨_, rfl⟩
  rw [← HX.out] at hX hV
  rw [← HY.out] at hY hO
  obtain ⟨T, HT⟩ : ∃ T, Hid (T = p.txt) := ⟨_, rfl⟩
  rw [← HT.out] at HP hX hY hT
  have hT1 : 60 ≤ T.size := by omega
  have hT2 : T.size ≤ 1518 := by omega
  clear hz hl hh hT
  have HV := Lib.hid hV; clear hV
  have HO := Lib.hid hO; clear hO
  have hE : (e != 0) = true ∧ ¬ e = 0 ∨ e = 0 ∧ (g != 0) = true ∧ ¬ g = 0 := by simp only [bne_iff_ne]; omega
  clear hb
  rcases hE with ⟨g1, g2⟩ | ⟨rfl, g1, g2⟩
  all_goals
    go_enter Try.func15, Try.ntmps15
    go_wp2_with (first
      | (go_at_call 37; (with_reducible refine (HP.out _).mono ?_); rintro r w1 ⟨rfl, hb1⟩
         (have L1 := Lib.hid (lies_below (heap_alloc_new w fr0C) hb1 (by simp))))
      | (go_at_call 38; (with_reducible refine (HV.out _).mono ?_); rintro r w2 ⟨rfl, hb2⟩
         (have L2 := Lib.hid (lies_below L1.out hb2 (lies_lt L1.out))))
      | (go_at_call 39; (with_reducible refine (HO.out _).mono ?_); rintro r w3 ⟨rfl, hb3⟩
         (have L3 := lies_below L2.out hb3 (lies_lt L2.out))
         (obtain ⟨r0, r1, r2, r3, r4⟩ := five L3)
         (have f0 := lies_frozen L3 0)
         (have f1 := lies_frozen L3 1)
         (have f2 := lies_frozen L3 2)
         (have f3 := lies_frozen L3 3)
         (have f4 := lies_frozen L3 4)
         (have L3 := Lib.hid L3)))
    (try simp only [Exit.inBlock, Exit.then])
    obtain ⟨q0, q1, q2, q3, q4⟩ := read_five (y0 := .int .i64 0) (y1 := .int .i64 0) (y2 := .int .i64 0) (y3 := .int .i64 0) (y4 := .string ⟨#[]⟩) L3.out
    refine bodyPost_ret (by simp [results, Try.results15, go_sem, q0, q1, q2, q3, q4]; try rfl) rfl ?_
    have k1 : Below w.heap.size w w1 := ((Below.refl _ w).alloc (Nat.le_refl _) _).trans (hb1.mono (by simp))
    have k2 := k1.trans (hb2.mono k1.size)
    have k3 := k2.trans (hb3.mono k2.size)
    exact ⟨rfl, below_five k3 (Nat.le_refl _) _ _ _ _ _⟩

set_option maxRecDepth 100000 in
set_option maxHeartbeats 1000000 in
theorem rdec_kind (ho : Opens s p) (hV : VlIs ⟨p.a.bytes.toArray⟩ x 0) (hO : OfIs ⟨p.b.bytes.toArray⟩ h n 0) (hk : ¬ (p.x = 8 ∧ p.y = 0)) :
    Calls Try.prog 15 #[.string s] w fun e w' => e = .returned (.tuple #[fr0, .int .i64 13]) ∧ Below w.heap.size w w' := by
  obtain ⟨hz, hl, hh, hop, ht⟩ := ho
  have HP := Lib.hid (ropen_yes s p.txt (p.d.length + 15) (by omega) (by omega) hop ht); clear hop ht
  have h1 : 64 ≤ s.size := by omega
  have h2 : s.size ≤ 1518 := by omega
  have hX := p.x6
  have hY := p.x12
  have hZ := p.x14
  have hT := p.txt_size
  obtain ⟨X, HX⟩ : ∃ X : ByteArray, Hid (X = ⟨p.a.bytes.toArray⟩) := ⟨_, rfl⟩
  obtain ⟨Y, HY⟩ : ∃ X : ByteArray, Hid (X = ⟨p.b.bytes.toArray⟩) := ⟨_, rfl⟩
  obtain ⟨Z, HZ⟩ : ∃ X : ByteArray, Hid (X = ⟨#[p.x, p.y]⟩) := ⟨_, rfl⟩
  rw [← HX.out] at hX hV
  rw [← HY.out] at hY hO
  rw [← HZ.out] at hZ
  have z0 : ¬ Z.toList = [8, 0] := by
    rw [ByteArray.toList_eq, HZ.out]
    intro e
    simp at e
    exact hk e
  have z1 : (Z.toList == [8, 0]) = false := by simpa using z0
  have z2 : (Z.toList != [8, 0]) = true := by rw [bne, z1]; rfl
  obtain ⟨T, HT⟩ : ∃ T, Hid (T = p.txt) := ⟨_, rfl⟩
  rw [← HT.out] at HP hX hY hT hZ
  have hT1 : 60 ≤ T.size := by omega
  have hT2 : T.size ≤ 1518 := by omega
  clear hz hl hh hT hk
  have HV := Lib.hid hV; clear hV
  have HO := Lib.hid hO; clear hO
  go_enter Try.func15, Try.ntmps15
  go_wp2_with (first
    | (go_at_call 37; (with_reducible refine (HP.out _).mono ?_); rintro r w1 ⟨rfl, hb1⟩
       (have L1 := Lib.hid (lies_below (heap_alloc_new w fr0C) hb1 (by simp))))
    | (go_at_call 38; (with_reducible refine (HV.out _).mono ?_); rintro r w2 ⟨rfl, hb2⟩
       (have L2 := Lib.hid (lies_below L1.out hb2 (lies_lt L1.out))))
    | (go_at_call 39; (with_reducible refine (HO.out _).mono ?_); rintro r w3 ⟨rfl, hb3⟩
       (have L3 := lies_below L2.out hb3 (lies_lt L2.out))
       (obtain ⟨r0, r1, r2, r3, r4⟩ := five L3)
       (have f0 := lies_frozen L3 0)
       (have f1 := lies_frozen L3 1)
       (have f2 := lies_frozen L3 2)
       (have f3 := lies_frozen L3 3)
       (have f4 := lies_frozen L3 4)
       (have L3 := Lib.hid L3)))
  (try simp only [Exit.inBlock, Exit.then])
  obtain ⟨q0, q1, q2, q3, q4⟩ := read_five (y0 := .int .i64 0) (y1 := .int .i64 0) (y2 := .int .i64 0) (y3 := .int .i64 0) (y4 := .string ⟨#[]⟩) L3.out
  refine bodyPost_ret (by simp [results, Try.results15, go_sem, q0, q1, q2, q3, q4]; try rfl) rfl ?_
  have k1 : Below w.heap.size w w1 := ((Below.refl _ w).alloc (Nat.le_refl _) _).trans (hb1.mono (by simp))
  have k2 := k1.trans (hb2.mono k1.size)
  have k3 := k2.trans (hb3.mono k2.size)
  exact ⟨rfl, below_five k3 (Nat.le_refl _) _ _ _ _ _⟩

set_option maxRecDepth 100000 in
set_option maxHeartbeats 1000000 in
theorem rdec_ok (ho : Opens s p) (hV : VlIs ⟨p.a.bytes.toArray⟩ x 0) (hO : OfIs ⟨p.b.bytes.toArray⟩ h n 0) (hk : p.x = 8 ∧ p.y = 0) :
    Calls Try.prog 15 #[.string s] w fun e w' => e = .returned (.tuple #[fr x h n p.q.toNat ⟨p.d.toArray⟩, .int .i64 0]) ∧ Below w.heap.size w w' := by
  obtain ⟨hz, hl, hh, hop, ht⟩ := ho
  have HP := Lib.hid (ropen_yes s p.txt (p.d.length + 15) (by omega) (by omega) hop ht); clear hop ht
  have h1 : 64 ≤ s.size := by omega
  have h2 : s.size ≤ 1518 := by omega
  have hX := p.x6
  have hY := p.x12
  have hZ := p.x14
  have hD := p.xd
  have hQ := p.xq
  have hT := p.txt_size
  rw [hk.1, hk.2] at hZ
  obtain ⟨X, HX⟩ : ∃ X : ByteArray, Hid (X = ⟨p.a.bytes.toArray⟩) := ⟨_, rfl⟩
  obtain ⟨Y, HY⟩ : ∃ X : ByteArray, Hid (X = ⟨p.b.bytes.toArray⟩) := ⟨_, rfl⟩
  obtain ⟨D, HD⟩ : ∃ X : ByteArray, Hid (X = ⟨p.d.toArray⟩) := ⟨_, rfl⟩
  rw [← HX.out] at hX hV
  rw [← HY.out] at hY hO
  rw [← HD.out] at hD
  rw [← HD.out]
  obtain ⟨T, HT⟩ : ∃ T, Hid (T = p.txt) := ⟨_, rfl⟩
  rw [← HT.out] at HP hX hY hT hZ hD hQ
  obtain ⟨m, Hm⟩ : ∃ m, Hid (m = p.d.length + 14) := ⟨_, rfl⟩
  rw [← Hm.out] at hD hQ
  have hm1 : 59 ≤ m := by rw [Hm.out]; omega
  have hm2 : m ≤ 1513 := by rw [Hm.out]; omega
  have hTm : T.size = m + 1 := by rw [Hm.out]; omega
  have hi := idx_run T p.q m (by omega) hQ
  have hq0 := p.q.toNat_lt
  obtain ⟨q, Hq⟩ : ∃ q, Hid (q = p.q.toNat) := ⟨_, rfl⟩
  rw [← Hq.out] at hi hq0 ⊢
  have hq1 : wrap64 (q : Int) = (q : Int) := IntWalk.wrap64_in _ (by omega)
  clear hz hk hQ hl hh hT
  have HV := Lib.hid hV; clear hV
  have HO := Lib.hid hO; clear hO
  go_enter Try.func15, Try.ntmps15
  go_upto_region 15 with (first
    | (go_at_call 37; (with_reducible refine (HP.out _).mono ?_); rintro r w1 ⟨rfl, hb1⟩
       (have L1 := Lib.hid (lies_below (heap_alloc_new w fr0C) hb1 (by simp))))
    | (go_at_call 38; (with_reducible refine (HV.out _).mono ?_); rintro r w2 ⟨rfl, hb2⟩
       (have L2 := Lib.hid (lies_below L1.out hb2 (lies_lt L1.out))))
    | (go_at_call 39; (with_reducible refine (HO.out _).mono ?_); rintro r w3 ⟨rfl, hb3⟩
       (have L3 := lies_below L2.out hb3 (lies_lt L2.out))
       (obtain ⟨r0, r1, r2, r3, r4⟩ := five L3)
       (have f0 := lies_frozen L3 0)
       (have f1 := lies_frozen L3 1)
       (have f2 := lies_frozen L3 2)
       (have f3 := lies_frozen L3 3)
       (have f4 := lies_frozen L3 4)
       (have L3 := Lib.hid L3)))
  go_region
  go_wp2
  (try simp only [Exit.inBlock, Exit.then])
  obtain ⟨q0, q1, q2, q3, q4⟩ := read_five (y0 := .int .i64 x) (y1 := .int .i64 h) (y2 := .int .i64 n) (y3 := .int .i64 q) (y4 := .string D) L3.out
  refine bodyPost_ret (by simp [results, Try.results15, go_sem, q0, q1, q2, q3, q4]; try rfl) rfl ?_
  have k1 : Below w.heap.size w w1 := ((Below.refl _ w).alloc (Nat.le_refl _) _).trans (hb1.mono (by simp))
  have k2 := k1.trans (hb2.mono k1.size)
  have k3 := k2.trans (hb3.mono k2.size)
  exact ⟨rfl, (below_five k3 (Nat.le_refl _) _ _ _ _ _).drew⟩
end

/-- Both Looks answer the same. -/
theorem look_both (s : ByteArray) (hs : s.size ≤ 100000) :
    ∃ x e : Int, (∀ w, Calls Try.prog 16 #[.string s] w fun r w' => r = .returned (.tuple #[.int .i64 x, .int .i64 e]) ∧ Below w.heap.size w w') ∧
      (∀ w, Calls Try.prog 17 #[.string s] w fun r w' => r = .returned (.tuple #[.int .i64 x, .int .i64 e]) ∧ Below w.heap.size w w') := by
  by_cases h12 : s.size < 12
  · exact ⟨0, 10, fun w => look_of s 0 0 0 10 w fun w => ends_short s w h12, fun w => rlook_short s w h12⟩
  · obtain ⟨a, b, t, ht⟩ := split12 s.data.toList (by simpa using (by omega : 12 ≤ s.size))
    have hf := front12 s a b t ht
    have hX : s.extract 0 6 = ⟨a.bytes.toArray⟩ := by
      apply ByteArray.ext; rw [← Array.toList_inj, Cr.extract_list, ht]; simp [M6.bytes]
    have hY : s.extract 6 12 = ⟨b.bytes.toArray⟩ := by
      apply ByteArray.ext; rw [← Array.toList_inj, Cr.extract_list, ht]; simp [M6.bytes]
    cases hv : a.isVL with
    | false =>
      obtain ⟨h, n, e, ho⟩ := ofIs_any b
      exact ⟨0, 14, fun w => look_of s 0 0 0 14 w fun w => ends_vl s a b w (by omega) hs hf hv, fun w => rlook_bad s _ _ _ _ _ _ _ w (by omega) hs hX hY (vlIs_no a hv) ho (by omega)⟩
    | true =>
      by_cases hk : ∃ k, k ≤ 1 ∧ b.isEnd k = true
      · obtain ⟨k, hk1, hk2⟩ := hk
        exact ⟨_, 0, fun w => look_of s _ _ _ 0 w fun w => ends_ok s a b w (by omega) hs hf hv k hk1 hk2, fun w => rlook_ok s _ _ _ _ _ w (by omega) hs hX hY (vlIs_yes a hv) (ofIs_yes b k hk1 hk2)⟩
      · have h0 : b.isEnd 0 = false := by
          cases h0 : b.isEnd 0 with
          | false => rfl
          | true => exact absurd ⟨0, by omega, h0⟩ hk
        have h1 : b.isEnd 1 = false := by
          cases h0 : b.isEnd 1 with
          | false => rfl
          | true => exact absurd ⟨1, by omega, h0⟩ hk
        exact ⟨0, 14, fun w => look_of s 0 0 0 14 w fun w => ends_of s a b w (by omega) hs hf hv h0 h1, fun w => rlook_bad s _ _ _ _ _ _ _ w (by omega) hs hX hY (vlIs_yes a hv) (ofIs_no b h0 h1) (by omega)⟩

/-- Both Decodes answer the same. -/
theorem dec_both (s : ByteArray) (hs : s.size ≤ 100000) :
    ∃ (a b c d : Int) (S : ByteArray) (e : Int), (∀ w, Calls Try.prog 14 #[.string s] w fun r w' => r = .returned (.tuple #[fr a b c d S, .int .i64 e]) ∧ Below w.heap.size w w') ∧
      (∀ w, Calls Try.prog 15 #[.string s] w fun r w' => r = .returned (.tuple #[fr a b c d S, .int .i64 e]) ∧ Below w.heap.size w w') := by
  rcases dec_kinds s with h | h | ⟨h1, h2, h3⟩ | ⟨p, h1, h2⟩ | ⟨p, h1, h2, h3, h4⟩ | ⟨p, k, h1, h2, h3, h4, h5⟩ | ⟨p, k, h⟩
  · exact ⟨_, _, _, _, _, 10, fun w => decode_short s w h, fun w => rdec_short s w h⟩
  · exact ⟨_, _, _, _, _, 11, fun w => decode_long s w h (by omega), fun w => rdec_long s w h (by omega)⟩
  · exact ⟨_, _, _, _, _, 12, fun w => decode_sum s w h1 h2 h3, fun w => rdec_sum s w h1 h2 h3⟩
  · obtain ⟨h, n, e, ho⟩ := ofIs_any p.b
    exact ⟨_, _, _, _, _, 14, fun w => decode_vl s p w h1 h2, fun w => rdec_addr s p _ _ _ _ _ w h1 (vlIs_no p.a h2) ho (by omega)⟩
  · exact ⟨_, _, _, _, _, 14, fun w => decode_of s p w h1 h2 h3 h4, fun w => rdec_addr s p _ _ _ _ _ w h1 (vlIs_yes p.a h2) (ofIs_no p.b h3 h4) (by omega)⟩
  · exact ⟨_, _, _, _, _, 13, fun w => decode_other s p k w h1 h2 h3 h4 h5, fun w => rdec_kind s p _ _ _ w h1 (vlIs_yes p.a h2) (ofIs_yes p.b k h3 h4) h5⟩
  · exact ⟨_, _, _, _, _, 0, fun w => decode_frame s p k w h, fun w => rdec_ok s p _ _ _ w h.opens (vlIs_yes p.a h.vl) (ofIs_yes p.b k h.net h.src) h.kind⟩
end Go.Proofs.Ythlpehiloabfiaa
