/- Contracts of Encode: a packet's bytes, or why there are none. -/
import Derived.Test.YtiedfdnjnjohdaaWh
import Derived.Test.YtiedfdnjnjohdaaBiWy
namespace Go.Proofs.Ytiedfdnjnjohdaa
open Go.RowKit Go.Proofs.PitotIp
open Go.Proofs.PitotAddr (hi lo)
open Go.Proofs.Ytiedfdnjnjohdaa.Bi (IntsAt lies_lt lies_cell lies_frozen lies_alloc)

abbrev i1 (a : Int) : Obj := .cells #[.int .i64 a] 3
abbrev i2 (a b : Int) : Obj := .cells #[.int .i64 a, .int .i64 b] 3

theorem within_one (most x : Int) (B : Bool) (hB : wi most [x] = B) (X : World) (k : Nat) (hk : X.heap.size = k) :
    Calls Try.prog 29 #[.int .i64 most, .slice (some ⟨k, 0, none⟩) 1 1] (X.alloc (i1 x)) fun e w' => e = .returned (.bool B) ∧ X.alloc (i1 x) = w' := by
  subst hk
  have h := within_any most (some ⟨X.heap.size, 0, none⟩) 1 [x] (X.alloc (i1 x)) (ints_lie (heap_alloc_new X _)) (by simp) 1 rfl
  rwa [hB] at h
theorem within_two (most x y : Int) (B : Bool) (hB : wi most [x, y] = B) (X : World) (k : Nat) (hk : X.heap.size = k) :
    Calls Try.prog 29 #[.int .i64 most, .slice (some ⟨k, 0, none⟩) 2 2] (X.alloc (i2 x y)) fun e w' => e = .returned (.bool B) ∧ X.alloc (i2 x y) = w' := by
  subst hk
  have h := within_any most (some ⟨X.heap.size, 0, none⟩) 2 [x, y] (X.alloc (i2 x y)) (ints_lie (heap_alloc_new X _)) (by simp) 2 rfl
  rwa [hB] at h

theorem wi_one {most x : Int} : wi most [x] = decide (0 ≤ x ∧ x ≤ most) := by simp [wi]
theorem wi_two {most x y : Int} : wi most [x, y] = decide ((0 ≤ x ∧ x ≤ most) ∧ (0 ≤ y ∧ y ≤ most)) := by simp [wi]

set_option maxRecDepth 100000 in
set_option maxHeartbeats 1000000 in
theorem encode_arg (id : Int) (m : Bool) (off ttl pr : Int) (a b : Q4) (s : ByteArray) (w : World) (h : ¬ ((0 ≤ id ∧ id ≤ 65535) ∧ (0 ≤ off ∧ off ≤ 8191) ∧ (0 ≤ ttl ∧ ttl ≤ 255) ∧ (0 ≤ pr ∧ pr ≤ 255))) :
    Calls Try.prog 21 #[pk id m off ttl pr a b s] w fun e w' => e = .returned (.tuple #[.string ⟨#[]⟩, .int .i64 1]) ∧ Below w.heap.size w w' := by
  have h' : wi 65535 [id] = false ∨ (wi 65535 [id] = true ∧ wi 8191 [off] = false) ∨ (wi 65535 [id] = true ∧ wi 8191 [off] = true ∧ wi 255 [ttl, pr] = false) := by
    rw [wi_one, wi_one, wi_two]
    simp only [decide_eq_false_iff_not, decide_eq_true_eq]
    omega
  clear h
  have kb : ∀ o1 o2, Below w.heap.size w ((w.alloc o1).alloc o2) := fun o1 o2 => ((Below.refl _ w).alloc (Nat.le_refl _) _).alloc (by simp) _
  have kc : ∀ o1 o2 o3, Below w.heap.size w (((w.alloc o1).alloc o2).alloc o3) := fun o1 o2 o3 => (kb o1 o2).alloc (kb o1 o2).size _
  have kd : ∀ o1 o2 o3 o4, Below w.heap.size w ((((w.alloc o1).alloc o2).alloc o3).alloc o4) := fun o1 o2 o3 o4 => (kc o1 o2 o3).alloc (kc o1 o2 o3).size _
  have kb := Lib.hid kb; have kc := Lib.hid kc; have kd := Lib.hid kd
  rcases h' with h1 | ⟨h1, h2⟩ | ⟨h1, h2, h3⟩
  · have H1 := Lib.hid (within_one 65535 id _ h1); clear h1
    go_enter Try.func21, Try.ntmps21
    go_wp2_with (go_at_call 29; (with_reducible refine (H1.out _ _ (by simp)).mono ?_); rintro r w1 ⟨rfl, rfl⟩)
    go_returns
    exact ⟨rfl, kb.out _ _⟩
  · have H1 := Lib.hid (within_one 65535 id _ h1); clear h1
    have H2 := Lib.hid (within_one 8191 off _ h2); clear h2
    go_enter Try.func21, Try.ntmps21
    go_wp2_with (first
      | (go_at_call 29; (with_reducible refine (H1.out _ _ (by simp)).mono ?_); rintro r w1 ⟨rfl, rfl⟩)
      | (go_at_call 29; (with_reducible refine (H2.out _ _ (by simp)).mono ?_); rintro r w1 ⟨rfl, rfl⟩))
    go_returns
    exact ⟨rfl, kc.out _ _ _⟩
  · have H1 := Lib.hid (within_one 65535 id _ h1); clear h1
    have H2 := Lib.hid (within_one 8191 off _ h2); clear h2
    have H3 := Lib.hid (within_two 255 ttl pr _ h3); clear h3
    go_enter Try.func21, Try.ntmps21
    go_wp2_with (first
      | (go_at_call 29; (with_reducible refine (H1.out _ _ (by simp)).mono ?_); rintro r w1 ⟨rfl, rfl⟩)
      | (go_at_call 29; (with_reducible refine (H2.out _ _ (by simp)).mono ?_); rintro r w1 ⟨rfl, rfl⟩)
      | (go_at_call 29; (with_reducible refine (H3.out _ _ (by simp)).mono ?_); rintro r w1 ⟨rfl, rfl⟩))
    go_returns
    exact ⟨rfl, kd.out _ _ _ _⟩

set_option maxRecDepth 100000 in
set_option maxHeartbeats 1000000 in
theorem encode_long (id : Nat) (m : Bool) (off ttl pr : Nat) (a b : Q4) (s : ByteArray) (w : World) (h1 : id < 65536) (h2 : off < 8192) (h3 : ttl < 256) (h4 : pr < 256) (hs : 65515 < s.size) (hm : s.size ≤ 9223372036854775807) :
    Calls Try.prog 21 #[pk id m off ttl pr a b s] w fun e w' => e = .returned (.tuple #[.string ⟨#[]⟩, .int .i64 11]) ∧ Below w.heap.size w w' := by
  have kb : ∀ o1 o2, Below w.heap.size w ((w.alloc o1).alloc o2) := fun o1 o2 => ((Below.refl _ w).alloc (Nat.le_refl _) _).alloc (by simp) _
  have kc : ∀ o1 o2 o3, Below w.heap.size w (((w.alloc o1).alloc o2).alloc o3) := fun o1 o2 o3 => (kb o1 o2).alloc (kb o1 o2).size _
  have kd : ∀ o1 o2 o3 o4, Below w.heap.size w ((((w.alloc o1).alloc o2).alloc o3).alloc o4) := fun o1 o2 o3 o4 => (kc o1 o2 o3).alloc (kc o1 o2 o3).size _
  clear kb kc
  have kd := Lib.hid kd
  have H1 := Lib.hid (within_one 65535 id true (by rw [wi_one]; exact decide_eq_true (by omega)))
  have H2 := Lib.hid (within_one 8191 off true (by rw [wi_one]; exact decide_eq_true (by omega)))
  have H3 := Lib.hid (within_two 255 ttl pr true (by rw [wi_two]; exact decide_eq_true (by omega)))
  clear h1 h2 h3 h4
  go_enter Try.func21, Try.ntmps21
  go_wp2_with (first
    | (go_at_call 29; (with_reducible refine (H1.out _ _ (by simp)).mono ?_); rintro r w1 ⟨rfl, rfl⟩)
    | (go_at_call 29; (with_reducible refine (H2.out _ _ (by simp)).mono ?_); rintro r w1 ⟨rfl, rfl⟩)
    | (go_at_call 29; (with_reducible refine (H3.out _ _ (by simp)).mono ?_); rintro r w1 ⟨rfl, rfl⟩))
  go_returns
  exact ⟨rfl, kd.out _ _ _ _⟩

/-- A packet that may be. -/
structure MayBe (id off ttl pr : Nat) (s : ByteArray) : Prop where
  i : id < 65536
  o : off < 8192
  t : ttl < 256
  p : pr < 256
  d : s.size ≤ 65515
/-- Its bytes. -/
def outB (id : Nat) (m : Bool) (off ttl pr : Nat) (a b : Q4) (s : ByteArray) : ByteArray := ⟨(PitotIp.bytes id (pt m off) ttl pr a b s.data.toList).toArray⟩
theorem outB_list (id : Nat) (m : Bool) (off ttl pr : Nat) (a b : Q4) (s : ByteArray) : (outB id m off ttl pr a b s).data.toList = PitotIp.bytes id (pt m off) ttl pr a b s.data.toList := by simp [outB]
theorem outB_size (id : Nat) (m : Bool) (off ttl pr : Nat) (a b : Q4) (s : ByteArray) : (outB id m off ttl pr a b s).size = 20 + s.size := by
  show (PitotIp.bytes id (pt m off) ttl pr a b s.data.toList).toArray.size = _
  rw [List.size_toArray, bytes_length]
  simp

section
variable {w : World} {g : Nat} {t : TypeId}
theorem cells14 {x0 x1 x2 x3 x4 x5 x6 x7 x8 x9 x10 x11 x12 x13 : Value} (h : w.heap[g]? = some (.cells #[x0, x1, x2, x3, x4, x5, x6, x7, x8, x9, x10, x11, x12, x13] t)) :
    (w.cell? ⟨g, 0, none⟩ = some x0) ∧ (w.cell? ⟨g, 1, none⟩ = some x1) ∧ (w.cell? ⟨g, 2, none⟩ = some x2) ∧ (w.cell? ⟨g, 3, none⟩ = some x3) ∧ (w.cell? ⟨g, 4, none⟩ = some x4) ∧ (w.cell? ⟨g, 5, none⟩ = some x5) ∧ (w.cell? ⟨g, 6, none⟩ = some x6) ∧ (w.cell? ⟨g, 7, none⟩ = some x7) ∧ (w.cell? ⟨g, 8, none⟩ = some x8) ∧ (w.cell? ⟨g, 9, none⟩ = some x9) ∧ (w.cell? ⟨g, 10, none⟩ = some x10) ∧ (w.cell? ⟨g, 11, none⟩ = some x11) ∧ (w.cell? ⟨g, 12, none⟩ = some x12) ∧ (w.cell? ⟨g, 13, none⟩ = some x13) :=
  ⟨lies_cell h 0, lies_cell h 1, lies_cell h 2, lies_cell h 3, lies_cell h 4, lies_cell h 5, lies_cell h 6, lies_cell h 7, lies_cell h 8, lies_cell h 9, lies_cell h 10, lies_cell h 11, lies_cell h 12, lies_cell h 13⟩
theorem cells6 {x0 x1 x2 x3 x4 x5 : Value} (h : w.heap[g]? = some (.cells #[x0, x1, x2, x3, x4, x5] t)) :
    (w.cell? ⟨g, 0, none⟩ = some x0) ∧ (w.cell? ⟨g, 1, none⟩ = some x1) ∧ (w.cell? ⟨g, 2, none⟩ = some x2) ∧ (w.cell? ⟨g, 3, none⟩ = some x3) ∧ (w.cell? ⟨g, 4, none⟩ = some x4) ∧ (w.cell? ⟨g, 5, none⟩ = some x5) :=
  ⟨lies_cell h 0, lies_cell h 1, lies_cell h 2, lies_cell h 3, lies_cell h 4, lies_cell h 5⟩
theorem cells8 {x0 x1 x2 x3 x4 x5 x6 x7 : Value} (h : w.heap[g]? = some (.cells #[x0, x1, x2, x3, x4, x5, x6, x7] t)) :
    (w.cell? ⟨g, 0, none⟩ = some x0) ∧ (w.cell? ⟨g, 1, none⟩ = some x1) ∧ (w.cell? ⟨g, 2, none⟩ = some x2) ∧ (w.cell? ⟨g, 3, none⟩ = some x3) ∧ (w.cell? ⟨g, 4, none⟩ = some x4) ∧ (w.cell? ⟨g, 5, none⟩ = some x5) ∧ (w.cell? ⟨g, 6, none⟩ = some x6) ∧ (w.cell? ⟨g, 7, none⟩ = some x7) :=
  ⟨lies_cell h 0, lies_cell h 1, lies_cell h 2, lies_cell h 3, lies_cell h 4, lies_cell h 5, lies_cell h 6, lies_cell h 7⟩
end

theorem sum_lt (h : H20) : h.sum < 65536 := by have := PitotMath.ones_le h.bare; unfold H20.sum; omega

set_option maxRecDepth 100000 in
set_option maxHeartbeats 4000000 in
theorem encode_ok (id : Nat) (m : Bool) (off ttl pr : Nat) (a b : Q4) (s : ByteArray) (w : World) (h : MayBe id off ttl pr s) :
    Calls Try.prog 21 #[pk id m off ttl pr a b s] w fun e w' => e = .returned (.tuple #[.string (outB id m off ttl pr a b s), .int .i64 0]) ∧ Below w.heap.size w w' := by
  obtain ⟨h1, h2, h3, h4, h5⟩ := h
  have H1 := Lib.hid (within_one 65535 id true (by rw [wi_one]; exact decide_eq_true (by omega)))
  have H2 := Lib.hid (within_one 8191 off true (by rw [wi_one]; exact decide_eq_true (by omega)))
  have H3 := Lib.hid (within_two 255 ttl pr true (by rw [wi_two]; exact decide_eq_true (by omega)))
  obtain ⟨R, HR⟩ : ∃ R, Hid (R = outB id m off ttl pr a b s) := ⟨_, rfl⟩
  rw [← HR.out]
  obtain ⟨S, HS⟩ : ∃ S, Hid (S = (head (20 + s.size) id (pt m off) ttl pr 0 a b).sum) := ⟨_, rfl⟩
  have hS : S < 65536 := by rw [HS.out]; exact sum_lt _
  obtain ⟨B0, HB0⟩ : ∃ B : ByteArray, Hid (B = ⟨(head (20 + s.size) id (pt m off) ttl pr 0 a b).list.toArray⟩) := ⟨_, rfl⟩
  obtain ⟨B1, HB1⟩ : ∃ B : ByteArray, Hid (B = ⟨(head (20 + s.size) id (pt m off) ttl pr S a b).list.toArray⟩) := ⟨_, rfl⟩
  have T1 := fun w => writeHead_core (fun b n l w h1 h2 h3 => Bi.bytes_any b n l w h1 h2 h3) id m off ttl pr a b s (20 + s.size) 0 w h1 h2 h3 h4 (by omega) (by omega)
  rw [← HB0.out] at T1
  have T2 := fun w => writeHead_core (fun b n l w h1 h2 h3 => Bi.bytes_any b n l w h1 h2 h3) id m off ttl pr a b s (20 + s.size) S w h1 h2 h3 h4 (by omega) hS
  rw [← HB1.out] at T2
  have z0 : B0.size = 20 := by rw [HB0.out]; rfl
  have z1 : B1.size = 20 := by rw [HB1.out]; rfl
  have TO : ∀ w, Calls Try.prog 31 #[.string B0] w fun e w' => e = .returned (.int .i64 S) ∧ w = w' := fun w => by
    have := Bi.ones_any B0 w (by omega)
    rw [show PitotMath.ones B0.data.toList = S by rw [HB0.out, HS.out]; rfl] at this
    exact this
  have HF : Hid (B1 ++ s = R) := by
    show _ = _
    rw [HB1.out, HR.out, HS.out]
    apply ByteArray.ext
    rw [← Array.toList_inj]
    simp [outB, PitotIp.bytes, headOk]
  have e20 : ((20 + s.size : Nat) : Int) = 20 + (s.size : Int) := by omega
  rw [e20] at T1 T2
  rw [show ((0 : Nat) : Int) = 0 from rfl] at T1
  have T1 := Lib.hid T1; have T2 := Lib.hid T2; have TO := Lib.hid TO
  clear h1 h2 h3 h4 z0 e20
  go_enter Try.func21, Try.ntmps21
  go_upto_region 6 with (first
    | (go_at_call 29; (with_reducible refine (H1.out _ _ (by simp)).mono ?_); rintro r w1 ⟨rfl, rfl⟩)
    | (go_at_call 29; (with_reducible refine (H2.out _ _ (by simp)).mono ?_); rintro r w1 ⟨rfl, rfl⟩)
    | (go_at_call 29; (with_reducible refine (H3.out _ _ (by simp)).mono ?_); rintro r w1 ⟨rfl, rfl⟩))
  have P0 : ((((((w.alloc (pkC id m off ttl pr a b s)).alloc (i1 id)).alloc (i1 off)).alloc (i2 ttl pr)).alloc (hdC 69 0 0 0 (20 + s.size) 0)).heap[w.heap.size]? = some (pkC id m off ttl pr a b s)) := lies_alloc (lies_alloc (lies_alloc (lies_alloc (heap_alloc_new w _) _) _) _) _
  have G0 : ((((((w.alloc (pkC id m off ttl pr a b s)).alloc (i1 id)).alloc (i1 off)).alloc (i2 ttl pr)).alloc (hdC 69 0 0 0 (20 + s.size) 0)).heap[w.heap.size + 1 + 1 + 1 + 1]? = some (hdC 69 0 0 0 (20 + s.size) 0)) := by
    have := heap_alloc_new ((((w.alloc (pkC id m off ttl pr a b s)).alloc (i1 id)).alloc (i1 off)).alloc (i2 ttl pr)) (hdC 69 0 0 0 (20 + s.size) 0)
    simpa using this
  have k0 : Below w.heap.size w (((((w.alloc (pkC id m off ttl pr a b s)).alloc (i1 id)).alloc (i1 off)).alloc (i2 ttl pr)).alloc (hdC 69 0 0 0 (20 + s.size) 0)) := by
    have k1 := (Below.refl w.heap.size w).alloc (Nat.le_refl _) (pkC id m off ttl pr a b s)
    have k2 := k1.alloc k1.size (i1 id)
    have k3 := k2.alloc k2.size (i1 off)
    have k4 := k3.alloc k3.size (i2 ttl pr)
    exact k4.alloc k4.size _
  generalize ((((w.alloc (pkC id m off ttl pr a b s)).alloc (i1 id)).alloc (i1 off)).alloc (i2 ttl pr)).alloc (hdC 69 0 0 0 (20 + s.size) 0) = X at P0 G0 k0 ⊢
  obtain ⟨p0, p1, p2, p3, p4, p5, p6, p7, p8, p9, p10, p11, p12, p13⟩ := cells14 P0
  obtain ⟨g0, g1, g2, g3, g4, g5⟩ := cells6 G0
  have P0 := Lib.hid P0; have G0 := Lib.hid G0; have k0 := Lib.hid k0
  go_wp2_with (first
    | (go_at_call 30; (with_reducible refine (T1.out _).mono ?_); rintro r w1 ⟨rfl, hb1⟩
       (have P1 := lies_below P0.out hb1 (lies_lt P0.out))
       (have G1 := lies_below G0.out hb1 (lies_lt G0.out))
       (have P2 : (w1.setCell ⟨w.heap.size + 1 + 1 + 1 + 1, 5, none⟩ (.int .i64 S)).heap[w.heap.size]? = some (pkC id m off ttl pr a b s) := (Below.heap_setCell w1 _ _ _ (by simp; omega)).trans P1)
       (have G2 : (w1.setCell ⟨w.heap.size + 1 + 1 + 1 + 1, 5, none⟩ (.int .i64 S)).heap[w.heap.size + 1 + 1 + 1 + 1]? = some (hdC 69 0 0 0 (20 + s.size) S) := Bi.lies_set G1 5 _)
       (obtain ⟨q0, q1, q2, q3, q4, q5, q6, q7, q8, q9, q10, q11, q12, q13⟩ := cells14 P2)
       (obtain ⟨r0, r1, r2, r3, r4, r5⟩ := cells6 G2)
       (have fz := lies_frozen G1 5)
       (have cz : w1.cell? ⟨w.heap.size + 1 + 1 + 1 + 1, 5, none⟩ = some (.int .i64 0) := lies_cell G1 5)
       (have P2 := Lib.hid P2)
       (clear P1 G1 G2))
    | (go_at_call 31; (with_reducible refine (TO.out _).mono ?_); rintro r w2 ⟨rfl, rfl⟩)
    | (go_at_call 30; (with_reducible refine (T2.out _).mono ?_); rintro r w3 ⟨rfl, hb3⟩
       (have P3 := lies_below P2.out hb3 (lies_lt P2.out))
       (obtain ⟨t0, t1, t2, t3, t4, t5, t6, t7, t8, t9, t10, t11, t12, t13⟩ := cells14 P3)))
  go_returns
  have k1 := k0.out.trans (hb1.mono k0.out.size)
  have k2 := k1.setCell (show w.heap.size ≤ (⟨w.heap.size + 1 + 1 + 1 + 1, 5, none⟩ : Addr).block from Nat.le_add_right_of_le (Nat.le_add_right_of_le (Nat.le_add_right_of_le (Nat.le_add_right _ _)))) (.int .i64 S)
  have k3 := k2.trans (hb3.mono k2.size)
  refine ⟨?_, k3⟩
  show Ending.returned (.tuple #[.string (B1 ++ s), .int .i64 0]) = _
  rw [HF.out]
end Go.Proofs.Ytiedfdnjnjohdaa
