/- Contracts of kindOf, write, sumOf: an echo's bytes, its sum. -/
import Derived.Test.YtcljlaiafgbfkaaBa
namespace Go.Proofs.Ytcljlaiafgbfkaa
open Go.RowKit Go.Proofs.PitotIcmp
open Go.Proofs.PitotAddr (hi lo)
open Go.Proofs.Ytcljlaiafgbfkaa.Bi (WrAt putStep u8_any u16_any text_any lies_lt lies_cell lies_frozen lies_alloc)

set_option maxHeartbeats 400000 in
theorem kindOf_any (a : Bool) (i q : Int) (s : ByteArray) (w : World) : Calls Try.prog 15 #[eo a i q s] w fun e w' => e = .returned (.int .i64 (kind a).toNat) ∧ Below w.heap.size w w' := by
  have k0 : Hid (Below w.heap.size w (w.alloc (eoC a i q s))) := (Below.refl _ w).alloc (Nat.le_refl _) _
  cases a
  all_goals
    go_enter Try.func15, Try.ntmps15
    go_wp2
    go_returns
    exact ⟨rfl, k0.out⟩

/-- What write holds: the echo, its Writer. -/
structure Ws (w X : World) (E : Obj) (n : Nat) (K : List UInt8) : Prop where
  le : X.heap[w.heap.size]? = some E
  lw : WrAt X (w.heap.size + 1) n (some K)
  lb : Below w.heap.size w X
theorem Ws.step {w X Y : World} {cs : Array Value} {t : TypeId} {n n' : Nat} {K K' : List UInt8} (q : Ws w X (.cells cs t) n K) (hw : WrAt Y (w.heap.size + 1) n' (some K')) (hg : X.grownBy Y (some (w.heap.size + 1))) : Ws w Y (.cells cs t) n' K' :=
  ⟨lies_grown q.le hg (by omega), hw, q.lb.grown hg q.lb.size (fun k e => by cases e; omega)⟩
theorem wr_lt {X : World} {b n : Nat} {K : List UInt8} (h : WrAt X b n (some K)) : b < X.heap.size := by
  obtain ⟨p, l, ts, h1, _⟩ := h
  exact lies_lt h1
theorem Ws.below {w X Y : World} {cs : Array Value} {t : TypeId} {n : Nat} {K : List UInt8} (q : Ws w X (.cells cs t) n K) (hb : Below X.heap.size X Y) : Ws w Y (.cells cs t) n K :=
  ⟨lies_below q.le hb (lies_lt q.le), q.lw.below hb, q.lb.trans (hb.mono q.lb.size)⟩

/-- The bytes that are written with a sum. -/
def outS (a : Bool) (i q sum : Nat) (s : ByteArray) : ByteArray := ⟨((ec a i q sum).list ++ s.data.toList).toArray⟩
theorem outS_list (a : Bool) (i q sum : Nat) (s : ByteArray) : (outS a i q sum s).data.toList = (ec a i q sum).list ++ s.data.toList := by simp [outS]
theorem outS_size (a : Bool) (i q sum : Nat) (s : ByteArray) : (outS a i q sum s).size = 8 + s.size := by
  rw [size_toList, outS_list, List.length_append, E8.list_length, ← size_toList]

set_option maxRecDepth 100000 in
set_option maxHeartbeats 2000000 in
theorem write_any (a : Bool) (i q sum : Nat) (s : ByteArray) (hi' : i < 65536) (hq : q < 65536) (hs : sum < 65536) (hd : s.size ≤ 9000) (w : World) :
    Calls Try.prog 10 #[eo a i q s, .int .i64 sum] w fun e w' => e = .returned (.tuple #[.string (outS a i q sum s), .int .i64 0]) ∧ Below w.heap.size w w' := by
  obtain ⟨K1, e1⟩ : ∃ K1, K1 = ([] : List UInt8) ++ [kind a] := ⟨_, rfl⟩
  obtain ⟨K2, e2⟩ : ∃ K2, K2 = K1 ++ [(0 : UInt8)] := ⟨_, rfl⟩
  obtain ⟨K3, e3⟩ : ∃ K3, K3 = K2 ++ [hi sum, lo sum] := ⟨_, rfl⟩
  obtain ⟨K4, e4⟩ : ∃ K4, K4 = K3 ++ [hi i, lo i] := ⟨_, rfl⟩
  obtain ⟨K5, e5⟩ : ∃ K5, K5 = K4 ++ [hi q, lo q] := ⟨_, rfl⟩
  obtain ⟨K6, e6⟩ : ∃ K6, K6 = K5 ++ s.data.toList := ⟨_, rfl⟩
  have l1 : K1.length = 1 := by rw [e1]; rfl
  have l2 : K2.length = 2 := by rw [e2, List.length_append, l1]; rfl
  have l3 : K3.length = 4 := by rw [e3, List.length_append, l2]; rfl
  have l4 : K4.length = 6 := by rw [e4, List.length_append, l3]; rfl
  have l5 : K5.length = 8 := by rw [e5, List.length_append, l4]; rfl
  have l6 : K6.length = 8 + s.size := by rw [e6, List.length_append, l5, ← size_toList]
  obtain ⟨R, HR⟩ : ∃ R, Hid (R = outS a i q sum s) := ⟨_, rfl⟩
  rw [← HR.out]
  have eR : Hid (R = ⟨K6.toArray⟩) := by
    show _ = _
    rw [HR.out, e6, e5, e4, e3, e2, e1]
    simp [outS, ec, E8.list]
  obtain ⟨kd, Hk⟩ : ∃ kd : Int, Hid (kd = (kind a).toNat) := ⟨_, rfl⟩
  have TK := kindOf_any a i q s
  have T1 := u8_step [] K1 (kind a) e1 (by simp) (w.heap.size + 1) 0
  rw [← Hk.out] at TK T1
  have T2 := u8_step K1 K2 0 e2 (by omega) (w.heap.size + 1) (0 + 1)
  rw [show (((0 : UInt8).toNat : Nat) : Int) = 0 from rfl] at T2
  have T3 := u16_step K2 K3 sum hs e3 (by omega) (w.heap.size + 1) (0 + 1 + 1)
  have T4 := u16_step K3 K4 i hi' e4 (by omega) (w.heap.size + 1) (0 + 1 + 1 + 1)
  have T5 := u16_step K4 K5 q hq e5 (by omega) (w.heap.size + 1) (0 + 1 + 1 + 1 + 1)
  have T6 := text_step K5 K6 s e6 (by omega) (by omega) (w.heap.size + 1) (0 + 1 + 1 + 1 + 1 + 1)
  have T7 : ∀ X, WrAt X (w.heap.size + 1) (0 + 1 + 1 + 1 + 1 + 1 + 1) (some K6) → Calls Try.prog 18 #[.pointer (some ⟨w.heap.size + 1, 0, none⟩)] X fun e w' => e = .returned (.tuple #[.string R, .int .i64 0]) ∧ Below X.heap.size X w' := fun X h => by
    rw [eR.out]; exact Bi.bytes_any _ _ K6 X h (by omega) (by omega)
  have TK := Lib.hid TK; have T1 := Lib.hid T1; have T2 := Lib.hid T2; have T3 := Lib.hid T3; have T4 := Lib.hid T4; have T5 := Lib.hid T5; have T6 := Lib.hid T6; have T7 := Lib.hid T7
  have W0 : Ws w ((w.alloc (eoC a i q s)).alloc wrz) (eoC a i q s) 0 [] := by
    refine ⟨lies_alloc (heap_alloc_new w _) _, wr_new ?_, ((Below.refl _ w).alloc (Nat.le_refl _) _).alloc (by simp) _⟩
    have := heap_alloc_new (w.alloc (eoC a i q s)) wrz
    simpa using this
  have W0 := Lib.hid W0
  clear e1 e2 e3 e4 e5 e6 l1 l2 l3 l4 l5 l6 hi' hq hs
  obtain ⟨ii, Hi⟩ : ∃ ii : Int, Hid (ii = i) := ⟨_, rfl⟩
  obtain ⟨qq, Hq⟩ : ∃ qq : Int, Hid (qq = q) := ⟨_, rfl⟩
  rw [← Hi.out] at W0 TK T4 ⊢
  rw [← Hq.out] at W0 TK T5 ⊢
  go_enter Try.func10, Try.ntmps10
  go_upto_region 2 with fail
  generalize (w.alloc (eoC a ii qq s)).alloc wrz = X at W0 ⊢
  obtain ⟨c0, c1, c2, c3⟩ := cells4 W0.out.le
  go_wp2_with (first
    | (go_at_call 15; (with_reducible refine (TK.out _).mono ?_); rintro r w0 ⟨rfl, hb0⟩
       (have WK := Lib.hid (W0.out.below hb0)); clear hb0)
    | (go_at_call 14; (with_reducible refine (T1.out _ WK.out.lw).mono ?_); rintro r w1 ⟨rfl, h1, g1⟩
       (have W1 := Lib.hid (WK.out.step h1 g1)); clear h1 g1 T1)
    | (go_at_call 14; (with_reducible refine (T2.out _ W1.out.lw).mono ?_); rintro r w2 ⟨rfl, h2, g2⟩
       (have W2 := Lib.hid (W1.out.step h2 g2)); clear h2 g2 T2)
    | (go_at_call 16; (with_reducible refine (T3.out _ W2.out.lw).mono ?_); rintro r w3 ⟨rfl, h3, g3⟩
       (have W3 := Lib.hid (W2.out.step h3 g3))
       (obtain ⟨d0, d1, d2, d3⟩ := cells4 W3.out.le)
       clear h3 g3 T3)
    | (go_at_call 16; (with_reducible refine (T4.out _ W3.out.lw).mono ?_); rintro r w4 ⟨rfl, h4, g4⟩
       (have W4 := Lib.hid (W3.out.step h4 g4))
       (obtain ⟨f0, f1, f2, f3⟩ := cells4 W4.out.le)
       clear h4 g4 T4)
    | (go_at_call 16; (with_reducible refine (T5.out _ W4.out.lw).mono ?_); rintro r w5 ⟨rfl, h5, g5⟩
       (have W5 := Lib.hid (W4.out.step h5 g5))
       (obtain ⟨p0, p1, p2, p3⟩ := cells4 W5.out.le)
       clear h5 g5 T5)
    | (go_at_call 17; (with_reducible refine (T6.out _ W5.out.lw).mono ?_); rintro r w6 ⟨rfl, h6, g6⟩
       (have W6 := Lib.hid (W5.out.step h6 g6)); clear h6 g6 T6)
    | (go_at_call 18; (with_reducible refine (T7.out _ W6.out.lw).mono ?_); rintro r w7 ⟨rfl, hb7⟩))
  go_returns
  exact ⟨rfl, W6.out.lb.trans (hb7.mono W6.out.lb.size)⟩

set_option maxRecDepth 100000 in
set_option maxHeartbeats 2000000 in
theorem sumOf_any (a : Bool) (i q : Nat) (s : ByteArray) (hi' : i < 65536) (hq : q < 65536) (hd : s.size ≤ 9000) (w : World) :
    Calls Try.prog 9 #[eo a i q s] w fun e w' => e = .returned (.tuple #[.int .i64 (PitotIcmp.sumOf a i q s.data.toList : Nat), .int .i64 0]) ∧ Below w.heap.size w w' := by
  have zR : (outS a i q 0 s).size = 8 + s.size := outS_size ..
  have lR : (outS a i q 0 s).data.toList = (ec a i q 0).list ++ s.data.toList := outS_list ..
  have T1 := write_any a i q 0 s hi' hq (by omega) hd
  rw [show ((0 : Nat) : Int) = 0 from rfl] at T1
  have T2 : ∀ w, Calls Try.prog 13 #[.string (outS a i q 0 s)] w fun e w' => e = .returned (.int .i64 (PitotIcmp.sumOf a i q s.data.toList : Nat)) ∧ w = w' := fun w => by
    have := Bi.ones_any (outS a i q 0 s) w (by omega)
    rw [lR, ec_zero] at this
    exact this
  generalize outS a i q 0 s = R at T1 T2
  generalize PitotIcmp.sumOf a i q s.data.toList = S at T2 ⊢
  clear zR lR hi' hq
  have T1 := Lib.hid T1; have T2 := Lib.hid T2
  generalize (i : Int) = ii at T1 ⊢
  generalize (q : Int) = qq at T1 ⊢
  have k0 : Hid (Below w.heap.size w (w.alloc (eoC a ii qq s))) := (Below.refl _ w).alloc (Nat.le_refl _) _
  go_enter Try.func9, Try.ntmps9
  go_wp2_with (first
    | (go_at_call 10; (with_reducible refine (T1.out _).mono ?_); rintro r w1 ⟨rfl, hb1⟩)
    | (go_at_call 13; (with_reducible refine (T2.out _).mono ?_); rintro r w2 ⟨rfl, rfl⟩))
  go_returns
  exact ⟨rfl, k0.out.trans (hb1.mono k0.out.size)⟩
end Go.Proofs.Ytcljlaiafgbfkaa
