/- Contracts of write, sumOf, carried: a datagram's bytes, its sum, what it keeps of its ends. -/
import Derived.Test.YtpecmpepnfgnoaaBa
namespace Go.Proofs.Ytpecmpepnfgnoaa
open Go.RowKit Go.Proofs.PitotIp Go.Proofs.PitotUdp
open Go.Proofs.PitotAddr (hi lo)
open Go.Proofs.Ytpecmpepnfgnoaa.Bi (WrAt lies_lt lies_cell lies_frozen lies_alloc)

/-- What write holds: the ends, the Writer. -/
structure Ww (w X : World) (E : Obj) (b n : Nat) (K : List UInt8) : Prop where
  le : X.heap[w.heap.size]? = some E
  lw : WrAt X b n (some K)
  lg : w.grownBy X (some b)
theorem Ww.step {w X Y : World} {cs : Array Value} {t : TypeId} {b n n' : Nat} {K K' : List UInt8} (q : Ww w X (.cells cs t) b n K) (hb : b < w.heap.size) (hw : WrAt Y b n' (some K')) (hg : X.grownBy Y (some b)) : Ww w Y (.cells cs t) b n' K' :=
  ⟨lies_grown q.le hg (by omega), hw, Bi.grown_trans q.lg hg⟩

set_option maxRecDepth 100000 in
set_option maxHeartbeats 2000000 in
theorem write_any (a b : Q4) (f t sum : Nat) (s : ByteArray) (hf : f < 65536) (ht : t < 65536) (hs : sum < 65536) (hd : s.size ≤ 9000) (g n : Nat) (K K' : List UInt8) (hK : K.length ≤ 1000)
    (hK' : K' = K ++ (dg (8 + s.size) f t sum).list ++ s.data.toList) (w : World) (h : WrAt w g n (some K)) (hg : g < w.heap.size) :
    Calls Try.prog 18 #[.pointer (some ⟨g, 0, none⟩), en a b f t, .int .i64 sum, .string s] w fun e w' => e = .returned (.tuple #[]) ∧ WrAt w' g (n + 5) (some K') ∧ w.grownBy w' (some g) := by
  obtain ⟨K1, e1⟩ : ∃ K1, K1 = K ++ [hi f, lo f] := ⟨_, rfl⟩
  obtain ⟨K2, e2⟩ : ∃ K2, K2 = K1 ++ [hi t, lo t] := ⟨_, rfl⟩
  obtain ⟨K3, e3⟩ : ∃ K3, K3 = K2 ++ [hi (8 + s.size), lo (8 + s.size)] := ⟨_, rfl⟩
  obtain ⟨K4, e4⟩ : ∃ K4, K4 = K3 ++ [hi sum, lo sum] := ⟨_, rfl⟩
  have l1 : K1.length ≤ 1002 := by rw [e1, List.length_append]; simp; omega
  have l2 : K2.length ≤ 1004 := by rw [e2, List.length_append]; simp; omega
  have l3 : K3.length ≤ 1006 := by rw [e3, List.length_append]; simp; omega
  have l4 : K4.length ≤ 1008 := by rw [e4, List.length_append]; simp; omega
  have e5 : K' = K4 ++ s.data.toList := by rw [hK', e4, e3, e2, e1]; simp [dg, D8.list, D8.front]
  have T1 := u16_step K K1 f hf e1 (by omega) g n
  have T2 := u16_step K1 K2 t ht e2 (by omega) g (n + 1)
  have T3 := u16_step K2 K3 (8 + s.size) (by omega) e3 (by omega) g (n + 1 + 1)
  rw [show ((8 + s.size : Nat) : Int) = 8 + (s.size : Int) by omega] at T3
  have T4 := u16_step K3 K4 sum hs e4 (by omega) g (n + 1 + 1 + 1)
  have T5 := text_step K4 K' s e5 (by omega) (by omega) g (n + 1 + 1 + 1 + 1)
  have T1 := Lib.hid T1; have T2 := Lib.hid T2; have T3 := Lib.hid T3; have T4 := Lib.hid T4; have T5 := Lib.hid T5
  have W0 : Ww w (w.alloc (enC a b f t)) (enC a b f t) g n K := ⟨heap_alloc_new w _, h.below ((Below.refl _ w).alloc (Nat.le_refl _) _), Bi.grown_alloc _⟩
  have W0 := Lib.hid W0
  clear e1 e2 e3 e4 e5 hK' hK l1 l2 l3 l4 h hf ht hs
  go_enter Try.func18, Try.ntmps18
  go_upto_region 1 with fail
  generalize w.alloc (enC a b f t) = X at W0 ⊢
  have c8 : X.cell? ⟨w.heap.size, 8, none⟩ = some (.int .i64 f) := lies_cell W0.out.le 8
  go_wp2_with (first
    | (go_at_call 29; (with_reducible refine (T1.out _ W0.out.lw).mono ?_); rintro r w1 ⟨rfl, h1, g1⟩
       (have W1 := Lib.hid (W0.out.step hg h1 g1))
       (have c9 : w1.cell? ⟨w.heap.size, 9, none⟩ = some (.int .i64 t) := lies_cell W1.out.le 9)
       (clear h1 g1 T1))
    | (go_at_call 29; (with_reducible refine (T2.out _ W1.out.lw).mono ?_); rintro r w2 ⟨rfl, h2, g2⟩
       (have W2 := Lib.hid (W1.out.step hg h2 g2)); clear h2 g2 T2)
    | (go_at_call 29; (with_reducible refine (T3.out _ W2.out.lw).mono ?_); rintro r w3 ⟨rfl, h3, g3⟩
       (have W3 := Lib.hid (W2.out.step hg h3 g3)); clear h3 g3 T3)
    | (go_at_call 29; (with_reducible refine (T4.out _ W3.out.lw).mono ?_); rintro r w4 ⟨rfl, h4, g4⟩
       (have W4 := Lib.hid (W3.out.step hg h4 g4)); clear h4 g4 T4)
    | (go_at_call 28; (with_reducible refine (T5.out _ W4.out.lw).mono ?_); rintro r w5 ⟨rfl, h5, g5⟩
       (have W5 := Lib.hid (W4.out.step hg h5 g5)); clear h5 g5 T5))
  go_returns
  exact ⟨rfl, W5.out.lw, W5.out.lg⟩

/-- What sumOf holds: the ends, its Writer. -/
structure Ws (w X : World) (E : Obj) (n : Nat) (K : List UInt8) : Prop where
  le : X.heap[w.heap.size]? = some E
  lw : WrAt X (w.heap.size + 1) n (some K)
  lb : Below w.heap.size w X
theorem Ws.step {w X Y : World} {cs : Array Value} {t : TypeId} {n n' : Nat} {K K' : List UInt8} (q : Ws w X (.cells cs t) n K) (hw : WrAt Y (w.heap.size + 1) n' (some K')) (hg : X.grownBy Y (some (w.heap.size + 1))) : Ws w Y (.cells cs t) n' K' :=
  ⟨lies_grown q.le hg (by omega), hw, q.lb.grown hg q.lb.size (fun k e => by cases e; omega)⟩
theorem wr_lt {X : World} {b n : Nat} {K : List UInt8} (h : WrAt X b n (some K)) : b < X.heap.size := by
  obtain ⟨p, l, ts, h1, _⟩ := h
  exact lies_lt h1

set_option maxRecDepth 100000 in
set_option maxHeartbeats 2000000 in
theorem sumOf_any (a b : Q4) (f t : Nat) (s : ByteArray) (hf : f < 65536) (ht : t < 65536) (hd : s.size ≤ 9000) (w : World) :
    Calls Try.prog 17 #[en a b f t, .string s] w fun e w' => e = .returned (.tuple #[.int .i64 (PitotUdp.sumOf a b ((dg (8 + s.size) f t 0).list ++ s.data.toList) : Nat), .int .i64 0]) ∧ Below w.heap.size w w' := by
  obtain ⟨K1, e1⟩ : ∃ K1, K1 = ([] : List UInt8) ++ [a.a, a.b, a.c, a.d] := ⟨_, rfl⟩
  obtain ⟨K2, e2⟩ : ∃ K2, K2 = K1 ++ [b.a, b.b, b.c, b.d] := ⟨_, rfl⟩
  obtain ⟨K3, e3⟩ : ∃ K3, K3 = K2 ++ [hi 17, lo 17] := ⟨_, rfl⟩
  obtain ⟨K4, e4⟩ : ∃ K4, K4 = K3 ++ [hi (8 + s.size), lo (8 + s.size)] := ⟨_, rfl⟩
  obtain ⟨K5, e5⟩ : ∃ K5, K5 = K4 ++ (dg (8 + s.size) f t 0).list ++ s.data.toList := ⟨_, rfl⟩
  have l1 : K1.length = 4 := by rw [e1]; rfl
  have l2 : K2.length = 8 := by rw [e2, List.length_append, l1]; rfl
  have l3 : K3.length = 10 := by rw [e3, List.length_append, l2]; rfl
  have l4 : K4.length = 12 := by rw [e4, List.length_append, l3]; rfl
  have l5 : K5.length = 20 + s.size := by rw [e5, List.length_append, List.length_append, l4, D8.list_length, ← size_toList]
  obtain ⟨M, eM⟩ : ∃ M, M = (dg (8 + s.size) f t 0).list ++ s.data.toList := ⟨_, rfl⟩
  have lM : M.length = 8 + s.size := by rw [eM, List.length_append, D8.list_length, ← size_toList]
  have hsum : PitotUdp.sumOf a b M = fixS (PitotMath.ones K5) := by
    unfold PitotUdp.sumOf
    rw [lM, eM, e5, e4, e3, e2, e1]
    have : [hi 17, lo 17] = [(0 : UInt8), 17] := by decide
    rw [this]
    simp [PitotUdp.ahead, Q4.bytes]
  rw [← eM, hsum]
  clear hsum lM eM M
  obtain ⟨B5, HB5⟩ : ∃ B : ByteArray, Hid (B = ⟨K5.toArray⟩) := ⟨_, rfl⟩
  have z5 : B5.size = 20 + s.size := by rw [HB5.out]; show K5.toArray.size = _; simp [l5]
  obtain ⟨o, Ho⟩ : ∃ o, Hid (o = PitotMath.ones K5) := ⟨_, rfl⟩
  have TO : ∀ w, Calls Try.prog 30 #[.string B5] w fun e w' => e = .returned (.int .i64 o) ∧ w = w' := fun w => by
    have := Bi.ones_any B5 w (by omega)
    rw [show PitotMath.ones B5.data.toList = o by rw [HB5.out, Ho.out]] at this
    exact this
  rw [← Ho.out]
  obtain ⟨SB, HSB⟩ : ∃ B : ByteArray, Hid (B = ⟨#[a.a, a.b, a.c, a.d]⟩) := ⟨_, rfl⟩
  obtain ⟨DB, HDB⟩ : ∃ B : ByteArray, Hid (B = ⟨#[b.a, b.b, b.c, b.d]⟩) := ⟨_, rfl⟩
  have T1 := text_step [] K1 SB (by rw [e1, HSB.out]) (by simp) (by rw [HSB.out]; show (4 : Nat) ≤ _; omega) (w.heap.size + 1) 0
  have T2 := text_step K1 K2 DB (by rw [e2, HDB.out]) (by omega) (by rw [HDB.out]; show (4 : Nat) ≤ _; omega) (w.heap.size + 1) (0 + 1)
  have T3 := u16_step K2 K3 17 (by omega) e3 (by omega) (w.heap.size + 1) (0 + 1 + 1)
  have T4 := u16_step K3 K4 (8 + s.size) (by omega) e4 (by omega) (w.heap.size + 1) (0 + 1 + 1 + 1)
  rw [show ((8 + s.size : Nat) : Int) = 8 + (s.size : Int) by omega] at T4
  rw [show ((17 : Nat) : Int) = 17 from rfl] at T3
  have T5 := write_any a b f t 0 s hf ht (by omega) hd (w.heap.size + 1) (0 + 1 + 1 + 1 + 1) K4 K5 (by omega) e5
  rw [show ((0 : Nat) : Int) = 0 from rfl] at T5
  have T6 := fun w h => Bi.bytes_any (w.heap.size + 1) (0 + 1 + 1 + 1 + 1 + 5) K5 w h (by omega) (by omega)
  have T6 : ∀ X, WrAt X (w.heap.size + 1) (0 + 1 + 1 + 1 + 1 + 5) (some K5) → Calls Try.prog 19 #[.pointer (some ⟨w.heap.size + 1, 0, none⟩)] X fun e w' => e = .returned (.tuple #[.string B5, .int .i64 0]) ∧ Below X.heap.size X w' := fun X h => by
    rw [HB5.out]; exact Bi.bytes_any _ _ K5 X h (by omega) (by omega)
  have T1 := Lib.hid T1; have T2 := Lib.hid T2; have T3 := Lib.hid T3; have T4 := Lib.hid T4; have T5 := Lib.hid T5; have T6 := Lib.hid T6; have TO := Lib.hid TO
  have W0 : Ws w ((w.alloc (enC a b f t)).alloc (.cells #[.pointer none, .string ⟨#[]⟩, .bool false] 53)) (enC a b f t) 0 [] := by
    refine ⟨lies_alloc (heap_alloc_new w _) _, wr_new ?_, ((Below.refl _ w).alloc (Nat.le_refl _) _).alloc (by simp) _⟩
    have := heap_alloc_new (w.alloc (enC a b f t)) (.cells #[.pointer none, .string ⟨#[]⟩, .bool false] 53)
    simpa using this
  have W0 := Lib.hid W0
  have hcv := fun (X : World) (L : X.heap[w.heap.size]? = some (enC a b f t)) => conv_four X w.heap.size 0 a (lies_cell L 0) (lies_cell L 1) (lies_cell L 2) (lies_cell L 3)
  rw [← HSB.out] at hcv
  have hcw := fun (X : World) (L : X.heap[w.heap.size]? = some (enC a b f t)) => conv_four X w.heap.size 4 b (lies_cell L 4) (lies_cell L 5) (lies_cell L 6) (lies_cell L 7)
  rw [← HDB.out] at hcw
  have hcv := Lib.hid hcv; have hcw := Lib.hid hcw
  clear e1 e2 e3 e4 e5 l1 l2 l3 l4 l5 hf ht
  go_enter Try.func17, Try.ntmps17
  go_upto_region 2 with fail
  generalize (w.alloc (enC a b f t)).alloc (.cells #[.pointer none, .string ⟨#[]⟩, .bool false] 53) = X at W0 ⊢
  have cv := hcv.out X W0.out.le
  have hfix : fixS o = if o = 0 then 65535 else o := rfl
  have HF := Lib.hid hfix; clear hfix
  by_cases ho : o = 0
  · subst ho
    go_wp2_with (first
      | (go_at_call 28; (with_reducible refine (T1.out _ W0.out.lw).mono ?_); rintro r w1 ⟨rfl, h1, g1⟩
         (have W1 := Lib.hid (W0.out.step h1 g1))
         (have cw := hcw.out w1 W1.out.le)
         (clear h1 g1 T1))
      | (go_at_call 28; (with_reducible refine (T2.out _ W1.out.lw).mono ?_); rintro r w2 ⟨rfl, h2, g2⟩
         (have W2 := Lib.hid (W1.out.step h2 g2)); clear h2 g2 T2)
      | (go_at_call 29; (with_reducible refine (T3.out _ W2.out.lw).mono ?_); rintro r w3 ⟨rfl, h3, g3⟩
         (have W3 := Lib.hid (W2.out.step h3 g3)); clear h3 g3 T3)
      | (go_at_call 29; (with_reducible refine (T4.out _ W3.out.lw).mono ?_); rintro r w4 ⟨rfl, h4, g4⟩
         (have W4 := Lib.hid (W3.out.step h4 g4))
         (obtain ⟨c0, c1, c2, c3, c4, c5, c6, c7, c8, c9⟩ := cells10 W4.out.le)
         clear h4 g4 T4)
      | (go_at_call 18; (with_reducible refine (T5.out _ W4.out.lw (wr_lt W4.out.lw)).mono ?_); rintro r w5 ⟨rfl, h5, g5⟩
         (have W5 := Lib.hid (W4.out.step h5 g5)); clear h5 g5 T5)
      | (go_at_call 19; (with_reducible refine (T6.out _ W5.out.lw).mono ?_); rintro r w6 ⟨rfl, hb6⟩)
      | (go_at_call 30; (with_reducible refine (TO.out _).mono ?_); rintro r w7 ⟨rfl, rfl⟩))
    go_returns
    exact ⟨by rw [HF.out]; rfl, W5.out.lb.trans (hb6.mono W5.out.lb.size)⟩
  · have ho' : ((o : Int) != 0) = true := by simp; exact ho
    go_wp2_with (first
      | (go_at_call 28; (with_reducible refine (T1.out _ W0.out.lw).mono ?_); rintro r w1 ⟨rfl, h1, g1⟩
         (have W1 := Lib.hid (W0.out.step h1 g1))
         (have cw := hcw.out w1 W1.out.le)
         (clear h1 g1 T1))
      | (go_at_call 28; (with_reducible refine (T2.out _ W1.out.lw).mono ?_); rintro r w2 ⟨rfl, h2, g2⟩
         (have W2 := Lib.hid (W1.out.step h2 g2)); clear h2 g2 T2)
      | (go_at_call 29; (with_reducible refine (T3.out _ W2.out.lw).mono ?_); rintro r w3 ⟨rfl, h3, g3⟩
         (have W3 := Lib.hid (W2.out.step h3 g3)); clear h3 g3 T3)
      | (go_at_call 29; (with_reducible refine (T4.out _ W3.out.lw).mono ?_); rintro r w4 ⟨rfl, h4, g4⟩
         (have W4 := Lib.hid (W3.out.step h4 g4))
         (obtain ⟨c0, c1, c2, c3, c4, c5, c6, c7, c8, c9⟩ := cells10 W4.out.le)
         clear h4 g4 T4)
      | (go_at_call 18; (with_reducible refine (T5.out _ W4.out.lw (wr_lt W4.out.lw)).mono ?_); rintro r w5 ⟨rfl, h5, g5⟩
         (have W5 := Lib.hid (W4.out.step h5 g5)); clear h5 g5 T5)
      | (go_at_call 19; (with_reducible refine (T6.out _ W5.out.lw).mono ?_); rintro r w6 ⟨rfl, hb6⟩)
      | (go_at_call 30; (with_reducible refine (TO.out _).mono ?_); rintro r w7 ⟨rfl, rfl⟩))
    go_returns
    exact ⟨by rw [HF.out, if_neg ho]; rfl, W5.out.lb.trans (hb6.mono W5.out.lb.size)⟩

set_option maxRecDepth 100000 in
set_option maxHeartbeats 2000000 in
theorem carried_any (a b : Q4) (f t : Int) (w : World) : Calls Try.prog 16 #[en a b f t] w fun e w' => e = .returned (en a b (f % 65536) (t % 65536)) ∧ Below w.heap.size w w' := by
  have hw : ∀ x : Int, IntKind.i64.wrap (IntKind.u16.wrap x) = x % 65536 := fun x => by
    have e1 : IntKind.u16.wrap x = x % 65536 := by simp [IntKind.wrap, IntKind.bits, IntKind.signed]
    rw [e1, IntWalk.i64_in _ (by omega)]
  have k0 : Hid (Below w.heap.size w ((w.alloc (enC a b f t)).alloc (enC a b (f % 65536) (t % 65536)))) := ((Below.refl _ w).alloc (Nat.le_refl _) _).alloc (by simp) _
  go_enter Try.func16, Try.ntmps16
  go_wp2
  go_returns
  exact ⟨rfl, k0.out⟩
end Go.Proofs.Ytpecmpepnfgnoaa
