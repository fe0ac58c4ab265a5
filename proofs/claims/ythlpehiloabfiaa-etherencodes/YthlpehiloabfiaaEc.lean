/- Contracts of Encode: a frame's bytes. -/
import Derived.Test.YthlpehiloabfiaaFi
import Derived.Test.YthlpehiloabfiaaAdOf
import Derived.Test.YthlpehiloabfiaaCrOp
import Derived.Test.YthlpehiloabfiaaBiWy
namespace Go.Proofs.Ythlpehiloabfiaa
open Go.RowKit Go.Proofs.PitotAddr Go.Proofs.PitotEther
open Go.Proofs.Ythlpehiloabfiaa.Ad (link_bad link_ok source_bad source_ok lies_lt lies_cell lies_frozen lies_alloc lies_below six forall_and6)
open Go.Proofs.Ythlpehiloabfiaa.Bi (WrAt text_any u16_any u8_any bytes_any putStep)

/-- A frame, as it is handed on. -/
abbrev fr (v n p q : Int) (s : ByteArray) : Value := .agg #[.int .i64 v, .int .i64 n, .int .i64 p, .int .i64 q, .string s]

section
variable {w w' : World} {g : Nat} {t : TypeId}
theorem five {x0 x1 x2 x3 x4 : Value} (h : w.heap[g]? = some (.cells #[x0, x1, x2, x3, x4] t)) :
    (w.cell? ⟨g, 0, none⟩ = some x0) ∧ (w.cell? ⟨g, 1, none⟩ = some x1) ∧ (w.cell? ⟨g, 2, none⟩ = some x2) ∧ (w.cell? ⟨g, 3, none⟩ = some x3) ∧ (w.cell? ⟨g, 4, none⟩ = some x4) :=
  ⟨lies_cell h 0, lies_cell h 1, lies_cell h 2, lies_cell h 3, lies_cell h 4⟩
theorem lies_grown {cs : Array Value} {b : Nat} (h : w.heap[g]? = some (.cells cs t)) (hg : w.grownBy w' (some b)) (hne : g ≠ b) : w'.heap[g]? = some (.cells cs t) :=
  (hg.block g (lies_lt h) (by simpa using hne)).trans h
end
theorem forall_and5 {α : Type} {p0 p1 p2 p3 p4 : α → Prop} (h : ∀ o, p0 o ∧ p1 o ∧ p2 o ∧ p3 o ∧ p4 o) : (∀ o, p0 o) ∧ (∀ o, p1 o) ∧ (∀ o, p2 o) ∧ (∀ o, p3 o) ∧ (∀ o, p4 o) :=
  ⟨fun o => (h o).1, fun o => (h o).2.1, fun o => (h o).2.2.1, fun o => (h o).2.2.2.1, fun o => (h o).2.2.2.2⟩

set_option maxRecDepth 100000 in
set_option maxHeartbeats 1000000 in
theorem encode_vl (v n p q : Int) (s : ByteArray) (w : World) (hv : ¬ (1 ≤ v ∧ v ≤ 65535)) :
    Calls Try.prog 10 #[fr v n p q s] w fun e w' => e = .returned (.tuple #[.string ⟨#[]⟩, .int .i64 1]) ∧ Below w.heap.size w w' := by
  have HL := Lib.hid (fun w => link_bad v w hv); clear hv
  go_enter Try.func10, Try.ntmps10
  go_wp2_with (go_at_call 18; (with_reducible refine (HL.out _).mono ?_); rintro e w1 ⟨rfl, hb1⟩)
  go_returns
  have hb : Below w.heap.size w w1 := ((Below.refl _ w).alloc (Nat.le_refl _) _).trans (hb1.mono (by simp))
  exact ⟨rfl, hb.alloc hb.size _⟩

set_option maxRecDepth 100000 in
set_option maxHeartbeats 1000000 in
theorem encode_src (v : Nat) (n p q : Int) (s : ByteArray) (w : World) (h1 : 1 ≤ v) (h2 : v ≤ 65535) (hn : ¬ (0 ≤ n ∧ n ≤ 4095 ∧ 0 ≤ p ∧ p ≤ 1)) :
    Calls Try.prog 10 #[fr v n p q s] w fun e w' => e = .returned (.tuple #[.string ⟨#[]⟩, .int .i64 1]) ∧ Below w.heap.size w w' := by
  have HL := Lib.hid (fun w => link_ok v w h1 h2); clear h1 h2
  have HS := Lib.hid (fun w => source_bad n p w hn); clear hn
  go_enter Try.func10, Try.ntmps10
  go_wp2_with (first
    | (go_at_call 18; (with_reducible refine (HL.out _).mono ?_); rintro e w1 ⟨rfl, hb1⟩
       (have F1 := fun o => five (lies_alloc (lies_below (heap_alloc_new w (.cells #[.int .i64 v, .int .i64 n, .int .i64 p, .int .i64 q, .string s] 23)) hb1 (by simp)) o))
       (obtain ⟨a0, a1, a2, a3, a4⟩ := forall_and5 F1))
    | (go_at_call 19; (with_reducible refine (HS.out _).mono ?_); rintro e w2 ⟨rfl, hb2⟩))
  go_returns
  have hb : Below w.heap.size w w1 := ((Below.refl _ w).alloc (Nat.le_refl _) _).trans (hb1.mono (by simp))
  have hb' := (hb.alloc hb.size (.cells #[.int .u8 3, .int .u8 0, .int .u8 0, .int .u8 0, .int .u8 (hi v).toNat, .int .u8 (lo v).toNat] 39)).trans (hb2.mono (by have := hb.size; simp; omega))
  exact ⟨rfl, hb'.alloc hb'.size _⟩

/-- The frame in memory, and the addresses. -/
abbrev frC (v n p q : Int) (s : ByteArray) : Obj := .cells #[.int .i64 v, .int .i64 n, .int .i64 p, .int .i64 q, .string s] 23
abbrev lkC (v : Nat) : Obj := .cells #[.int .u8 3, .int .u8 0, .int .u8 0, .int .u8 0, .int .u8 (hi v).toNat, .int .u8 (lo v).toNat] 39
abbrev srC (n p : Nat) : Obj := .cells #[.int .u8 2, .int .u8 0, .int .u8 0, .int .u8 (hi n).toNat, .int .u8 (lo n).toNat, .int .u8 (lo (32 * (p + 1))).toNat] 39

set_option maxRecDepth 100000 in
set_option maxHeartbeats 1000000 in
theorem encode_seq (v n p : Nat) (q : Int) (s : ByteArray) (w : World) (h1 : 1 ≤ v) (h2 : v ≤ 65535) (h3 : n ≤ 4095) (h4 : p ≤ 1) (hq : q < 0 ∨ 255 < q) :
    Calls Try.prog 10 #[fr v n p q s] w fun e w' => e = .returned (.tuple #[.string ⟨#[]⟩, .int .i64 1]) ∧ Below w.heap.size w w' := by
  have HL := Lib.hid (fun w => link_ok v w h1 h2); clear h1 h2
  have HS := Lib.hid (fun w => source_ok n p w h3 h4); clear h3 h4
  by_cases hq0 : q < 0
  all_goals
    go_enter Try.func10, Try.ntmps10
    go_wp2_with (first
      | (go_at_call 18; (with_reducible refine (HL.out _).mono ?_); rintro e w1 ⟨rfl, hb1⟩
         (have F1 := fun o => (lies_alloc (lies_below (heap_alloc_new w (frC v n p q s)) hb1 (by simp)) o))
         (obtain ⟨a0, a1, a2, a3, a4⟩ := forall_and5 fun o => five (F1 o))
         (have F1 := Lib.hid F1))
      | (go_at_call 19; (with_reducible refine (HS.out _).mono ?_); rintro e w2 ⟨rfl, hb2⟩
         (have F2 := fun o => five (lies_alloc (lies_below (F1.out (lkC v)) hb2 (lies_lt (F1.out _))) o))
         (obtain ⟨c0, c1, c2, c3, c4⟩ := forall_and5 F2)))
    go_returns
    have hb : Below w.heap.size w w1 := ((Below.refl _ w).alloc (Nat.le_refl _) _).trans (hb1.mono (by simp))
    have hb' := (hb.alloc hb.size (lkC v)).trans (hb2.mono (by have := hb.size; simp; omega))
    exact ⟨rfl, hb'.alloc hb'.size _⟩

set_option maxRecDepth 100000 in
set_option maxHeartbeats 1000000 in
theorem encode_long (v n p q : Nat) (s : ByteArray) (w : World) (h1 : 1 ≤ v) (h2 : v ≤ 65535) (h3 : n ≤ 4095) (h4 : p ≤ 1) (hq : q ≤ 255) (hs : 1499 < s.size) (hm : s.size ≤ 9223372036854775807) :
    Calls Try.prog 10 #[fr v n p q s] w fun e w' => e = .returned (.tuple #[.string ⟨#[]⟩, .int .i64 11]) ∧ Below w.heap.size w w' := by
  have HL := Lib.hid (fun w => link_ok v w h1 h2); clear h1 h2
  have HS := Lib.hid (fun w => source_ok n p w h3 h4); clear h3 h4
  go_enter Try.func10, Try.ntmps10
  go_wp2_with (first
    | (go_at_call 18; (with_reducible refine (HL.out _).mono ?_); rintro e w1 ⟨rfl, hb1⟩
       (have F1 := fun o => (lies_alloc (lies_below (heap_alloc_new w (frC v n p q s)) hb1 (by simp)) o))
       (obtain ⟨a0, a1, a2, a3, a4⟩ := forall_and5 fun o => five (F1 o))
       (have F1 := Lib.hid F1))
    | (go_at_call 19; (with_reducible refine (HS.out _).mono ?_); rintro e w2 ⟨rfl, hb2⟩
       (have F2 := fun o => five (lies_alloc (lies_below (F1.out (lkC v)) hb2 (lies_lt (F1.out _))) o))
       (obtain ⟨c0, c1, c2, c3, c4⟩ := forall_and5 F2)))
  go_returns
  have hb : Below w.heap.size w w1 := ((Below.refl _ w).alloc (Nat.le_refl _) _).trans (hb1.mono (by simp))
  have hb' := (hb.alloc hb.size (lkC v)).trans (hb2.mono (by have := hb.size; simp; omega))
  exact ⟨rfl, hb'.alloc hb'.size _⟩

/-- Text, U16, U8 at a Writer of which it is known what was written. -/
theorem text_step (K K' : List UInt8) (s : ByteArray) (hK : K' = K ++ s.data.toList) (h1 : K.length ≤ 900000) (h2 : s.size ≤ 1000000) (b n : Nat) (w : World) (h : WrAt w b n (some K)) :
    Calls Try.prog 20 #[.pointer (some ⟨b, 0, none⟩), .string s] w fun e w' => e = .returned (.tuple #[]) ∧ WrAt w' b (n + 1) (some K') ∧ w.grownBy w' (some b) := by
  refine (text_any b n (some K) s w h (fun l e => by cases e; omega) h2).mono fun e w' ⟨he, hw, hg⟩ => ⟨he, ?_, hg⟩
  rw [hK]; exact hw
theorem u16_step (K K' : List UInt8) (hK : K' = K ++ [8, 0]) (h1 : K.length ≤ 900000) (b n : Nat) (w : World) (h : WrAt w b n (some K)) :
    Calls Try.prog 21 #[.pointer (some ⟨b, 0, none⟩), .int .i64 2048] w fun e w' => e = .returned (.tuple #[]) ∧ WrAt w' b (n + 1) (some K') ∧ w.grownBy w' (some b) := by
  refine (u16_any b n (some K) 2048 w h (fun l e => by cases e; omega)).mono fun e w' ⟨he, hw, hg⟩ => ⟨he, ?_, hg⟩
  rw [hK]; exact hw
set_option maxRecDepth 100000 in
theorem u8_step (K K' : List UInt8) (q : Nat) (hq : q ≤ 255) (hK : K' = K ++ [lo q]) (h1 : K.length ≤ 900000) (b n : Nat) (w : World) (h : WrAt w b n (some K)) :
    Calls Try.prog 23 #[.pointer (some ⟨b, 0, none⟩), .int .i64 q] w fun e w' => e = .returned (.tuple #[]) ∧ WrAt w' b (n + 1) (some K') ∧ w.grownBy w' (some b) := by
  refine (u8_any b n (some K) q w h (fun l e => by cases e; omega)).mono fun e w' ⟨he, hw, hg⟩ => ⟨he, ?_, hg⟩
  have e1 : putStep (some K) 1 (q : Int) = some K' := by
    have hf : Bi.fitsB (q : Int) (8 * ((1 : Nat) : Int)) = true := by
      unfold Bi.fitsB
      exact decide_eq_true ⟨by omega, by show (q : Int) < 2 ^ 8; omega⟩
    unfold putStep
    rw [if_pos hf, hK]
    simp [PitotMath.be, lo]
  rw [e1] at hw; exact hw
theorem seal_step (K R : List UInt8) (hR : R = PitotCrc.sealed K) (hK : K.length ≤ 100000) (w : World) :
    Calls Try.prog 25 #[.string ⟨K.toArray⟩] w fun e w' => e = .returned (.string ⟨R.toArray⟩) ∧ Below w.heap.size w w' := by
  refine (Cr.seal_any ⟨K.toArray⟩ w (by show K.toArray.size ≤ _; simpa using hK)).mono fun e w' ⟨he, hb⟩ => ⟨?_, hb⟩
  have : Cr.sealB ⟨K.toArray⟩ = ⟨R.toArray⟩ := by
    apply ByteArray.ext
    rw [← Array.toList_inj, Cr.sealB_list, hR]
  rw [he, this]

/-- Six bytes of memory as a string. -/
theorem conv_six (X : World) (g : Nat) (x0 x1 x2 x3 x4 x5 : UInt8) (h : X.heap[g]? = some (.cells #[.int .u8 x0.toNat, .int .u8 x1.toNat, .int .u8 x2.toNat, .int .u8 x3.toNat, .int .u8 x4.toNat, .int .u8 x5.toNat] 39)) :
    (convert 36 9 (.slice (some ⟨g, 0, none⟩) 6 6)).run Try.prog X = .ok (.string ⟨#[x0, x1, x2, x3, x4, x5]⟩) X := by
  refine run_convert_bytes_back (P := Try.prog) X 36 9 5 ⟨g, 0, none⟩ 6 [x0, x1, x2, x3, x4, x5] Try.underlying36 Try.underlying5 Try.underlying9 (fun j hj => ?_)
  have e : (⟨g, 0, none⟩ : Addr).add j = ⟨g, j, none⟩ := by unfold Addr.add; split <;> simp_all
  rw [e, lies_cell h j]
  have hj' : j < 6 := hj
  have : j = 0 ∨ j = 1 ∨ j = 2 ∨ j = 3 ∨ j = 4 ∨ j = 5 := by omega
  rcases this with rfl | rfl | rfl | rfl | rfl | rfl <;> rfl

theorem wr_new {X : World} {b : Nat} (h : X.heap[b]? = some (.cells #[.pointer none, .string ⟨#[]⟩, .bool false] 48)) : WrAt X b 0 (some []) :=
  ⟨none, ⟨#[]⟩, [], h, rfl, by simp, rfl⟩
theorem wr_lt {X : World} {b n : Nat} {K : List UInt8} (h : WrAt X b n (some K)) : b < X.heap.size := by
  obtain ⟨p, last, ts, hb, _⟩ := h
  exact lies_lt hb

set_option maxRecDepth 100000 in
set_option maxHeartbeats 4000000 in
theorem encode_ok (v n p q : Nat) (d : List UInt8) (w : World) (h1 : 1 ≤ v) (h2 : v ≤ 65535) (h3 : n ≤ 4095) (h4 : p ≤ 1) (hq : q ≤ 255) (hd : d.length ≤ 1499) :
    Calls Try.prog 10 #[fr v n p q ⟨d.toArray⟩] w fun e w' => e = .returned (.tuple #[.string ⟨(PitotEther.bytes v n p q d).toArray⟩, .int .i64 0]) ∧ Below w.heap.size w w' := by
  have HL := Lib.hid (fun w => link_ok v w h1 h2); clear h1 h2
  have HS := Lib.hid (fun w => source_ok n p w h3 h4); clear h3 h4
  obtain ⟨K1, e1⟩ : ∃ K, K = ([] : List UInt8) ++ linkB v := ⟨_, rfl⟩
  obtain ⟨K2, e2⟩ : ∃ K, K = K1 ++ srcB n p := ⟨_, rfl⟩
  obtain ⟨K3, e3⟩ : ∃ K, K = K2 ++ [8, 0] := ⟨_, rfl⟩
  obtain ⟨K4, e4⟩ : ∃ K, K = K3 ++ d := ⟨_, rfl⟩
  obtain ⟨K5, e5⟩ : ∃ K, K = K4 ++ fill d.length := ⟨_, rfl⟩
  obtain ⟨K6, e6⟩ : ∃ K, K = K5 ++ [lo q] := ⟨_, rfl⟩
  have l1 : K1.length = 6 := by rw [e1]; rfl
  have l2 : K2.length = 12 := by rw [e2, List.length_append, l1]; rfl
  have l3 : K3.length = 14 := by rw [e3, List.length_append, l2]; rfl
  have l4 : K4.length = 14 + d.length := by rw [e4, List.length_append, l3]
  have l5 : K5.length = 14 + d.length + (45 - d.length) := by rw [e5, List.length_append, l4]; simp [fill]
  have l6 : K6.length = 15 + d.length + (45 - d.length) := by rw [e6, List.length_append, l5]; simp; omega
  have e7 : K6 = body v n p q d := by rw [e6, e5, e4, e3, e2, e1]; simp [body, PitotEther.ahead, linkB, srcB, pad_fill]
  obtain ⟨R, HR⟩ : ∃ R, Hid (R = PitotEther.bytes v n p q d) := ⟨_, rfl⟩
  rw [← HR.out]
  obtain ⟨LB, HLB⟩ : ∃ B : ByteArray, Hid (B = ⟨#[3, 0, 0, 0, hi v, lo v]⟩) := ⟨_, rfl⟩
  obtain ⟨SB, HSB⟩ : ∃ B : ByteArray, Hid (B = ⟨#[2, 0, 0, hi n, lo n, lo (32 * (p + 1))]⟩) := ⟨_, rfl⟩
  obtain ⟨FB, HFB⟩ : ∃ B : ByteArray, Hid (B = ⟨(fill d.length).toArray⟩) := ⟨_, rfl⟩
  obtain ⟨DB, HDB⟩ : ∃ B : ByteArray, Hid (B = ⟨d.toArray⟩) := ⟨_, rfl⟩
  rw [← HDB.out]
  have hDs : DB.size = d.length := by rw [HDB.out]; show d.toArray.size = _; simp
  have hFs : FB.size ≤ 45 := by rw [HFB.out]; show (fill d.length).toArray.size ≤ _; simp [fill]
  have T1 := Lib.hid (text_step [] K1 LB (by rw [e1, HLB.out]; rfl) (by simp) (by rw [HLB.out]; show (6 : Nat) ≤ _; omega))
  have T2 := Lib.hid (text_step K1 K2 SB (by rw [e2, HSB.out]; rfl) (by omega) (by rw [HSB.out]; show (6 : Nat) ≤ _; omega))
  have T3 := Lib.hid (u16_step K2 K3 e3 (by omega))
  have T4 := Lib.hid (text_step K3 K4 DB (by rw [e4, HDB.out]) (by omega) (by omega))
  have T5 := Lib.hid (text_step K4 K5 FB (by rw [e5, HFB.out]) (by omega) (by omega))
  have T6 := Lib.hid (u8_step K5 K6 q hq e6 (by omega))
  have T7 := Lib.hid (fun b w h => bytes_any b 6 K6 w h (by omega) (by omega))
  have T8 := Lib.hid (seal_step K6 R (by rw [HR.out, e7]; rfl) (by omega))
  have TF := fun w => filling_any d.length w hd
  rw [← HFB.out, ← hDs] at TF
  have TF := Lib.hid TF
  rw [← hDs] at hd
  clear e1 e2 e3 e4 e5 e6 e7 l1 l2 l3 l4 l5 l6 hFs hDs
  go_enter Try.func10, Try.ntmps10
  go_wp2_with (first
    | (go_at_call 18; (with_reducible refine (HL.out _).mono ?_); rintro e w1 ⟨rfl, hb1⟩
       (have F1 := fun o => (lies_alloc (lies_below (heap_alloc_new w (frC v n p q DB)) hb1 (by simp)) o))
       (obtain ⟨a0, a1, a2, a3, a4⟩ := forall_and5 fun o => five (F1 o))
       (have F1 := Lib.hid F1))
    | (go_at_call 19; (with_reducible refine (HS.out _).mono ?_); rintro e w2 ⟨rfl, hb2⟩
       (have F2 := fun o => (lies_alloc (lies_below (F1.out (lkC v)) hb2 (lies_lt (F1.out _))) o))
       (have A2 := fun o => (lies_alloc (lies_below (heap_alloc_new w1 (lkC v)) hb2 (by simp)) o))
       (obtain ⟨c0, c1, c2, c3, c4⟩ := forall_and5 fun o => five (F2 o))
       (have cvA := fun o o' => conv_six ((w2.alloc o).alloc o') w1.heap.size 3 0 0 0 (hi v) (lo v) (lies_alloc (A2 o) o'))
       (rw [← HLB.out] at cvA)
       (have hW := wr_new (heap_alloc_new (w2.alloc (srC n p)) (.cells #[.pointer none, .string ⟨#[]⟩, .bool false] 48)))
       (rw [show (w2.alloc (srC n p)).heap.size = w2.heap.size + 1 by simp] at hW)
       (have HW0 := Lib.hid hW)
       (clear hW)
       (have HNE := Lib.hid (show w.heap.size ≠ w2.heap.size + 1 by have := lies_lt (F2 (srC n p)); simp at this; omega))
       (have F2 := Lib.hid F2)
       (have A2 := Lib.hid A2))
    | (go_at_call 20; (with_reducible refine (T1.out _ _ _ HW0.out).mono ?_); rintro e w3 ⟨rfl, hW1, hg3⟩
       (have HW1 := Lib.hid hW1)
       (have F3 := Lib.hid (lies_grown (lies_alloc (F2.out (srC n p)) _) hg3 HNE.out))
       (have B3 := Lib.hid (lies_grown (lies_alloc (heap_alloc_new w2 (srC n p)) _) hg3 (by omega)))
       (have cvB := conv_six w3 w2.heap.size 2 0 0 (hi n) (lo n) (lo (32 * (p + 1))) B3.out)
       (rw [← HSB.out] at cvB)
       (clear hW1))
    | (go_at_call 20; (with_reducible refine (T2.out _ _ _ HW1.out).mono ?_); rintro e w4 ⟨rfl, hW2, hg4⟩
       (have HW2 := Lib.hid hW2)
       (have F4 := Lib.hid (lies_grown F3.out hg4 HNE.out))
       (clear hW2))
    | (go_at_call 21; (with_reducible refine (T3.out _ _ _ HW2.out).mono ?_); rintro e w5 ⟨rfl, hW3, hg5⟩
       (have HW3 := Lib.hid hW3)
       (have F5 := Lib.hid (lies_grown F4.out hg5 HNE.out))
       (obtain ⟨g0, g1, g2, g3, g4⟩ := five F5.out)
       (clear hW3))
    | (go_at_call 20; (with_reducible refine (T4.out _ _ _ HW3.out).mono ?_); rintro e w6 ⟨rfl, hW4, hg6⟩
       (have HW4 := Lib.hid hW4)
       (have F6 := Lib.hid (lies_grown F5.out hg6 HNE.out))
       (obtain ⟨i0, i1, i2, i3, i4⟩ := five F6.out)
       (clear hW4))
    | (go_at_call 22; (with_reducible refine (TF.out _).mono ?_); rintro e w7 ⟨rfl, hb7⟩
       (have HW5 := Lib.hid (Bi.WrAt.below HW4.out hb7))
       (have F7 := Lib.hid (lies_below F6.out hb7 (lies_lt F6.out))))
    | (go_at_call 20; (with_reducible refine (T5.out _ _ _ HW5.out).mono ?_); rintro e w8 ⟨rfl, hW6, hg8⟩
       (have HW6 := Lib.hid hW6)
       (have F8 := Lib.hid (lies_grown F7.out hg8 HNE.out))
       (obtain ⟨j0, j1, j2, j3, j4⟩ := five F8.out)
       (clear hW6))
    | (go_at_call 23; (with_reducible refine (T6.out _ _ _ HW6.out).mono ?_); rintro e w9 ⟨rfl, hW7, hg9⟩
       (have HW7 := Lib.hid hW7)
       (clear hW7))
    | (go_at_call 24; (with_reducible refine (T7.out _ _ HW7.out).mono ?_); rintro e w10 ⟨rfl, hb10⟩)
    | (go_at_call 25; (with_reducible refine (T8.out _).mono ?_); rintro e w11 ⟨rfl, hb11⟩))
  go_returns
  refine ⟨rfl, ?_⟩
  have k0 : Below w.heap.size w w1 := ((Below.refl _ w).alloc (Nat.le_refl _) _).trans (hb1.mono (by simp))
  have k1 := k0.alloc k0.size (lkC v)
  have k2 := k1.trans (hb2.mono k1.size)
  have k3 := k2.alloc k2.size (srC n p)
  have k4 := k3.alloc k3.size (.cells #[.pointer none, .string ⟨#[]⟩, .bool false] 48)
  have hr : ∀ k, some (w2.heap.size + 1) = some k → w.heap.size ≤ k := fun k e => by cases e; have := k2.size; omega
  have k5 := k4.grown hg3 k4.size hr
  have k6 := k5.grown hg4 k5.size hr
  have k7 := k6.grown hg5 k6.size hr
  have k8 := k7.grown hg6 k7.size hr
  have k9 := k8.trans (hb7.mono k8.size)
  have k10 := k9.grown hg8 k9.size hr
  have k11 := k10.grown hg9 k10.size hr
  have k12 := k11.trans (hb10.mono k11.size)
  exact k12.trans (hb11.mono k12.size)
end Go.Proofs.Ythlpehiloabfiaa
