/- Contracts of the document's Decode. -/
import Derived.Test.YtpecmpepnfgnoaaRs
import Derived.Test.YtpecmpepnfgnoaaJu
namespace Go.Proofs.Ytpecmpepnfgnoaa
open Go.RowKit Go.Proofs.PitotIp Go.Proofs.PitotUdp
open Go.Proofs.PitotAddr (hi lo num num_lt)
open Go.Proofs.Ytpecmpepnfgnoaa.Bi (lies_lt lies_cell lies_frozen lies_alloc)

abbrev TwoIs (B : ByteArray) (v : Nat) : Prop := ∀ w, Calls Try.prog 27 #[.string B] w fun e w' => e = .returned (.int .i64 v) ∧ Below w.heap.size w w'
abbrev RefSumIs (A B C : ByteArray) (o : Nat) : Prop := ∀ w, Calls Try.prog 21 #[.string A, .string B, .string C] w fun e w' => e = .returned (.int .i64 o) ∧ Below w.heap.size w w'

set_option maxRecDepth 100000 in
set_option maxHeartbeats 1000000 in
theorem refdec_short (A B s : ByteArray) (w : World) (hs : s.size < 8) :
    Calls Try.prog 14 #[.string A, .string B, .string s] w fun e w' => e = .returned (.tuple #[re0, .string ⟨#[]⟩, .int .i64 10]) ∧ Below w.heap.size w w' := by
  have k0 : Hid (Below w.heap.size w (w.alloc rez)) := (Below.refl _ w).alloc (Nat.le_refl _) _
  go_enter Try.func14, Try.ntmps14
  go_wp2
  (try simp only [Exit.inBlock, Exit.then])
  refine bodyPost_ret (by simp [results, Try.results14, go_sem]; try rfl) rfl ?_
  exact ⟨rfl, k0.out⟩

set_option maxRecDepth 100000 in
set_option maxHeartbeats 2000000 in
theorem refdec_a (A B s E4 : ByteArray) (U : Nat) (w : World) (hs : 8 ≤ s.size) (hm : s.size ≤ 200000) (x4 : s.extract 4 s.size = E4) (h4 : TwoIs E4 U) (h : U < 8) :
    Calls Try.prog 14 #[.string A, .string B, .string s] w fun e w' => e = .returned (.tuple #[re0, .string ⟨#[]⟩, .int .i64 15]) ∧ Below w.heap.size w w' := by
  have H4 := Lib.hid h4
  clear h4
  have g0 := h
  have L0 : Hid ((w.alloc rez).heap[w.heap.size]? = some rez) := heap_alloc_new w _
  have k0 : Hid (Below w.heap.size w (w.alloc rez)) := (Below.refl _ w).alloc (Nat.le_refl _) _
  go_enter Try.func14, Try.ntmps14
  go_wp2_with (first
      | (go_at_call 27; (with_reducible refine (H4.out _).mono ?_); rintro r w1 ⟨rfl, hb⟩
         (have L0 : Hid (w1.heap[w.heap.size]? = some rez) := lies_below L0.out hb (lies_lt L0.out))
         (have k0 : Hid (Below w.heap.size w w1) := k0.out.trans (hb.mono k0.out.size))
         (obtain ⟨c0, c1, c2, c3⟩ := cells4 L0.out)
         (have f0 := lies_frozen L0.out 0)
         (have f1 := lies_frozen L0.out 1)
         (have f2 := lies_frozen L0.out 2)
         (have f3 := lies_frozen L0.out 3)
         (clear hb)))
  (try simp only [Exit.inBlock, Exit.then])
  obtain ⟨q0, q1, q2, q3, _⟩ := read_4 (y0 := .string ⟨#[]⟩) (y1 := .string ⟨#[]⟩) (y2 := .int .i64 0) (y3 := .int .i64 0) L0.out
  refine bodyPost_ret (by simp [results, Try.results14, go_sem, q0, q1, q2, q3]; try rfl) rfl ?_
  exact ⟨rfl, below_4 k0.out (Nat.le_refl _) _ _ _ _⟩

set_option maxRecDepth 100000 in
set_option maxHeartbeats 2000000 in
theorem refdec_b (A B s E4 : ByteArray) (U : Nat) (w : World) (hs : 8 ≤ s.size) (hm : s.size ≤ 200000) (x4 : s.extract 4 s.size = E4) (h4 : TwoIs E4 U) (h : ¬ U < 8 ∧ 8200 < U) :
    Calls Try.prog 14 #[.string A, .string B, .string s] w fun e w' => e = .returned (.tuple #[re0, .string ⟨#[]⟩, .int .i64 15]) ∧ Below w.heap.size w w' := by
  have H4 := Lib.hid h4
  clear h4
  obtain ⟨g0, g1⟩ := h
  have L0 : Hid ((w.alloc rez).heap[w.heap.size]? = some rez) := heap_alloc_new w _
  have k0 : Hid (Below w.heap.size w (w.alloc rez)) := (Below.refl _ w).alloc (Nat.le_refl _) _
  go_enter Try.func14, Try.ntmps14
  go_wp2_with (first
      | (go_at_call 27; (with_reducible refine (H4.out _).mono ?_); rintro r w1 ⟨rfl, hb⟩
         (have L0 : Hid (w1.heap[w.heap.size]? = some rez) := lies_below L0.out hb (lies_lt L0.out))
         (have k0 : Hid (Below w.heap.size w w1) := k0.out.trans (hb.mono k0.out.size))
         (obtain ⟨c0, c1, c2, c3⟩ := cells4 L0.out)
         (have f0 := lies_frozen L0.out 0)
         (have f1 := lies_frozen L0.out 1)
         (have f2 := lies_frozen L0.out 2)
         (have f3 := lies_frozen L0.out 3)
         (clear hb)))
  (try simp only [Exit.inBlock, Exit.then])
  obtain ⟨q0, q1, q2, q3, _⟩ := read_4 (y0 := .string ⟨#[]⟩) (y1 := .string ⟨#[]⟩) (y2 := .int .i64 0) (y3 := .int .i64 0) L0.out
  refine bodyPost_ret (by simp [results, Try.results14, go_sem, q0, q1, q2, q3]; try rfl) rfl ?_
  exact ⟨rfl, below_4 k0.out (Nat.le_refl _) _ _ _ _⟩

set_option maxRecDepth 100000 in
set_option maxHeartbeats 2000000 in
theorem refdec_c (A B s E4 : ByteArray) (U : Nat) (w : World) (hs : 8 ≤ s.size) (hm : s.size ≤ 200000) (x4 : s.extract 4 s.size = E4) (h4 : TwoIs E4 U) (h : ¬ U < 8 ∧ ¬ 8200 < U ∧ s.size < U) :
    Calls Try.prog 14 #[.string A, .string B, .string s] w fun e w' => e = .returned (.tuple #[re0, .string ⟨#[]⟩, .int .i64 10]) ∧ Below w.heap.size w w' := by
  have H4 := Lib.hid h4
  clear h4
  obtain ⟨g0, g1, g2⟩ := h
  have L0 : Hid ((w.alloc rez).heap[w.heap.size]? = some rez) := heap_alloc_new w _
  have k0 : Hid (Below w.heap.size w (w.alloc rez)) := (Below.refl _ w).alloc (Nat.le_refl _) _
  go_enter Try.func14, Try.ntmps14
  go_wp2_with (first
      | (go_at_call 27; (with_reducible refine (H4.out _).mono ?_); rintro r w1 ⟨rfl, hb⟩
         (have L0 : Hid (w1.heap[w.heap.size]? = some rez) := lies_below L0.out hb (lies_lt L0.out))
         (have k0 : Hid (Below w.heap.size w w1) := k0.out.trans (hb.mono k0.out.size))
         (obtain ⟨c0, c1, c2, c3⟩ := cells4 L0.out)
         (have f0 := lies_frozen L0.out 0)
         (have f1 := lies_frozen L0.out 1)
         (have f2 := lies_frozen L0.out 2)
         (have f3 := lies_frozen L0.out 3)
         (clear hb)))
  (try simp only [Exit.inBlock, Exit.then])
  obtain ⟨q0, q1, q2, q3, _⟩ := read_4 (y0 := .string ⟨#[]⟩) (y1 := .string ⟨#[]⟩) (y2 := .int .i64 0) (y3 := .int .i64 0) L0.out
  refine bodyPost_ret (by simp [results, Try.results14, go_sem, q0, q1, q2, q3]; try rfl) rfl ?_
  exact ⟨rfl, below_4 k0.out (Nat.le_refl _) _ _ _ _⟩

set_option maxRecDepth 100000 in
set_option maxHeartbeats 2000000 in
theorem refdec_d (A B s E4 : ByteArray) (U : Nat) (w : World) (hs : 8 ≤ s.size) (hm : s.size ≤ 200000) (x4 : s.extract 4 s.size = E4) (h4 : TwoIs E4 U) (h : ¬ U < 8 ∧ ¬ 8200 < U ∧ ¬ s.size < U ∧ U < s.size) :
    Calls Try.prog 14 #[.string A, .string B, .string s] w fun e w' => e = .returned (.tuple #[re0, .string ⟨#[]⟩, .int .i64 11]) ∧ Below w.heap.size w w' := by
  have H4 := Lib.hid h4
  clear h4
  obtain ⟨g0, g1, g2, g3⟩ := h
  have L0 : Hid ((w.alloc rez).heap[w.heap.size]? = some rez) := heap_alloc_new w _
  have k0 : Hid (Below w.heap.size w (w.alloc rez)) := (Below.refl _ w).alloc (Nat.le_refl _) _
  go_enter Try.func14, Try.ntmps14
  go_wp2_with (first
      | (go_at_call 27; (with_reducible refine (H4.out _).mono ?_); rintro r w1 ⟨rfl, hb⟩
         (have L0 : Hid (w1.heap[w.heap.size]? = some rez) := lies_below L0.out hb (lies_lt L0.out))
         (have k0 : Hid (Below w.heap.size w w1) := k0.out.trans (hb.mono k0.out.size))
         (obtain ⟨c0, c1, c2, c3⟩ := cells4 L0.out)
         (have f0 := lies_frozen L0.out 0)
         (have f1 := lies_frozen L0.out 1)
         (have f2 := lies_frozen L0.out 2)
         (have f3 := lies_frozen L0.out 3)
         (clear hb)))
  (try simp only [Exit.inBlock, Exit.then])
  obtain ⟨q0, q1, q2, q3, _⟩ := read_4 (y0 := .string ⟨#[]⟩) (y1 := .string ⟨#[]⟩) (y2 := .int .i64 0) (y3 := .int .i64 0) L0.out
  refine bodyPost_ret (by simp [results, Try.results14, go_sem, q0, q1, q2, q3]; try rfl) rfl ?_
  exact ⟨rfl, below_4 k0.out (Nat.le_refl _) _ _ _ _⟩

set_option maxRecDepth 100000 in
set_option maxHeartbeats 4000000 in
theorem refdec_sum (A B s E4 E6 F6 E8 M6 : ByteArray) (U S own : Nat) (w : World) (hs : 8 ≤ s.size) (hm : s.size ≤ 9000) (x4 : s.extract 4 s.size = E4) (h4 : TwoIs E4 U) (hU : U = s.size) (hU2 : U ≤ 8200) (x6 : s.extract 6 s.size = E6) (h6 : TwoIs E6 S) (y6 : s.extract 0 6 = F6) (x8 : s.extract 8 s.size = E8) (z6 : F6.size = 6) (z8 : E8.size ≤ 9000) (hM : F6 ++ (⟨#[0, 0]⟩ : ByteArray) = M6) (hS : S ≠ 0) (hown : S ≠ own) (h5 : RefSumIs A B (M6 ++ E8) own) :
    Calls Try.prog 14 #[.string A, .string B, .string s] w fun e w' => e = .returned (.tuple #[re0, .string ⟨#[]⟩, .int .i64 12]) ∧ Below w.heap.size w w' := by
  have H4 := Lib.hid h4; have H6 := Lib.hid h6
  clear h4 h6
  subst hU
  have H5 := Lib.hid h5
  clear h5
  have s1 : ((S : Int) != 0) = true := by simp; exact hS
  have s2 : ¬ (S : Int) = 0 := by omega
  have s3 : ((S : Int) != (own : Int)) = true := by simp; omega
  have s4 : ¬ (S : Int) = (own : Int) := by omega
  have L0 : Hid ((w.alloc rez).heap[w.heap.size]? = some rez) := heap_alloc_new w _
  have k0 : Hid (Below w.heap.size w (w.alloc rez)) := (Below.refl _ w).alloc (Nat.le_refl _) _
  have b1 : (6 : Int) ≤ (s.size : Int) := by omega
  have b2 : (8 : Int) ≤ (s.size : Int) := by omega
  have b3 : (2 : Int) ≤ (s.size : Int) := by omega
  have yz : (⟨#[0, 0]⟩ : ByteArray).size = 2 := rfl
  have n1 : ¬ 9223372036854775807 < F6.size + (⟨#[0, 0]⟩ : ByteArray).size := by omega
  have n2 : ¬ 9223372036854775807 < M6.size + E8.size := by rw [← hM, ByteArray.size_append]; omega
  go_enter Try.func14, Try.ntmps14
  go_upto_region 11 with (first
      | (go_at_call 27; (with_reducible refine (H4.out _).mono ?_); rintro r w1 ⟨rfl, hb⟩
         (have L0 : Hid (w1.heap[w.heap.size]? = some rez) := lies_below L0.out hb (lies_lt L0.out))
         (have k0 : Hid (Below w.heap.size w w1) := k0.out.trans (hb.mono k0.out.size))
         (obtain ⟨c0, c1, c2, c3⟩ := cells4 L0.out)
         (have f0 := lies_frozen L0.out 0)
         (have f1 := lies_frozen L0.out 1)
         (have f2 := lies_frozen L0.out 2)
         (have f3 := lies_frozen L0.out 3)
         (clear hb))
      | (go_at_call 27; (with_reducible refine (H6.out _).mono ?_); rintro r w2 ⟨rfl, hb⟩
         (have L0 : Hid (w2.heap[w.heap.size]? = some rez) := lies_below L0.out hb (lies_lt L0.out))
         (have k0 : Hid (Below w.heap.size w w2) := k0.out.trans (hb.mono k0.out.size))
         (obtain ⟨c0, c1, c2, c3⟩ := cells4 L0.out)
         (have f0 := lies_frozen L0.out 0)
         (have f1 := lies_frozen L0.out 1)
         (have f2 := lies_frozen L0.out 2)
         (have f3 := lies_frozen L0.out 3)
         (clear hb)))
  have L0 : Hid (w2.drew.heap[w.heap.size]? = some rez) := L0.out
  have k0 : Hid (Below w.heap.size w w2.drew) := k0.out.drew
  go_region_held3 (fun _ => True) (trivial) (first
      | (go_at_call 21; (with_reducible refine (H5.out _).mono ?_); rintro r w3 ⟨rfl, hb⟩
         (have L0 : Hid (w3.heap[w.heap.size]? = some rez) := lies_below L0.out hb (lies_lt L0.out))
         (have k0 : Hid (Below w.heap.size w w3) := k0.out.trans (hb.mono k0.out.size))
         (obtain ⟨c0, c1, c2, c3⟩ := cells4 L0.out)
         (have f0 := lies_frozen L0.out 0)
         (have f1 := lies_frozen L0.out 1)
         (have f2 := lies_frozen L0.out 2)
         (have f3 := lies_frozen L0.out 3)
         (clear hb)))
  all_goals
    go_wp2
    (try simp only [Exit.inBlock, Exit.then])
    obtain ⟨q0, q1, q2, q3, _⟩ := read_4 (y0 := .string ⟨#[]⟩) (y1 := .string ⟨#[]⟩) (y2 := .int .i64 0) (y3 := .int .i64 0) L0.out
    refine bodyPost_ret (by simp [results, Try.results14, go_sem, q0, q1, q2, q3]; try rfl) rfl ?_
    exact ⟨rfl, below_4 k0.out (Nat.le_refl _) _ _ _ _⟩

set_option maxRecDepth 100000 in
set_option maxHeartbeats 4000000 in
theorem refdec_good (A B s E4 E6 F6 E8 M6 E2 : ByteArray) (U S own F T : Nat) (w : World) (hs : 8 ≤ s.size) (hm : s.size ≤ 9000) (x4 : s.extract 4 s.size = E4) (h4 : TwoIs E4 U) (hU : U = s.size) (hU2 : U ≤ 8200) (x6 : s.extract 6 s.size = E6) (h6 : TwoIs E6 S) (y6 : s.extract 0 6 = F6) (x8 : s.extract 8 s.size = E8) (z6 : F6.size = 6) (z8 : E8.size ≤ 9000) (hM : F6 ++ (⟨#[0, 0]⟩ : ByteArray) = M6) (x2 : s.extract 2 s.size = E2) (h0 : TwoIs s F) (h2 : TwoIs E2 T) (hS : S ≠ 0) (hown : S = own) (h5 : RefSumIs A B (M6 ++ E8) own) :
    Calls Try.prog 14 #[.string A, .string B, .string s] w fun e w' => e = .returned (.tuple #[re A B F T, .string E8, .int .i64 0]) ∧ Below w.heap.size w w' := by
  have H4 := Lib.hid h4; have H6 := Lib.hid h6
  clear h4 h6
  subst hU
  have H0 := Lib.hid h0; have H2 := Lib.hid h2
  clear h0 h2
  have H5 := Lib.hid h5
  clear h5
  subst hown
  have s1 : ((S : Int) != 0) = true := by simp; exact hS
  have s2 : ¬ (S : Int) = 0 := by omega
  have L0 : Hid ((w.alloc rez).heap[w.heap.size]? = some rez) := heap_alloc_new w _
  have k0 : Hid (Below w.heap.size w (w.alloc rez)) := (Below.refl _ w).alloc (Nat.le_refl _) _
  have b1 : (6 : Int) ≤ (s.size : Int) := by omega
  have b2 : (8 : Int) ≤ (s.size : Int) := by omega
  have b3 : (2 : Int) ≤ (s.size : Int) := by omega
  have yz : (⟨#[0, 0]⟩ : ByteArray).size = 2 := rfl
  have n1 : ¬ 9223372036854775807 < F6.size + (⟨#[0, 0]⟩ : ByteArray).size := by omega
  have n2 : ¬ 9223372036854775807 < M6.size + E8.size := by rw [← hM, ByteArray.size_append]; omega
  go_enter Try.func14, Try.ntmps14
  go_upto_region 11 with (first
      | (go_at_call 27; (with_reducible refine (H4.out _).mono ?_); rintro r w1 ⟨rfl, hb⟩
         (have L0 : Hid (w1.heap[w.heap.size]? = some rez) := lies_below L0.out hb (lies_lt L0.out))
         (have k0 : Hid (Below w.heap.size w w1) := k0.out.trans (hb.mono k0.out.size))
         (obtain ⟨c0, c1, c2, c3⟩ := cells4 L0.out)
         (have f0 := lies_frozen L0.out 0)
         (have f1 := lies_frozen L0.out 1)
         (have f2 := lies_frozen L0.out 2)
         (have f3 := lies_frozen L0.out 3)
         (clear hb))
      | (go_at_call 27; (with_reducible refine (H6.out _).mono ?_); rintro r w2 ⟨rfl, hb⟩
         (have L0 : Hid (w2.heap[w.heap.size]? = some rez) := lies_below L0.out hb (lies_lt L0.out))
         (have k0 : Hid (Below w.heap.size w w2) := k0.out.trans (hb.mono k0.out.size))
         (obtain ⟨c0, c1, c2, c3⟩ := cells4 L0.out)
         (have f0 := lies_frozen L0.out 0)
         (have f1 := lies_frozen L0.out 1)
         (have f2 := lies_frozen L0.out 2)
         (have f3 := lies_frozen L0.out 3)
         (clear hb)))
  have L0 : Hid (w2.drew.heap[w.heap.size]? = some rez) := L0.out
  have k0 : Hid (Below w.heap.size w w2.drew) := k0.out.drew
  go_region_held3 (fun _ => True) (trivial) (first
      | (go_at_call 21; (with_reducible refine (H5.out _).mono ?_); rintro r w3 ⟨rfl, hb⟩
         (have L0 : Hid (w3.heap[w.heap.size]? = some rez) := lies_below L0.out hb (lies_lt L0.out))
         (have k0 : Hid (Below w.heap.size w w3) := k0.out.trans (hb.mono k0.out.size))
         (obtain ⟨c0, c1, c2, c3⟩ := cells4 L0.out)
         (have f0 := lies_frozen L0.out 0)
         (have f1 := lies_frozen L0.out 1)
         (have f2 := lies_frozen L0.out 2)
         (have f3 := lies_frozen L0.out 3)
         (clear hb)))
  all_goals
    go_upto_region 13 with fail
    have L0 : Hid (w3.drew.heap[w.heap.size]? = some rez) := L0.out
    have k0 : Hid (Below w.heap.size w w3.drew) := show Below _ _ _ from ⟨k0.out.os, k0.out.tape, k0.out.output, k0.out.size, k0.out.block⟩
    go_cut [7, 8] from 11 (fun s7 s8 wc => s7 = .string E8 ∧ s8 = .int .i64 0 ∧ wc.heap[w.heap.size]? = some (reC A B F T) ∧ Below w.heap.size w wc)
    case first =>
      go_region_held3 (fun _ => True) (trivial) (first
      | (go_at_call 27; (with_reducible refine (H0.out _).mono ?_); rintro r w4 ⟨rfl, hb⟩
         (have L0 : Hid (w4.heap[w.heap.size]? = some rez) := lies_below L0.out hb (lies_lt L0.out))
         (have k0 : Hid (Below w.heap.size w w4) := k0.out.trans (hb.mono k0.out.size))
         (obtain ⟨c0, c1, c2, c3⟩ := cells4 L0.out)
         (have f0 := lies_frozen L0.out 0)
         (have f1 := lies_frozen L0.out 1)
         (have f2 := lies_frozen L0.out 2)
         (have f3 := lies_frozen L0.out 3)
         (clear hb))
      | (go_at_call 27; (with_reducible refine (H2.out _).mono ?_); rintro r w5 ⟨rfl, hb⟩
         (have L0 : Hid (w5.heap[w.heap.size]? = some rez) := lies_below L0.out hb (lies_lt L0.out))
         (have k0 : Hid (Below w.heap.size w w5) := k0.out.trans (hb.mono k0.out.size))
         (obtain ⟨c0, c1, c2, c3⟩ := cells4 L0.out)
         (have f0 := lies_frozen L0.out 0)
         (have f1 := lies_frozen L0.out 1)
         (have f2 := lies_frozen L0.out 2)
         (have f3 := lies_frozen L0.out 3)
         (clear hb)))
      all_goals
        go_wp2
        go_meet
        case rel => exact ⟨rfl, rfl, (read_4 L0.out).2.2.2.2, below_4 k0.out (Nat.le_refl _) _ _ _ _⟩
    case rest =>
      obtain ⟨rfl, rfl, LY, kY⟩ := hcut
      obtain ⟨l0, l1, l2, l3⟩ := cells4 LY
      go_wp2
      (try simp only [Exit.inBlock, Exit.then])
      refine bodyPost_ret (by simp [results, Try.results14, go_sem, l0, l1, l2, l3]; try rfl) rfl ?_
      exact ⟨rfl, kY⟩

set_option maxRecDepth 100000 in
set_option maxHeartbeats 4000000 in
theorem refdec_none (A B s E4 E6 F6 E8 M6 E2 : ByteArray) (U S F T : Nat) (w : World) (hs : 8 ≤ s.size) (hm : s.size ≤ 9000) (x4 : s.extract 4 s.size = E4) (h4 : TwoIs E4 U) (hU : U = s.size) (hU2 : U ≤ 8200) (x6 : s.extract 6 s.size = E6) (h6 : TwoIs E6 S) (y6 : s.extract 0 6 = F6) (x8 : s.extract 8 s.size = E8) (z6 : F6.size = 6) (z8 : E8.size ≤ 9000) (hM : F6 ++ (⟨#[0, 0]⟩ : ByteArray) = M6) (x2 : s.extract 2 s.size = E2) (h0 : TwoIs s F) (h2 : TwoIs E2 T) (hS : S = 0) :
    Calls Try.prog 14 #[.string A, .string B, .string s] w fun e w' => e = .returned (.tuple #[re A B F T, .string E8, .int .i64 0]) ∧ Below w.heap.size w w' := by
  have H4 := Lib.hid h4; have H6 := Lib.hid h6
  clear h4 h6
  subst hU
  have H0 := Lib.hid h0; have H2 := Lib.hid h2
  clear h0 h2
  subst hS
  have L0 : Hid ((w.alloc rez).heap[w.heap.size]? = some rez) := heap_alloc_new w _
  have k0 : Hid (Below w.heap.size w (w.alloc rez)) := (Below.refl _ w).alloc (Nat.le_refl _) _
  have b1 : (6 : Int) ≤ (s.size : Int) := by omega
  have b2 : (8 : Int) ≤ (s.size : Int) := by omega
  have b3 : (2 : Int) ≤ (s.size : Int) := by omega
  have yz : (⟨#[0, 0]⟩ : ByteArray).size = 2 := rfl
  have n1 : ¬ 9223372036854775807 < F6.size + (⟨#[0, 0]⟩ : ByteArray).size := by omega
  have n2 : ¬ 9223372036854775807 < M6.size + E8.size := by rw [← hM, ByteArray.size_append]; omega
  go_enter Try.func14, Try.ntmps14
  go_upto_region 11 with (first
      | (go_at_call 27; (with_reducible refine (H4.out _).mono ?_); rintro r w1 ⟨rfl, hb⟩
         (have L0 : Hid (w1.heap[w.heap.size]? = some rez) := lies_below L0.out hb (lies_lt L0.out))
         (have k0 : Hid (Below w.heap.size w w1) := k0.out.trans (hb.mono k0.out.size))
         (obtain ⟨c0, c1, c2, c3⟩ := cells4 L0.out)
         (have f0 := lies_frozen L0.out 0)
         (have f1 := lies_frozen L0.out 1)
         (have f2 := lies_frozen L0.out 2)
         (have f3 := lies_frozen L0.out 3)
         (clear hb))
      | (go_at_call 27; (with_reducible refine (H6.out _).mono ?_); rintro r w2 ⟨rfl, hb⟩
         (have L0 : Hid (w2.heap[w.heap.size]? = some rez) := lies_below L0.out hb (lies_lt L0.out))
         (have k0 : Hid (Below w.heap.size w w2) := k0.out.trans (hb.mono k0.out.size))
         (obtain ⟨c0, c1, c2, c3⟩ := cells4 L0.out)
         (have f0 := lies_frozen L0.out 0)
         (have f1 := lies_frozen L0.out 1)
         (have f2 := lies_frozen L0.out 2)
         (have f3 := lies_frozen L0.out 3)
         (clear hb)))
  have L0 : Hid (w2.drew.heap[w.heap.size]? = some rez) := L0.out
  have k0 : Hid (Below w.heap.size w w2.drew) := k0.out.drew
  go_quiet (fail)
  all_goals
    go_upto_region 13 with fail
    have L0 : Hid ((w2.drewN nq).drew.heap[w.heap.size]? = some rez) := L0.out
    have k0 : Hid (Below w.heap.size w (w2.drewN nq).drew) := show Below _ _ _ from ⟨k0.out.os, k0.out.tape, k0.out.output, k0.out.size, k0.out.block⟩
    go_cut [7, 8] from 11 (fun s7 s8 wc => s7 = .string E8 ∧ s8 = .int .i64 0 ∧ wc.heap[w.heap.size]? = some (reC A B F T) ∧ Below w.heap.size w wc)
    case first =>
      go_region_held3 (fun _ => True) (trivial) (first
      | (go_at_call 27; (with_reducible refine (H0.out _).mono ?_); rintro r w4 ⟨rfl, hb⟩
         (have L0 : Hid (w4.heap[w.heap.size]? = some rez) := lies_below L0.out hb (lies_lt L0.out))
         (have k0 : Hid (Below w.heap.size w w4) := k0.out.trans (hb.mono k0.out.size))
         (obtain ⟨c0, c1, c2, c3⟩ := cells4 L0.out)
         (have f0 := lies_frozen L0.out 0)
         (have f1 := lies_frozen L0.out 1)
         (have f2 := lies_frozen L0.out 2)
         (have f3 := lies_frozen L0.out 3)
         (clear hb))
      | (go_at_call 27; (with_reducible refine (H2.out _).mono ?_); rintro r w5 ⟨rfl, hb⟩
         (have L0 : Hid (w5.heap[w.heap.size]? = some rez) := lies_below L0.out hb (lies_lt L0.out))
         (have k0 : Hid (Below w.heap.size w w5) := k0.out.trans (hb.mono k0.out.size))
         (obtain ⟨c0, c1, c2, c3⟩ := cells4 L0.out)
         (have f0 := lies_frozen L0.out 0)
         (have f1 := lies_frozen L0.out 1)
         (have f2 := lies_frozen L0.out 2)
         (have f3 := lies_frozen L0.out 3)
         (clear hb)))
      all_goals
        go_wp2
        go_meet
        case rel => exact ⟨rfl, rfl, (read_4 L0.out).2.2.2.2, below_4 k0.out (Nat.le_refl _) _ _ _ _⟩
    case rest =>
      obtain ⟨rfl, rfl, LY, kY⟩ := hcut
      obtain ⟨l0, l1, l2, l3⟩ := cells4 LY
      go_wp2
      (try simp only [Exit.inBlock, Exit.then])
      refine bodyPost_ret (by simp [results, Try.results14, go_sem, l0, l1, l2, l3]; try rfl) rfl ?_
      exact ⟨rfl, kY⟩

end Go.Proofs.Ytpecmpepnfgnoaa
