/- Contracts of the document's Decode: no packet by its first words. -/
import Derived.Test.YtneiemaepdknjaaRn
namespace Go.Proofs.Ytneiemaepdknjaa
open Go.RowKit Go.Proofs.PitotIp
open Go.Proofs.Ytneiemaepdknjaa.Bi (lies_lt lies_cell lies_frozen lies_alloc)

abbrev TwoIs (B : ByteArray) (v : Int) : Prop := ∀ w, Calls Try.prog 22 #[.string B] w fun e w' => e = .returned (.int .i64 v) ∧ Below w.heap.size w w'
abbrev RefOnesIs (B : ByteArray) (v : Int) : Prop := ∀ w, Calls Try.prog 20 #[.string B] w fun e w' => e = .returned (.int .i64 v) ∧ Below w.heap.size w w'
abbrev IdxIs (s : ByteArray) (j v : Int) : Prop := ∀ w, (Instr.index 9 (.string s) (.int .i64 j)).run Try.prog w = .ok (.int .u8 v) w

set_option maxRecDepth 100000 in
set_option maxHeartbeats 4000000 in
theorem refdec_short (s : ByteArray) (w : World) (hs : s.size < 20) :
    Calls Try.prog 14 #[.string s] w fun e w' => e = .returned (.tuple #[rp0, .int .i64 10]) ∧ Below w.heap.size w w' := by
  go_enter Try.func14, Try.ntmps14
  go_wp2
  (try simp only [Exit.inBlock, Exit.then])
  refine bodyPost_ret (by simp [results, Try.results14, go_sem]; try rfl) rfl ?_
  exact ⟨rfl, (Below.refl _ _).alloc (Nat.le_refl _) _⟩

set_option maxRecDepth 100000 in
set_option maxHeartbeats 4000000 in
theorem refdec_kind (s : ByteArray) (vk : Int) (w : World) (hs : 20 ≤ s.size) (hm : s.size ≤ 200000) (i0 : IdxIs s 0 vk) (hk : vk ≠ 69) :
    Calls Try.prog 14 #[.string s] w fun e w' => e = .returned (.tuple #[rp0, .int .i64 13]) ∧ Below w.heap.size w w' := by
  have hk1 : (vk != 69) = true := by simpa using hk
  have hk2 : ¬ vk = 69 := hk
  clear hk
  go_enter Try.func14, Try.ntmps14
  go_wp2
  (try simp only [Exit.inBlock, Exit.then])
  refine bodyPost_ret (by simp [results, Try.results14, go_sem]; try rfl) rfl ?_
  exact ⟨rfl, (Below.refl _ _).alloc (Nat.le_refl _) _⟩

set_option maxRecDepth 100000 in
set_option maxHeartbeats 4000000 in
theorem refdec_z (s E2 E6 : ByteArray) (vz : Int) (n part : Nat) (w : World) (hs : 20 ≤ s.size) (hm : s.size ≤ 200000) (i0 : IdxIs s 0 69) (i1 : IdxIs s 1 vz) (x2 : s.extract 2 s.size = E2) (x6 : s.extract 6 s.size = E6) (h2 : TwoIs E2 n) (h6 : TwoIs E6 part) (hz : vz ≠ 0) :
    Calls Try.prog 14 #[.string s] w fun e w' => e = .returned (.tuple #[rp0, .int .i64 15]) ∧ Below w.heap.size w w' := by
  have hz1 : (vz != 0) = true := by simpa using hz
  have hz2 : ¬ vz = 0 := hz
  clear hz
  have H2 := Lib.hid h2; have H6 := Lib.hid h6
  clear h2 h6
  have L0 : Hid ((w.alloc rpz).heap[w.heap.size]? = some rpz) := heap_alloc_new w _
  have k0 : Hid (Below w.heap.size w (w.alloc rpz)) := (Below.refl _ w).alloc (Nat.le_refl _) _
  go_enter Try.func14, Try.ntmps14
  go_wp2_with (first
    | (go_at_call 22; (with_reducible refine (H2.out _).mono ?_); rintro r w1 ⟨rfl, hb⟩
       (have L0 : Hid (w1.heap[w.heap.size]? = some rpz) := lies_below L0.out hb (lies_lt L0.out))
       (have k0 : Hid (Below w.heap.size w w1) := k0.out.trans (hb.mono k0.out.size))
       (obtain ⟨c0, c1, c2, c3, c4, c5, c6, c7⟩ := cells8 L0.out)
       (have f0 := lies_frozen L0.out 0)
       (have f1 := lies_frozen L0.out 1)
       (have f2 := lies_frozen L0.out 2)
       (have f3 := lies_frozen L0.out 3)
       (have f4 := lies_frozen L0.out 4)
       (have f5 := lies_frozen L0.out 5)
       (have f6 := lies_frozen L0.out 6)
       (have f7 := lies_frozen L0.out 7)
       (clear hb))
    | (go_at_call 22; (with_reducible refine (H6.out _).mono ?_); rintro r w2 ⟨rfl, hb⟩
       (have L0 : Hid (w2.heap[w.heap.size]? = some rpz) := lies_below L0.out hb (lies_lt L0.out))
       (have k0 : Hid (Below w.heap.size w w2) := k0.out.trans (hb.mono k0.out.size))
       (obtain ⟨c0, c1, c2, c3, c4, c5, c6, c7⟩ := cells8 L0.out)
       (have f0 := lies_frozen L0.out 0)
       (have f1 := lies_frozen L0.out 1)
       (have f2 := lies_frozen L0.out 2)
       (have f3 := lies_frozen L0.out 3)
       (have f4 := lies_frozen L0.out 4)
       (have f5 := lies_frozen L0.out 5)
       (have f6 := lies_frozen L0.out 6)
       (have f7 := lies_frozen L0.out 7)
       (clear hb)))
  (try simp only [Exit.inBlock, Exit.then])
  obtain ⟨kk0, kk1, kk2, kk3, kk4, kk5, kk6, kk7, E8⟩ := read_8 (y0 := .int .i64 0) (y1 := .bool false) (y2 := .int .i64 0) (y3 := .int .i64 0) (y4 := .int .i64 0) (y5 := .string ⟨#[]⟩) (y6 := .string ⟨#[]⟩) (y7 := .string ⟨#[]⟩) L0.out
  refine bodyPost_ret (by simp [results, Try.results14, go_sem, kk0, kk1, kk2, kk3, kk4, kk5, kk6, kk7]; try rfl) rfl ?_
  exact ⟨rfl, below_8 k0.out (Nat.le_refl _) _ _ _ _ _ _ _ _⟩

set_option maxRecDepth 100000 in
set_option maxHeartbeats 4000000 in
theorem refdec_n (s E2 E6 : ByteArray) (n part : Nat) (w : World) (hs : 20 ≤ s.size) (hm : s.size ≤ 200000) (i0 : IdxIs s 0 69) (i1 : IdxIs s 1 0) (x2 : s.extract 2 s.size = E2) (x6 : s.extract 6 s.size = E6) (h2 : TwoIs E2 n) (h6 : TwoIs E6 part) (hn : n < 20) :
    Calls Try.prog 14 #[.string s] w fun e w' => e = .returned (.tuple #[rp0, .int .i64 15]) ∧ Below w.heap.size w w' := by
  have H2 := Lib.hid h2; have H6 := Lib.hid h6
  clear h2 h6
  have L0 : Hid ((w.alloc rpz).heap[w.heap.size]? = some rpz) := heap_alloc_new w _
  have k0 : Hid (Below w.heap.size w (w.alloc rpz)) := (Below.refl _ w).alloc (Nat.le_refl _) _
  go_enter Try.func14, Try.ntmps14
  go_wp2_with (first
    | (go_at_call 22; (with_reducible refine (H2.out _).mono ?_); rintro r w1 ⟨rfl, hb⟩
       (have L0 : Hid (w1.heap[w.heap.size]? = some rpz) := lies_below L0.out hb (lies_lt L0.out))
       (have k0 : Hid (Below w.heap.size w w1) := k0.out.trans (hb.mono k0.out.size))
       (obtain ⟨c0, c1, c2, c3, c4, c5, c6, c7⟩ := cells8 L0.out)
       (have f0 := lies_frozen L0.out 0)
       (have f1 := lies_frozen L0.out 1)
       (have f2 := lies_frozen L0.out 2)
       (have f3 := lies_frozen L0.out 3)
       (have f4 := lies_frozen L0.out 4)
       (have f5 := lies_frozen L0.out 5)
       (have f6 := lies_frozen L0.out 6)
       (have f7 := lies_frozen L0.out 7)
       (clear hb))
    | (go_at_call 22; (with_reducible refine (H6.out _).mono ?_); rintro r w2 ⟨rfl, hb⟩
       (have L0 : Hid (w2.heap[w.heap.size]? = some rpz) := lies_below L0.out hb (lies_lt L0.out))
       (have k0 : Hid (Below w.heap.size w w2) := k0.out.trans (hb.mono k0.out.size))
       (obtain ⟨c0, c1, c2, c3, c4, c5, c6, c7⟩ := cells8 L0.out)
       (have f0 := lies_frozen L0.out 0)
       (have f1 := lies_frozen L0.out 1)
       (have f2 := lies_frozen L0.out 2)
       (have f3 := lies_frozen L0.out 3)
       (have f4 := lies_frozen L0.out 4)
       (have f5 := lies_frozen L0.out 5)
       (have f6 := lies_frozen L0.out 6)
       (have f7 := lies_frozen L0.out 7)
       (clear hb)))
  (try simp only [Exit.inBlock, Exit.then])
  obtain ⟨kk0, kk1, kk2, kk3, kk4, kk5, kk6, kk7, E8⟩ := read_8 (y0 := .int .i64 0) (y1 := .bool false) (y2 := .int .i64 0) (y3 := .int .i64 0) (y4 := .int .i64 0) (y5 := .string ⟨#[]⟩) (y6 := .string ⟨#[]⟩) (y7 := .string ⟨#[]⟩) L0.out
  refine bodyPost_ret (by simp [results, Try.results14, go_sem, kk0, kk1, kk2, kk3, kk4, kk5, kk6, kk7]; try rfl) rfl ?_
  exact ⟨rfl, below_8 k0.out (Nat.le_refl _) _ _ _ _ _ _ _ _⟩

set_option maxRecDepth 100000 in
set_option maxHeartbeats 4000000 in
theorem refdec_p (s E2 E6 : ByteArray) (n part : Nat) (w : World) (hs : 20 ≤ s.size) (hm : s.size ≤ 200000) (i0 : IdxIs s 0 69) (i1 : IdxIs s 1 0) (x2 : s.extract 2 s.size = E2) (x6 : s.extract 6 s.size = E6) (h2 : TwoIs E2 n) (h6 : TwoIs E6 part) (hn : 20 ≤ n) (hp : 16384 ≤ part) :
    Calls Try.prog 14 #[.string s] w fun e w' => e = .returned (.tuple #[rp0, .int .i64 15]) ∧ Below w.heap.size w w' := by
  have H2 := Lib.hid h2; have H6 := Lib.hid h6
  clear h2 h6
  have L0 : Hid ((w.alloc rpz).heap[w.heap.size]? = some rpz) := heap_alloc_new w _
  have k0 : Hid (Below w.heap.size w (w.alloc rpz)) := (Below.refl _ w).alloc (Nat.le_refl _) _
  go_enter Try.func14, Try.ntmps14
  go_wp2_with (first
    | (go_at_call 22; (with_reducible refine (H2.out _).mono ?_); rintro r w1 ⟨rfl, hb⟩
       (have L0 : Hid (w1.heap[w.heap.size]? = some rpz) := lies_below L0.out hb (lies_lt L0.out))
       (have k0 : Hid (Below w.heap.size w w1) := k0.out.trans (hb.mono k0.out.size))
       (obtain ⟨c0, c1, c2, c3, c4, c5, c6, c7⟩ := cells8 L0.out)
       (have f0 := lies_frozen L0.out 0)
       (have f1 := lies_frozen L0.out 1)
       (have f2 := lies_frozen L0.out 2)
       (have f3 := lies_frozen L0.out 3)
       (have f4 := lies_frozen L0.out 4)
       (have f5 := lies_frozen L0.out 5)
       (have f6 := lies_frozen L0.out 6)
       (have f7 := lies_frozen L0.out 7)
       (clear hb))
    | (go_at_call 22; (with_reducible refine (H6.out _).mono ?_); rintro r w2 ⟨rfl, hb⟩
       (have L0 : Hid (w2.heap[w.heap.size]? = some rpz) := lies_below L0.out hb (lies_lt L0.out))
       (have k0 : Hid (Below w.heap.size w w2) := k0.out.trans (hb.mono k0.out.size))
       (obtain ⟨c0, c1, c2, c3, c4, c5, c6, c7⟩ := cells8 L0.out)
       (have f0 := lies_frozen L0.out 0)
       (have f1 := lies_frozen L0.out 1)
       (have f2 := lies_frozen L0.out 2)
       (have f3 := lies_frozen L0.out 3)
       (have f4 := lies_frozen L0.out 4)
       (have f5 := lies_frozen L0.out 5)
       (have f6 := lies_frozen L0.out 6)
       (have f7 := lies_frozen L0.out 7)
       (clear hb)))
  (try simp only [Exit.inBlock, Exit.then])
  obtain ⟨kk0, kk1, kk2, kk3, kk4, kk5, kk6, kk7, E8⟩ := read_8 (y0 := .int .i64 0) (y1 := .bool false) (y2 := .int .i64 0) (y3 := .int .i64 0) (y4 := .int .i64 0) (y5 := .string ⟨#[]⟩) (y6 := .string ⟨#[]⟩) (y7 := .string ⟨#[]⟩) L0.out
  refine bodyPost_ret (by simp [results, Try.results14, go_sem, kk0, kk1, kk2, kk3, kk4, kk5, kk6, kk7]; try rfl) rfl ?_
  exact ⟨rfl, below_8 k0.out (Nat.le_refl _) _ _ _ _ _ _ _ _⟩

end Go.Proofs.Ytneiemaepdknjaa
