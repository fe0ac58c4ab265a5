/- Contracts of Encode: a datagram's bytes, or why there are none; the chapter's example (awake). -/
import Derived.Test.YtpecmpepnfgnoaaWr
namespace Go.Proofs.Ytpecmpepnfgnoaa
open Go.RowKit Go.Proofs.PitotIp Go.Proofs.PitotUdp
open Go.Proofs.PitotAddr (hi lo)
open Go.Proofs.Ytpecmpepnfgnoaa.Bi (WrAt lies_lt lies_cell lies_frozen lies_alloc)

theorem mod_in {x : Int} (h1 : 0 ≤ x) (h2 : x ≤ 65535) : (x % 65536 == x) = true := by
  rw [beq_iff_eq]; omega
theorem mod_out {x : Int} (h : ¬ (0 ≤ x ∧ x ≤ 65535)) : (x % 65536 == x) = false := by
  rw [beq_eq_false_iff_ne]; omega

set_option maxRecDepth 100000 in
set_option maxHeartbeats 2000000 in
theorem encode_arg (a b : Q4) (f t : Int) (s : ByteArray) (w : World) (h : ¬ ((0 ≤ f ∧ f ≤ 65535) ∧ (0 ≤ t ∧ t ≤ 65535))) :
    Calls Try.prog 10 #[en a b f t, .string s] w fun e w' => e = .returned (.tuple #[.string ⟨#[]⟩, .int .i64 1]) ∧ Below w.heap.size w w' := by
  have hc : (f % 65536 == f) = false ∨ ((f % 65536 == f) = true ∧ (t % 65536 == t) = false) := by
    by_cases hf : 0 ≤ f ∧ f ≤ 65535
    · exact .inr ⟨mod_in hf.1 hf.2, mod_out fun ht => h ⟨hf, ht⟩⟩
    · exact .inl (mod_out hf)
  clear h
  have H16 := carried_any a b f t
  have L0 : Hid ((w.alloc (enC a b f t)).drew.heap[w.heap.size]? = some (enC a b f t)) := heap_alloc_new w _
  have k0 : Hid (Below w.heap.size w (w.alloc (enC a b f t)).drew) := ((Below.refl _ w).alloc (Nat.le_refl _) _).drew
  obtain ⟨f', Hf⟩ : ∃ f', Hid (f' = f % 65536) := ⟨_, rfl⟩
  obtain ⟨t', Ht⟩ : ∃ t', Hid (t' = t % 65536) := ⟨_, rfl⟩
  rw [← Hf.out, ← Ht.out] at H16 hc
  have H16 := Lib.hid H16
  have hsa := same9 a
  have hsb := same9 b
  rcases hc with h1 | ⟨h1, h2⟩
  all_goals
    go_enter Try.func10, Try.ntmps10
    go_upto_region 1 with fail
    go_region_held3 (fun w' => w'.cell? ⟨w.heap.size, 0, none⟩ = some (.int .u8 a.a.toNat) ∧ w'.cell? ⟨w.heap.size, 1, none⟩ = some (.int .u8 a.b.toNat) ∧ w'.cell? ⟨w.heap.size, 2, none⟩ = some (.int .u8 a.c.toNat) ∧ w'.cell? ⟨w.heap.size, 3, none⟩ = some (.int .u8 a.d.toNat) ∧ w'.cell? ⟨w.heap.size, 4, none⟩ = some (.int .u8 b.a.toNat) ∧ w'.cell? ⟨w.heap.size, 5, none⟩ = some (.int .u8 b.b.toNat) ∧ w'.cell? ⟨w.heap.size, 6, none⟩ = some (.int .u8 b.c.toNat) ∧ w'.cell? ⟨w.heap.size, 7, none⟩ = some (.int .u8 b.d.toNat) ∧ w'.cell? ⟨w.heap.size, 8, none⟩ = some (.int .i64 f) ∧ w'.cell? ⟨w.heap.size, 9, none⟩ = some (.int .i64 t))
      (with_reducible exact cells10 L0.out)
      (first
        | (go_at_call 16; (with_reducible refine (H16.out _).mono ?_); rintro r w1 ⟨rfl, hb⟩
           (have L0 : Hid (w1.heap[w.heap.size]? = some (enC a b f t)) := lies_below L0.out hb (lies_lt L0.out))
           (have k0 : Hid (Below w.heap.size w w1) := k0.out.trans (hb.mono k0.out.size))
           (clear hb)))
    all_goals
      go_wp2
      go_returns
      exact ⟨rfl, k0.out⟩

/-- Ends that may be, with ports from 0 to 65535. -/
theorem carried_in (a b : Q4) (f t : Nat) (hf : f < 65536) (ht : t < 65536) (w : World) : Calls Try.prog 16 #[en a b f t] w fun e w' => e = .returned (en a b f t) ∧ Below w.heap.size w w' := by
  have := carried_any a b f t w
  rw [show (f : Int) % 65536 = f by omega, show (t : Int) % 65536 = t by omega] at this
  exact this

set_option maxRecDepth 100000 in
set_option maxHeartbeats 2000000 in
theorem encode_long (a b : Q4) (f t : Nat) (s : ByteArray) (w : World) (hf : f < 65536) (ht : t < 65536) (hs : 8192 < s.size) (hm : s.size ≤ 9223372036854775807) :
    Calls Try.prog 10 #[en a b f t, .string s] w fun e w' => e = .returned (.tuple #[.string ⟨#[]⟩, .int .i64 11]) ∧ Below w.heap.size w w' := by
  have H16 := Lib.hid (carried_in a b f t hf ht)
  have L0 : Hid ((w.alloc (enC a b f t)).drew.heap[w.heap.size]? = some (enC a b f t)) := heap_alloc_new w _
  have k0 : Hid (Below w.heap.size w (w.alloc (enC a b f t)).drew) := ((Below.refl _ w).alloc (Nat.le_refl _) _).drew
  have hsa := same9 a
  have hsb := same9 b
  clear hf ht
  go_enter Try.func10, Try.ntmps10
  go_upto_region 1 with fail
  go_region_held3 (fun w' => w'.cell? ⟨w.heap.size, 0, none⟩ = some (.int .u8 a.a.toNat) ∧ w'.cell? ⟨w.heap.size, 1, none⟩ = some (.int .u8 a.b.toNat) ∧ w'.cell? ⟨w.heap.size, 2, none⟩ = some (.int .u8 a.c.toNat) ∧ w'.cell? ⟨w.heap.size, 3, none⟩ = some (.int .u8 a.d.toNat) ∧ w'.cell? ⟨w.heap.size, 4, none⟩ = some (.int .u8 b.a.toNat) ∧ w'.cell? ⟨w.heap.size, 5, none⟩ = some (.int .u8 b.b.toNat) ∧ w'.cell? ⟨w.heap.size, 6, none⟩ = some (.int .u8 b.c.toNat) ∧ w'.cell? ⟨w.heap.size, 7, none⟩ = some (.int .u8 b.d.toNat) ∧ w'.cell? ⟨w.heap.size, 8, none⟩ = some (.int .i64 f) ∧ w'.cell? ⟨w.heap.size, 9, none⟩ = some (.int .i64 t))
    (with_reducible exact cells10 L0.out)
    (first
      | (go_at_call 16; (with_reducible refine (H16.out _).mono ?_); rintro r w1 ⟨rfl, hb⟩
         (have L0 : Hid (w1.heap[w.heap.size]? = some (enC a b f t)) := lies_below L0.out hb (lies_lt L0.out))
         (have k0 : Hid (Below w.heap.size w w1) := k0.out.trans (hb.mono k0.out.size))
         (clear hb)))
  all_goals
    go_wp2
    go_returns
    exact ⟨rfl, k0.out⟩

/-- A datagram that may be. -/
structure MayBe (f t : Nat) (s : ByteArray) : Prop where
  f : f < 65536
  t : t < 65536
  d : s.size ≤ 8192
/-- Its bytes. -/
def outB (a b : Q4) (f t : Nat) (s : ByteArray) : ByteArray := ⟨(PitotUdp.bytes a b f t s.data.toList).toArray⟩
theorem outB_list (a b : Q4) (f t : Nat) (s : ByteArray) : (outB a b f t s).data.toList = PitotUdp.bytes a b f t s.data.toList := by simp [outB]
theorem outB_size (a b : Q4) (f t : Nat) (s : ByteArray) : (outB a b f t s).size = 8 + s.size := by
  rw [size_toList, outB_list, PitotUdp.bytes_length, ← size_toList]

abbrev wrz : Obj := .cells #[.pointer none, .string ⟨#[]⟩, .bool false] 53
theorem wr_fresh (X : World) : WrAt (X.alloc wrz) X.heap.size 0 (some []) := wr_new (heap_alloc_new X _)

set_option maxRecDepth 100000 in
set_option maxHeartbeats 4000000 in
theorem encode_ok (a b : Q4) (f t : Nat) (s : ByteArray) (w : World) (h : MayBe f t s) :
    Calls Try.prog 10 #[en a b f t, .string s] w fun e w' => e = .returned (.tuple #[.string (outB a b f t s), .int .i64 0]) ∧ Below w.heap.size w w' := by
  obtain ⟨hf, ht, hd⟩ := h
  obtain ⟨R, HR⟩ : ∃ R, Hid (R = outB a b f t s) := ⟨_, rfl⟩
  rw [← HR.out]
  have H16 := Lib.hid (carried_in a b f t hf ht)
  obtain ⟨S, HS⟩ : ∃ S, Hid (S = PitotUdp.sumOf a b ((dg (8 + s.size) f t 0).list ++ s.data.toList)) := ⟨_, rfl⟩
  have hS : S < 65536 := by have := sumOf_le a b ((dg (8 + s.size) f t 0).list ++ s.data.toList); rw [HS.out]; omega
  have H17 := sumOf_any a b f t s hf ht (by omega)
  rw [← HS.out] at H17
  obtain ⟨K, HK⟩ : ∃ K : List UInt8, Hid (K = ([] : List UInt8) ++ (dg (8 + s.size) f t S).list ++ s.data.toList) := ⟨_, rfl⟩
  have hKR : Hid (R = ⟨K.toArray⟩) := by
    show _ = _
    rw [HR.out, HK.out, HS.out]
    simp [outB, PitotUdp.bytes, dgOk]
  have hKl : K.length = 8 + s.size := by rw [HK.out, List.nil_append, List.length_append, D8.list_length, ← size_toList]
  have H18 := fun g w h hg => write_any a b f t S s hf ht hS (by omega) g 0 [] K (by simp) HK.out w h hg
  have H19 : ∀ g X, WrAt X g (0 + 5) (some K) → Calls Try.prog 19 #[.pointer (some ⟨g, 0, none⟩)] X fun e w' => e = .returned (.tuple #[.string R, .int .i64 0]) ∧ Below X.heap.size X w' := fun g X h => by
    rw [hKR.out]; exact Bi.bytes_any g _ K X h (by omega) (by omega)
  have H17 := Lib.hid H17; have H18 := Lib.hid H18; have H19 := Lib.hid H19
  have L0 : Hid ((w.alloc (enC a b f t)).drew.heap[w.heap.size]? = some (enC a b f t)) := heap_alloc_new w _
  have k0 : Hid (Below w.heap.size w (w.alloc (enC a b f t)).drew) := ((Below.refl _ w).alloc (Nat.le_refl _) _).drew
  have hsa := same9 a
  have hsb := same9 b
  clear hf ht hKl hS
  go_enter Try.func10, Try.ntmps10
  go_upto_region 1 with fail
  go_region_held3 (fun w' => w'.cell? ⟨w.heap.size, 0, none⟩ = some (.int .u8 a.a.toNat) ∧ w'.cell? ⟨w.heap.size, 1, none⟩ = some (.int .u8 a.b.toNat) ∧ w'.cell? ⟨w.heap.size, 2, none⟩ = some (.int .u8 a.c.toNat) ∧ w'.cell? ⟨w.heap.size, 3, none⟩ = some (.int .u8 a.d.toNat) ∧ w'.cell? ⟨w.heap.size, 4, none⟩ = some (.int .u8 b.a.toNat) ∧ w'.cell? ⟨w.heap.size, 5, none⟩ = some (.int .u8 b.b.toNat) ∧ w'.cell? ⟨w.heap.size, 6, none⟩ = some (.int .u8 b.c.toNat) ∧ w'.cell? ⟨w.heap.size, 7, none⟩ = some (.int .u8 b.d.toNat) ∧ w'.cell? ⟨w.heap.size, 8, none⟩ = some (.int .i64 f) ∧ w'.cell? ⟨w.heap.size, 9, none⟩ = some (.int .i64 t))
    (with_reducible exact cells10 L0.out)
    (first
      | (go_at_call 16; (with_reducible refine (H16.out _).mono ?_); rintro r w1 ⟨rfl, hb⟩
         (have L0 : Hid (w1.heap[w.heap.size]? = some (enC a b f t)) := lies_below L0.out hb (lies_lt L0.out))
         (have k0 : Hid (Below w.heap.size w w1) := k0.out.trans (hb.mono k0.out.size))
         (clear hb)))
  all_goals
    obtain ⟨c0, c1, c2, c3, c4, c5, c6, c7, c8, c9⟩ := cells10 L0.out
    go_wp2_with (first
      | (go_at_call 17; (with_reducible refine (H17.out _).mono ?_); rintro r w2 ⟨rfl, hb⟩
         (have L2 : w2.heap[w.heap.size]? = some (enC a b f t) := lies_below L0.out hb (lies_lt L0.out))
         (have k2 : Hid (Below w.heap.size w w2) := k0.out.trans (hb.mono k0.out.size))
         (obtain ⟨d0, d1, d2, d3, d4, d5, d6, d7, d8, d9⟩ := cells10 (lies_alloc L2 wrz))
         (have k3 : Hid (Below w.heap.size w (w2.alloc wrz)) := k2.out.alloc k2.out.size _)
         (clear hb L2))
      | (go_at_call 18; (with_reducible refine (H18.out w2.heap.size (w2.alloc wrz) (wr_fresh w2) (by simp)).mono ?_); rintro r w3 ⟨rfl, hw3, hg3⟩
         (have W3 := Lib.hid hw3)
         (have k4 : Hid (Below w.heap.size w w3) := k3.out.grown hg3 k3.out.size (fun k e => by cases e; exact k2.out.size))
         (clear hw3 hg3))
      | (go_at_call 19; (with_reducible refine (H19.out _ _ W3.out).mono ?_); rintro r w4 ⟨rfl, hb4⟩))
    go_returns
    exact ⟨rfl, k4.out.trans (hb4.mono k4.out.size)⟩

/-- What Encode answers to any ends and data. -/
theorem enc_cases (a b : Q4) (f t : Int) (s : ByteArray) (hm : s.size ≤ 9223372036854775807) :
    (∃ e : Int, e ≠ 0 ∧ (e = 1 ∨ e = 11) ∧ ∀ w, Calls Try.prog 10 #[en a b f t, .string s] w fun r w' => r = .returned (.tuple #[.string ⟨#[]⟩, .int .i64 e]) ∧ Below w.heap.size w w') ∨
    ∃ f' t' : Nat, f = f' ∧ t = t' ∧ MayBe f' t' s := by
  by_cases h : (0 ≤ f ∧ f ≤ 65535) ∧ (0 ≤ t ∧ t ≤ 65535)
  · obtain ⟨f', rfl⟩ := Int.eq_ofNat_of_zero_le h.1.1
    obtain ⟨t', rfl⟩ := Int.eq_ofNat_of_zero_le h.2.1
    by_cases hs : s.size ≤ 8192
    · exact .inr ⟨f', t', rfl, rfl, by omega, by omega, hs⟩
    · exact .inl ⟨11, by omega, .inr rfl, fun w => encode_long a b f' t' s w (by omega) (by omega) (by omega) hm⟩
  · exact .inl ⟨1, by omega, .inl rfl, fun w => encode_arg a b f t s w h⟩

def q0 : Q4 := ⟨0, 0, 0, 0⟩
set_option maxRecDepth 100000 in
set_option maxHeartbeats 1000000 in
theorem awake_any (w : World) : Calls Try.prog 9 #[] w fun e w' => e = .returned (.bool true) ∧ Below w.heap.size w w' := by
  obtain ⟨B, HB⟩ : ∃ B, Hid (B = outB q0 q0 1 2 ⟨#[104, 105]⟩) := ⟨_, rfl⟩
  have hB : B.size = 10 := by rw [HB.out, outB_size]; rfl
  have H1 : ∀ w, Calls Try.prog 10 #[en q0 q0 1 2, .string ⟨#[104, 105]⟩] w fun e w' => e = .returned (.tuple #[.string B, .int .i64 0]) ∧ Below w.heap.size w w' := fun w => by
    rw [HB.out]; exact encode_ok q0 q0 1 2 ⟨#[104, 105]⟩ w ⟨by omega, by omega, by show (2 : Nat) ≤ _; omega⟩
  have H1 := Lib.hid H1
  go_enter Try.func9, Try.ntmps9
  go_wp2_with (first
    | (go_at_call 10; (refine (H1.out _).mono ?_); rintro e w1 ⟨rfl, hb1⟩))
  go_returns
  exact ⟨rfl, hb1⟩
end Go.Proofs.Ytpecmpepnfgnoaa
