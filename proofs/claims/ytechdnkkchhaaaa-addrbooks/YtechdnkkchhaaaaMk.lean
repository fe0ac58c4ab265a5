/- An address as the key of a map: what it is told as, and that every key is one. -/
import Derived.Test.YtechdnkkchhaaaaVl
import Derived.Maps.RangeWalk
import Derived.WideKeyArr
set_option maxRecDepth 100000
namespace Go.Proofs.Ytechdnkkchhaaaa
open Go.RowKit Go.Proofs.PitotAddr Go.Maps

theorem arr23 : WideMaps.ArrKey Try.prog 23 5 6 := ⟨Try.underlying23, by kernel_rfl, by kernel_rfl, by kernel_rfl⟩
theorem law23 : Keyed Try.prog 23 := Keyed.of_law arr23.law
theorem zero3 (w : World) : (zeroValue 3).run Try.prog w = .ok (.int .i64 0) w := by kernel_rfl

/-- The value of an address. -/
abbrev M6.val (m : M6) : Value := mac m.a m.b m.c m.d m.e m.f
/-- What it is told as. -/
abbrev kl (m : M6) : Lit := .string m.bytes
theorem kl_inj {m n : M6} (h : kl m = kl n) : m = n := M6.bytes_inj (by simpa using h)
theorem kl_key (m : M6) : WideAt.IsKeyLit (kl m) := trivial

theorem wf_byte (a : UInt8) : (Lit.int .u8 (a.toNat : Int)).wf = true := by
  have := a.toNat_lt
  simp [Lit.wf, IntKind.min, IntKind.max, IntKind.signed, IntKind.bits]
  omega
theorem byte_lit (a : UInt8) : Lit.keyBytes (.int .u8 (a.toNat : Int)) = [a] := by
  have := a.toNat_lt
  show bytesBE 1 (((a.toNat : Int) % 256).toNat) = [a]
  have e : ((a.toNat : Int) % 256).toNat = a.toNat := by omega
  rw [e]
  show [UInt8.ofNat (a.toNat % 256)] = [a]
  rw [Nat.mod_eq_of_lt (by omega)]
  simp

theorem lits1 (D : Nat) (a : UInt8) : Try.prog.keyLits (D + 1) 5 [.int .u8 a.toNat] = some [.int .u8 a.toNat] := by
  unfold Program.keyLits
  rw [Try.underlying5]
  simp only
  rw [if_pos ⟨trivial, wf_byte a⟩]

theorem key_mac (m : M6) : keyOf Try.prog 23 (M6.val m) = some (kl m) := by
  obtain ⟨a, b, c, d, e, f⟩ := m
  obtain ⟨m0, hm0⟩ : ∃ m0, Try.prog.types.size = m0 + 1 := ⟨Try.prog.types.size - 1, by have : 0 < Try.prog.types.size := of_decide_eq_true (by kernel_rfl); omega⟩
  have hkt := arr23.keyType ⟨m0, hm0⟩
  unfold keyOf
  simp only [Try.underlying23]
  rw [if_pos (by simp [hkt, Value.formed, Try.underlying23, arr23.size]), hm0]
  unfold Program.keyLits
  simp only [Try.underlying23, Value.cells, arr23.one]
  rw [if_pos (by rw [arr23.size]; rfl)]
  simp only [List.range, List.range.loop, List.mapM_cons, List.mapM_nil, Nat.zero_mul, Nat.one_mul, Nat.reduceMul, List.drop_zero, List.drop_succ_cons, List.take_succ_cons, List.take_zero]
  simp only [lits1]
  simp [keyBytes, byte_lit, M6.bytes]

theorem lits1_inv {D : Nat} {v : Value} {L : List Lit} (h : Try.prog.keyLits (D + 1) 5 [v] = some L) : ∃ a : UInt8, v = .int .u8 a.toNat := by
  unfold Program.keyLits at h
  rw [Try.underlying5] at h
  cases v <;> simp at h
  rename_i q n
  obtain ⟨⟨rfl, hw⟩, _⟩ := h
  have := bounds_u8 hw
  exact ⟨UInt8.ofNat n.toNat, by simp; omega⟩

theorem mac_key {v : Value} {l : Lit} (h : keyOf Try.prog 23 v = some l) : ∃ m : M6, v = M6.val m ∧ l = kl m := by
  obtain ⟨m0, hm0⟩ : ∃ m0, Try.prog.types.size = m0 + 1 := ⟨Try.prog.types.size - 1, by have : 0 < Try.prog.types.size := of_decide_eq_true (by kernel_rfl); omega⟩
  obtain ⟨xs, L, rfl, hL, _⟩ := keyOf_top arr23.wide h
  rw [hm0] at hL
  unfold Program.keyLits at hL
  simp only [Try.underlying23, arr23.one, arr23.size] at hL
  split at hL
  · rename_i hlen
    obtain ⟨ys, hys, _⟩ := Option.map_eq_some_iff.1 hL
    obtain ⟨l⟩ := xs
    match l, hlen with
    | [x0, x1, x2, x3, x4, x5], _ =>
      simp only [List.range, List.range.loop, List.mapM_cons, List.mapM_nil, Nat.zero_mul, Nat.one_mul, Nat.reduceMul, List.drop_zero, List.drop_succ_cons, List.take_succ_cons, List.take_zero, Option.bind_eq_bind, Option.bind_eq_some_iff] at hys
      obtain ⟨y0, h0, r0, g0, _⟩ := hys
      obtain ⟨y1, h1, r1, g1, _⟩ := g0
      obtain ⟨y2, h2, r2, g2, _⟩ := g1
      obtain ⟨y3, h3, r3, g3, _⟩ := g2
      obtain ⟨y4, h4, r4, g4, _⟩ := g3
      obtain ⟨y5, h5, r5, g5, _⟩ := g4
      obtain ⟨a, rfl⟩ := lits1_inv h0
      obtain ⟨b, rfl⟩ := lits1_inv h1
      obtain ⟨c, rfl⟩ := lits1_inv h2
      obtain ⟨d, rfl⟩ := lits1_inv h3
      obtain ⟨e, rfl⟩ := lits1_inv h4
      obtain ⟨f, rfl⟩ := lits1_inv h5
      have hk := key_mac ⟨a, b, c, d, e, f⟩
      refine ⟨⟨a, b, c, d, e, f⟩, rfl, ?_⟩
      have h' : keyOf Try.prog 23 (M6.val ⟨a, b, c, d, e, f⟩) = some _ := h
      rw [hk] at h'
      exact (Option.some.inj h').symm
  · cases hL
end Go.Proofs.Ytechdnkkchhaaaa
