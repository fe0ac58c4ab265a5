/- A packet's Key as the key of a map: what it is told as, and that no two are told as the same. -/
import Derived.Test.YtgdjcoodjdckkaaProg
import Derived.Test.YtgdjcoodjdckkaaIpMath
import Derived.Maps.RangeWalk
import Derived.DeepKeys3
set_option maxRecDepth 100000
namespace Go.Proofs.Ytgdjcoodjdckkaa
open Go.RowKit Go.Proofs.PitotIp Go.Maps

/-- A Key. -/
structure K where
  a : Q4
  b : Q4
  pr : Int
  id : Int
  hp : (Lit.int .i64 pr).wf = true
  hi : (Lit.int .i64 id).wf = true
deriving DecidableEq
abbrev K.val (k : K) : Value := .agg #[.int .u8 k.a.a.toNat, .int .u8 k.a.b.toNat, .int .u8 k.a.c.toNat, .int .u8 k.a.d.toNat, .int .u8 k.b.a.toNat, .int .u8 k.b.b.toNat, .int .u8 k.b.c.toNat, .int .u8 k.b.d.toNat, .int .i64 k.pr, .int .i64 k.id]
abbrev K.enc (k : K) : List Value := [.int .u8 k.a.a.toNat, .int .u8 k.a.b.toNat, .int .u8 k.a.c.toNat, .int .u8 k.a.d.toNat, .int .u8 k.b.a.toNat, .int .u8 k.b.b.toNat, .int .u8 k.b.c.toNat, .int .u8 k.b.d.toNat, .int .i64 k.pr, .int .i64 k.id]

theorem u8_inj {x y : UInt8} (h : (x.toNat : Int) = y.toNat) : x = y := UInt8.toNat_inj.1 (by omega)
theorem K.val_inj {x y : K} (h : x.val = y.val) : x = y := by
  obtain ⟨⟨a, b, c, d⟩, ⟨e, f, g, h'⟩, p, i, hp, hi⟩ := x
  obtain ⟨⟨a', b', c', d'⟩, ⟨e', f', g', h''⟩, p', i', hp', hi'⟩ := y
  simp only [K.val, Value.agg.injEq, Array.mk.injEq, List.cons.injEq, Value.int.injEq, true_and, and_true] at h
  obtain ⟨h1, h2, h3, h4, h5, h6, h7, h8, h9, h10⟩ := h
  obtain rfl := u8_inj h1; obtain rfl := u8_inj h2; obtain rfl := u8_inj h3; obtain rfl := u8_inj h4
  obtain rfl := u8_inj h5; obtain rfl := u8_inj h6; obtain rfl := u8_inj h7; obtain rfl := u8_inj h8
  subst h9; subst h10
  rfl

theorem wf_byte (a : UInt8) : (Lit.int .u8 (a.toNat : Int)).wf = true := by
  have := a.toNat_lt
  simp [Lit.wf, IntKind.min, IntKind.max, IntKind.signed, IntKind.bits]
  omega
theorem wide52 : (match Try.prog.underlying 52 with | some (.array _ _) | some (.struct _) => true | _ => false) = true := by kernel_rfl
theorem law52 : Keyed Try.prog 52 := Keyed.of_law (deep_law (m := 3) (by omega) (by kernel_rfl) (by kernel_rfl) wide52)

theorem lits5 (D : Nat) (a : UInt8) : Try.prog.keyLits (D + 1) 5 [.int .u8 a.toNat] = some [.int .u8 a.toNat] := by
  unfold Program.keyLits
  rw [Try.underlying5]
  simp only
  rw [if_pos ⟨trivial, wf_byte a⟩]
theorem lits3 (D : Nat) (x : Int) (h : (Lit.int .i64 x).wf = true) : Try.prog.keyLits (D + 1) 3 [.int .i64 x] = some [.int .i64 x] := by
  unfold Program.keyLits
  rw [Try.underlying3]
  simp only
  rw [if_pos ⟨trivial, h⟩]
theorem cells5 : Try.prog.cellsOf 5 = 1 := by kernel_rfl
theorem cells3 : Try.prog.cellsOf 3 = 1 := by kernel_rfl
theorem cells32' : Try.prog.cellsOf 32 = 4 := by kernel_rfl
theorem cells52 : Try.prog.cellsOf 52 = 10 := by kernel_rfl
theorem lits32 (D : Nat) (q : Q4) : Try.prog.keyLits (D + 2) 32 [.int .u8 q.a.toNat, .int .u8 q.b.toNat, .int .u8 q.c.toNat, .int .u8 q.d.toNat] = some [.int .u8 q.a.toNat, .int .u8 q.b.toNat, .int .u8 q.c.toNat, .int .u8 q.d.toNat] := by
  unfold Program.keyLits
  rw [Try.underlying32]
  simp only [cells5, cells32', List.length_cons, List.length_nil, if_true]
  simp only [List.range, List.range.loop, List.mapM_cons, List.mapM_nil, Nat.zero_mul, Nat.one_mul, Nat.reduceMul, List.drop_zero, List.drop_succ_cons, List.take_succ_cons, List.take_zero]
  simp only [lits5]
  simp
theorem key_some (k : K) : ∃ l, keyOf Try.prog 52 k.val = some l := by
  obtain ⟨m0, hm0⟩ : ∃ m0, Try.prog.types.size = m0 + 2 := ⟨Try.prog.types.size - 2, by have : 1 < Try.prog.types.size := of_decide_eq_true (by kernel_rfl); omega⟩
  have hkt : Try.prog.keyType 52 = true := by kernel_rfl
  unfold keyOf
  simp only [Try.underlying52]
  rw [if_pos (by simp [hkt, Value.formed, Try.underlying52, cells52]), hm0]
  unfold Program.keyLits
  simp only [Try.underlying52, Value.cells, cells52]
  rw [if_pos ⟨rfl, by kernel_rfl⟩]
  simp only [List.mapM_cons, List.mapM_nil, cells32', cells3, List.drop_zero, List.drop_succ_cons, List.take_succ_cons, List.take_zero]
  simp only [lits32, lits3 _ _ k.hp, lits3 _ _ k.hi]
  simp
/-- What a Key is told as. -/
noncomputable def kl (k : K) : Lit := (key_some k).choose
theorem key_kl (k : K) : keyOf Try.prog 52 k.val = some (kl k) := (key_some k).choose_spec
theorem kl_inj {x y : K} (h : kl x = kl y) : x = y := K.val_inj (law52.inj (key_kl x) (h ▸ key_kl y))
theorem kl_key (k : K) : WideAt.IsKeyLit (kl k) := law52.key (key_kl k)
end Go.Proofs.Ytgdjcoodjdckkaa
