/- Contract of the function that All hands to slices.SortFunc. -/
import Derived.Test.YtechdnkkchhaaaaCl
import Derived.Deep.RegionHeld3
set_option maxRecDepth 100000
namespace Go.Proofs.Ytechdnkkchhaaaa
open Go.RowKit Go.Proofs.PitotAddr Go.Shelf Go.Lib Go.Sort

theorem load_bytes (W : World) (g : Nat) (a b c d e f : UInt8)
    (h0 : W.cell? ⟨g, 0, none⟩ = some (.int .u8 a.toNat)) (h1 : W.cell? ⟨g, 1, none⟩ = some (.int .u8 b.toNat)) (h2 : W.cell? ⟨g, 2, none⟩ = some (.int .u8 c.toNat)) (h3 : W.cell? ⟨g, 3, none⟩ = some (.int .u8 d.toNat)) (h4 : W.cell? ⟨g, 4, none⟩ = some (.int .u8 e.toNat)) (h5 : W.cell? ⟨g, 5, none⟩ = some (.int .u8 f.toNat)) :
    (Extern.Bytes.bytesOf (.slice (some ⟨g, 0, none⟩) 6 6)).run Try.prog W = .ok ⟨#[a, b, c, d, e, f]⟩ W := by
  have A : ∀ i, (⟨g, i, none⟩ : Addr).add 1 = ⟨g, i + 1, none⟩ := fun i => rfl
  have ld : ∀ {i : Nat} {x : UInt8}, W.cell? ⟨g, i, none⟩ = some (.int .u8 x.toNat) → (load ⟨g, i, none⟩).run Try.prog W = .ok (.int .u8 x.toNat) W := fun h => by
    simp [go_sem, h]
  simp only [Extern.Bytes.bytesOf, Extern.Bytes.loadBytes, Sem.run_bind, Sem.run_pure, A, ld h0, ld h1, ld h2, ld h3, ld h4, ld h5, Result.andThen_ok, Nat.zero_add, Nat.reduceAdd]
  simp
  rfl

theorem compare_any (W : World) (g g' : Nat) (x y : M6) (h : W.heap[g]? = some (.cells #[.int .u8 x.a.toNat, .int .u8 x.b.toNat, .int .u8 x.c.toNat, .int .u8 x.d.toNat, .int .u8 x.e.toNat, .int .u8 x.f.toNat] 23)) (h' : W.heap[g']? = some (.cells #[.int .u8 y.a.toNat, .int .u8 y.b.toNat, .int .u8 y.c.toNat, .int .u8 y.d.toNat, .int .u8 y.e.toNat, .int .u8 y.f.toNat] 23)) :
    (callFunc 54 #[.slice (some ⟨g, 0, none⟩) 6 6, .slice (some ⟨g', 0, none⟩) 6 6]).run Try.prog W = .ok (.value (.int .i64 (cmpM x y))) W := by
  have hc := run_callFunc_extern (P := Try.prog) (f := 54) (fn := Try.f54) (e := Extern.BytealgCompare.compare) Try.func54 (by kernel_rfl) (by kernel_rfl) (by kernel_rfl) (by kernel_rfl) #[.slice (some ⟨g, 0, none⟩) 6 6, .slice (some ⟨g', 0, none⟩) 6 6] W
  rw [hc]
  obtain ⟨i0, i1, i2, i3, i4, i5⟩ := six h
  obtain ⟨j0, j1, j2, j3, j4, j5⟩ := six h'
  have b1 := load_bytes W g _ _ _ _ _ _ i0 i1 i2 i3 i4 i5
  have b2 := load_bytes W g' _ _ _ _ _ _ j0 j1 j2 j3 j4 j5
  have e : Extern.BytealgCompare.cmp ⟨#[x.a, x.b, x.c, x.d, x.e, x.f]⟩ ⟨#[y.a, y.b, y.c, y.d, y.e, y.f]⟩ = cmpM x y := cmp_bytes x y
  change ((Sem.run Try.prog (do pure (goInt (Extern.BytealgCompare.cmp (← Extern.Bytes.bytesOf (.slice (some ⟨g, 0, none⟩) 6 6)) (← Extern.Bytes.bytesOf (.slice (some ⟨g', 0, none⟩) 6 6))))) W).andThen _) = _
  simp only [Sem.run_bind, b1, b2, Result.andThen_ok, Sem.run_pure, e]
  rfl

theorem bytesCompare_any (W : World) (g g' : Nat) (x y : M6) (h : W.heap[g]? = some (.cells #[.int .u8 x.a.toNat, .int .u8 x.b.toNat, .int .u8 x.c.toNat, .int .u8 x.d.toNat, .int .u8 x.e.toNat, .int .u8 x.f.toNat] 23)) (h' : W.heap[g']? = some (.cells #[.int .u8 y.a.toNat, .int .u8 y.b.toNat, .int .u8 y.c.toNat, .int .u8 y.d.toNat, .int .u8 y.e.toNat, .int .u8 y.f.toNat] 23)) :
    Calls Try.prog 50 #[.slice (some ⟨g, 0, none⟩) 6 6, .slice (some ⟨g', 0, none⟩) 6 6] W fun r w' => r = .returned (.int .i64 (cmpM x y)) ∧ w' = W := by
  have hc := compare_any W g g' x y h h'
  obtain ⟨C, HC⟩ : ∃ C, Hid (C = cmpM x y) := ⟨_, rfl⟩
  rw [← HC.out] at hc ⊢
  clear h h'
  go_enter Try.func50, Try.ntmps50
  go_wp2
  go_returns
  exact ⟨rfl, rfl⟩

set_option maxHeartbeats 1000000 in
theorem closure_any (x y : M6) (W : World) : Calls Try.prog 49 #[M6.val x, M6.val y] W fun r w' => r = .returned (.int .i64 (cmpM x y)) ∧ ∃ q os', w' = grow (W.drewN q) os' := by
  have hb : ∀ q, Calls Try.prog 50 #[.slice (some ⟨W.heap.size, 0, none⟩) 6 6, .slice (some ⟨W.heap.size + 1, 0, none⟩) 6 6] (((W.alloc (.cells #[.int .u8 x.a.toNat, .int .u8 x.b.toNat, .int .u8 x.c.toNat, .int .u8 x.d.toNat, .int .u8 x.e.toNat, .int .u8 x.f.toNat] 23)).alloc (.cells #[.int .u8 y.a.toNat, .int .u8 y.b.toNat, .int .u8 y.c.toNat, .int .u8 y.d.toNat, .int .u8 y.e.toNat, .int .u8 y.f.toNat] 23)).drewN q) fun r w' => r = .returned (.int .i64 (cmpM x y)) ∧ w' = ((W.alloc (.cells #[.int .u8 x.a.toNat, .int .u8 x.b.toNat, .int .u8 x.c.toNat, .int .u8 x.d.toNat, .int .u8 x.e.toNat, .int .u8 x.f.toNat] 23)).alloc (.cells #[.int .u8 y.a.toNat, .int .u8 y.b.toNat, .int .u8 y.c.toNat, .int .u8 y.d.toNat, .int .u8 y.e.toNat, .int .u8 y.f.toNat] 23)).drewN q := fun q => by
    refine bytesCompare_any _ _ _ x y (lies_alloc (heap_alloc_new W _) _) ?_
    have := heap_alloc_new (W.alloc (.cells #[.int .u8 x.a.toNat, .int .u8 x.b.toNat, .int .u8 x.c.toNat, .int .u8 x.d.toNat, .int .u8 x.e.toNat, .int .u8 x.f.toNat] 23)) (.cells #[.int .u8 y.a.toNat, .int .u8 y.b.toNat, .int .u8 y.c.toNat, .int .u8 y.d.toNat, .int .u8 y.e.toNat, .int .u8 y.f.toNat] 23)
    rwa [show (W.alloc (.cells #[.int .u8 x.a.toNat, .int .u8 x.b.toNat, .int .u8 x.c.toNat, .int .u8 x.d.toNat, .int .u8 x.e.toNat, .int .u8 x.f.toNat] 23)).heap.size = W.heap.size + 1 by simp] at this
  obtain ⟨C, HC⟩ : ∃ C, Hid (C = cmpM x y) := ⟨_, rfl⟩
  rw [← HC.out] at hb ⊢
  have HB := Lib.hid hb; clear hb
  go_enter Try.func49, Try.ntmps49
  go_wp2
  go_quiet ((go_at_call 50; exact Calls.quiet_of_same (HB.out _)))
  go_wp2
  go_returns
  refine ⟨rfl, nq, #[.cells #[.int .u8 x.a.toNat, .int .u8 x.b.toNat, .int .u8 x.c.toNat, .int .u8 x.d.toNat, .int .u8 x.e.toNat, .int .u8 x.f.toNat] 23, .cells #[.int .u8 y.a.toNat, .int .u8 y.b.toNat, .int .u8 y.c.toNat, .int .u8 y.d.toNat, .int .u8 y.e.toNat, .int .u8 y.f.toNat] 23], ?_⟩
  rw [alloc_eq_grow, alloc_eq_grow, grow_grow]
  rfl
end Go.Proofs.Ytechdnkkchhaaaa
