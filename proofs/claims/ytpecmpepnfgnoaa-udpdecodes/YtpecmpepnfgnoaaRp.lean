/- Contracts of the law's ip and plain: an address as a text, ends as the document's answer has them. -/
import Derived.Test.YtpecmpepnfgnoaaBa
namespace Go.Proofs.Ytpecmpepnfgnoaa
open Go.RowKit Go.Proofs.PitotIp Go.Proofs.PitotUdp
open Go.Proofs.PitotAddr (hi lo num num_lt)
open Go.Proofs.Ytpecmpepnfgnoaa.Bi (lies_lt lies_cell lies_frozen lies_alloc)

def ipB (q : Q4) : ByteArray := ⟨#[q.a, q.b, q.c, q.d]⟩
theorem ipB_list (q : Q4) : (ipB q).data.toList = q.bytes := rfl
theorem ipB_size (q : Q4) : (ipB q).size = 4 := rfl

set_option maxHeartbeats 400000 in
theorem ip_any (q : Q4) (w : World) : Calls Try.prog 15 #[ip4 q] w fun e w' => e = .returned (.string (ipB q)) ∧ Below w.heap.size w w' := by
  have L : ((w.alloc (ip4C q)).alloc (.cells #[.int .u8 q.a.toNat, .int .u8 q.b.toNat, .int .u8 q.c.toNat, .int .u8 q.d.toNat] 5)).heap[w.heap.size + 1]? = some (.cells #[.int .u8 q.a.toNat, .int .u8 q.b.toNat, .int .u8 q.c.toNat, .int .u8 q.d.toNat] 5) := by
    have := heap_alloc_new (w.alloc (ip4C q)) (.cells #[.int .u8 q.a.toNat, .int .u8 q.b.toNat, .int .u8 q.c.toNat, .int .u8 q.d.toNat] 5)
    simpa using this
  have cv := conv_four _ _ 0 q (lies_cell L 0) (lies_cell L 1) (lies_cell L 2) (lies_cell L 3)
  have kb : Below w.heap.size w ((w.alloc (ip4C q)).alloc (.cells #[.int .u8 q.a.toNat, .int .u8 q.b.toNat, .int .u8 q.c.toNat, .int .u8 q.d.toNat] 5)) := ((Below.refl _ w).alloc (Nat.le_refl _) _).alloc (by simp) _
  have kb := Lib.hid kb
  clear L
  go_enter Try.func15, Try.ntmps15
  go_wp2
  go_returns
  exact ⟨rfl, kb.out⟩

theorem read_4 {W : World} {g : Nat} {x0 x1 x2 x3 y0 y1 y2 y3 : Value} {t : TypeId} (h : W.heap[g]? = some (.cells #[x0, x1, x2, x3] t)) :
    (W.setCell ⟨g, 0, none⟩ y0).cell? ⟨g, 0, none⟩ = some y0 ∧
    ((W.setCell ⟨g, 0, none⟩ y0).setCell ⟨g, 1, none⟩ y1).cell? ⟨g, 1, none⟩ = some y1 ∧
    (((W.setCell ⟨g, 0, none⟩ y0).setCell ⟨g, 1, none⟩ y1).setCell ⟨g, 2, none⟩ y2).cell? ⟨g, 2, none⟩ = some y2 ∧
    ((((W.setCell ⟨g, 0, none⟩ y0).setCell ⟨g, 1, none⟩ y1).setCell ⟨g, 2, none⟩ y2).setCell ⟨g, 3, none⟩ y3).cell? ⟨g, 3, none⟩ = some y3 ∧
    ((((W.setCell ⟨g, 0, none⟩ y0).setCell ⟨g, 1, none⟩ y1).setCell ⟨g, 2, none⟩ y2).setCell ⟨g, 3, none⟩ y3).heap[g]? = some (.cells #[y0, y1, y2, y3] t) := by
  have h0 : (W.setCell ⟨g, 0, none⟩ y0).heap[g]? = some (.cells #[y0, x1, x2, x3] t) := Bi.lies_set h 0 _
  have h1 : ((W.setCell ⟨g, 0, none⟩ y0).setCell ⟨g, 1, none⟩ y1).heap[g]? = some (.cells #[y0, y1, x2, x3] t) := Bi.lies_set h0 1 _
  have h2 : (((W.setCell ⟨g, 0, none⟩ y0).setCell ⟨g, 1, none⟩ y1).setCell ⟨g, 2, none⟩ y2).heap[g]? = some (.cells #[y0, y1, y2, x3] t) := Bi.lies_set h1 2 _
  have h3 : ((((W.setCell ⟨g, 0, none⟩ y0).setCell ⟨g, 1, none⟩ y1).setCell ⟨g, 2, none⟩ y2).setCell ⟨g, 3, none⟩ y3).heap[g]? = some (.cells #[y0, y1, y2, y3] t) := Bi.lies_set h2 3 _
  exact ⟨lies_cell h0 0, lies_cell h1 1, lies_cell h2 2, lies_cell h3 3, h3⟩

theorem below_4 {B g : Nat} {w W : World} (lb : Below B w W) (hg : B ≤ g) (y0 y1 y2 y3 : Value) : Below B w ((((W.setCell ⟨g, 0, none⟩ y0).setCell ⟨g, 1, none⟩ y1).setCell ⟨g, 2, none⟩ y2).setCell ⟨g, 3, none⟩ y3) := by
  have e : ∀ {V : World} (k : Nat) (v : Value), Below B w V → Below B w (V.setCell ⟨g, k, none⟩ v) := fun {V} k v q => q.setCell (show B ≤ (⟨g, k, none⟩ : Addr).block from hg) v
  exact e _ _ (e _ _ (e _ _ (e _ _ lb)))

theorem far_4 {W : World} {g h : Nat} {cs : Array Value} {t : TypeId} (q : W.heap[h]? = some (.cells cs t)) (hg : h ≠ g) (y0 y1 y2 y3 : Value) : ((((W.setCell ⟨g, 0, none⟩ y0).setCell ⟨g, 1, none⟩ y1).setCell ⟨g, 2, none⟩ y2).setCell ⟨g, 3, none⟩ y3).heap[h]? = some (.cells cs t) := by
  have e : ∀ {V : World} (k : Nat) (v : Value), V.heap[h]? = some (.cells cs t) → (V.setCell ⟨g, k, none⟩ v).heap[h]? = some (.cells cs t) := fun {V} k v q => (Below.heap_setCell V _ v _ (by show h ≠ g; exact hg)).trans q
  exact e _ _ (e _ _ (e _ _ (e _ _ q)))

set_option maxRecDepth 100000 in
set_option maxHeartbeats 4000000 in
theorem plain_any (a b : Q4) (f t : Int) (w : World) : Calls Try.prog 12 #[en a b f t] w fun e w' => e = .returned (re (ipB a) (ipB b) f t) ∧ Below w.heap.size w w' := by
  have HA := ip_any a
  have HB := ip_any b
  obtain ⟨A, HAA⟩ : ∃ A, Hid (A = ipB a) := ⟨_, rfl⟩
  obtain ⟨B, HBB⟩ : ∃ A, Hid (A = ipB b) := ⟨_, rfl⟩
  rw [← HAA.out] at HA ⊢
  rw [← HBB.out] at HB ⊢
  have HA := Lib.hid HA
  have HB := Lib.hid HB
  have L0 : Hid (((w.alloc (enC a b f t)).alloc rez).heap[w.heap.size]? = some (enC a b f t)) := lies_alloc (heap_alloc_new w _) _
  have R0 : Hid (((w.alloc (enC a b f t)).alloc rez).heap[w.heap.size + 1]? = some rez) := by
    have := heap_alloc_new (w.alloc (enC a b f t)) rez
    show _ = _
    simpa using this
  have k0 : Hid (Below w.heap.size w ((w.alloc (enC a b f t)).alloc rez)) := ((Below.refl _ w).alloc (Nat.le_refl _) _).alloc (by simp) _
  go_enter Try.func12, Try.ntmps12
  go_upto_region 1 with fail
  generalize (w.alloc (enC a b f t)).alloc rez = X at L0 R0 k0 ⊢
  have L0 : Hid (X.drew.heap[w.heap.size]? = some (enC a b f t)) := L0.out
  have R0 : Hid (X.drew.heap[w.heap.size + 1]? = some rez) := R0.out
  have k0 : Hid (Below w.heap.size w X.drew) := k0.out.drew
  go_cut [] from 3 (fun wc => wc.heap[w.heap.size + 1]? = some (reC A B f t) ∧ Below w.heap.size w wc)
  case first =>
    go_region_held3 (fun w' => w'.cell? ⟨w.heap.size, 0, none⟩ = some (.int .u8 a.a.toNat) ∧ w'.cell? ⟨w.heap.size, 1, none⟩ = some (.int .u8 a.b.toNat) ∧ w'.cell? ⟨w.heap.size, 2, none⟩ = some (.int .u8 a.c.toNat) ∧ w'.cell? ⟨w.heap.size, 3, none⟩ = some (.int .u8 a.d.toNat) ∧ w'.cell? ⟨w.heap.size, 4, none⟩ = some (.int .u8 b.a.toNat) ∧ w'.cell? ⟨w.heap.size, 5, none⟩ = some (.int .u8 b.b.toNat) ∧ w'.cell? ⟨w.heap.size, 6, none⟩ = some (.int .u8 b.c.toNat) ∧ w'.cell? ⟨w.heap.size, 7, none⟩ = some (.int .u8 b.d.toNat) ∧ w'.cell? ⟨w.heap.size, 8, none⟩ = some (.int .i64 f) ∧ w'.cell? ⟨w.heap.size, 9, none⟩ = some (.int .i64 t))
      (first | (with_reducible exact cells10 L0.out) | (with_reducible exact cells10 (FR.out _ _ _ _)))
      (first
        | (go_at_call 15; (with_reducible refine (HA.out _).mono ?_); rintro r w1 ⟨rfl, hb⟩
           (have L0 : Hid (w1.heap[w.heap.size]? = some (enC a b f t)) := lies_below L0.out hb (lies_lt L0.out))
           (have R0 : Hid (w1.heap[w.heap.size + 1]? = some rez) := lies_below R0.out hb (lies_lt R0.out))
           (have k0 : Hid (Below w.heap.size w w1) := k0.out.trans (hb.mono k0.out.size))
           (clear hb))
        | (go_at_call 15; (with_reducible refine (HB.out _).mono ?_); rintro r w2 ⟨rfl, hb⟩
           (have L0 : Hid (w2.heap[w.heap.size]? = some (enC a b f t)) := lies_below L0.out hb (lies_lt L0.out))
           (have R0 : Hid (w2.heap[w.heap.size + 1]? = some rez) := lies_below R0.out hb (lies_lt R0.out))
           (have k0 : Hid (Below w.heap.size w w2) := k0.out.trans (hb.mono k0.out.size))
           (have FR : Hid (∀ y0 y1 y2 y3 : Value, ((((w2.setCell ⟨w.heap.size + 1, 0, none⟩ y0).setCell ⟨w.heap.size + 1, 1, none⟩ y1).setCell ⟨w.heap.size + 1, 2, none⟩ y2).setCell ⟨w.heap.size + 1, 3, none⟩ y3).heap[w.heap.size]? = some (enC a b f t)) := fun y0 y1 y2 y3 => far_4 L0.out (by omega) y0 y1 y2 y3)
           (obtain ⟨o0, o1, o2, o3⟩ := cells4 R0.out)
           (have f0 := lies_frozen R0.out 0)
           (have f1 := lies_frozen R0.out 1)
           (have f2 := lies_frozen R0.out 2)
           (have f3 := lies_frozen R0.out 3)
           (clear hb)))
    all_goals
      go_wp2
      go_meet
      case rel => exact ⟨(read_4 R0.out).2.2.2.2, below_4 k0.out (Nat.le_succ _) _ _ _ _⟩
  case rest =>
    obtain ⟨LY, kY⟩ := hcut
    obtain ⟨l0, l1, l2, l3⟩ := cells4 LY
    go_wp2
    (try simp only [Exit.inBlock, Exit.then])
    refine bodyPost_ret (by simp [results, Try.results12, go_sem, l0, l1, l2, l3]; try rfl) rfl ?_
    exact ⟨rfl, kY⟩
end Go.Proofs.Ytpecmpepnfgnoaa
