/- Contracts of Decode: the datagram that bytes are, or why they are none. -/
import Derived.Test.YtpecmpepnfgnoaaJu
namespace Go.Proofs.Ytpecmpepnfgnoaa
open Go.RowKit Go.Proofs.PitotIp Go.Proofs.PitotUdp
open Go.Proofs.PitotAddr (num num_lt)
open Go.Proofs.Ytpecmpepnfgnoaa.Bi (RdAt lies_lt lies_cell lies_frozen lies_alloc)

set_option maxRecDepth 100000 in
set_option maxHeartbeats 1000000 in
theorem decode_short (a b : Q4) (s : ByteArray) (w : World) (hs : s.size < 8) :
    Calls Try.prog 13 #[ip4 a, ip4 b, .string s] w fun e w' => e = .returned (.tuple #[en0, .string ⟨#[]⟩, .int .i64 10]) ∧ Below w.heap.size w w' := by
  have k0 : Hid (Below w.heap.size w (((w.alloc (ip4C a)).alloc (ip4C b)).alloc enz)) := (((Below.refl _ w).alloc (Nat.le_refl _) _).alloc (by simp) _).alloc (by simp; omega) _
  go_enter Try.func13, Try.ntmps13
  go_wp2
  (try simp only [Exit.inBlock, Exit.then])
  refine bodyPost_ret (by simp [results, Try.results13, go_sem]; try rfl) rfl ?_
  exact ⟨rfl, k0.out⟩

/-- What Decode holds: the addresses, its result's cells, the Reader. -/
structure Dc (w X : World) (a b : Q4) (l : List UInt8) : Prop where
  ls : X.heap[w.heap.size]? = some (ip4C a)
  ld : X.heap[w.heap.size + 1]? = some (ip4C b)
  lr : X.heap[w.heap.size + 1 + 1]? = some enz
  lq : RdAt X (w.heap.size + 1 + 1 + 1) l 0
  lb : Below w.heap.size w X
theorem Dc.step {w X Y : World} {a b : Q4} {l l' : List UInt8} (q : Dc w X a b l) (hr : RdAt Y (w.heap.size + 1 + 1 + 1) l' 0) (hg : X.grownBy Y (some (w.heap.size + 1 + 1 + 1))) : Dc w Y a b l' :=
  ⟨lies_grown q.ls hg (by omega), lies_grown q.ld hg (by omega), lies_grown q.lr hg (by omega), hr, q.lb.grown hg q.lb.size (fun k e => by cases e; omega)⟩
theorem Dc.alloc {w X : World} {a b : Q4} {l : List UInt8} (q : Dc w X a b l) (o : Obj) : Dc w (X.alloc o) a b l :=
  ⟨lies_alloc q.ls o, lies_alloc q.ld o, lies_alloc q.lr o, RdAt.alloc q.lq o, q.lb.alloc q.lb.size o⟩
theorem Dc.drew {w X : World} {a b : Q4} {l : List UInt8} (q : Dc w X a b l) : Dc w X.drew a b l := ⟨q.ls, q.ld, q.lr, q.lq, q.lb.drew⟩
theorem Dc.below {w X Y : World} {a b : Q4} {l : List UInt8} (q : Dc w X a b l) (hb : Below X.heap.size X Y) : Dc w Y a b l :=
  ⟨lies_below q.ls hb (lies_lt q.ls), lies_below q.ld hb (lies_lt q.ld), lies_below q.lr hb (lies_lt q.lr), RdAt.below q.lq hb (RdAt.lt q.lq), q.lb.trans (hb.mono q.lb.size)⟩
theorem Dc.cells {w X : World} {a b : Q4} {l : List UInt8} (q : Dc w X a b l) : X.cell? ⟨w.heap.size, 0, none⟩ = some (.int .u8 a.a.toNat) ∧ X.cell? ⟨w.heap.size, 1, none⟩ = some (.int .u8 a.b.toNat) ∧ X.cell? ⟨w.heap.size, 2, none⟩ = some (.int .u8 a.c.toNat) ∧ X.cell? ⟨w.heap.size, 3, none⟩ = some (.int .u8 a.d.toNat) ∧ X.cell? ⟨w.heap.size + 1, 0, none⟩ = some (.int .u8 b.a.toNat) ∧ X.cell? ⟨w.heap.size + 1, 1, none⟩ = some (.int .u8 b.b.toNat) ∧ X.cell? ⟨w.heap.size + 1, 2, none⟩ = some (.int .u8 b.c.toNat) ∧ X.cell? ⟨w.heap.size + 1, 3, none⟩ = some (.int .u8 b.d.toNat) := by
  obtain ⟨h0, h1, h2, h3⟩ := cells4 q.ls
  obtain ⟨g0, g1, g2, g3⟩ := cells4 q.ld
  exact ⟨h0, h1, h2, h3, g0, g1, g2, g3⟩
theorem Dc.lt {w X : World} {a b : Q4} {l : List UInt8} (q : Dc w X a b l) : w.heap.size + 1 + 1 + 1 < X.heap.size := RdAt.lt q.lq

theorem read_10 {W : World} {g : Nat} {x0 x1 x2 x3 x4 x5 x6 x7 x8 x9 y0 y1 y2 y3 y4 y5 y6 y7 y8 y9 : Value} {t : TypeId} (h : W.heap[g]? = some (.cells #[x0, x1, x2, x3, x4, x5, x6, x7, x8, x9] t)) :
    (W.setCell ⟨g, 0, none⟩ y0).cell? ⟨g, 0, none⟩ = some y0 ∧
    ((W.setCell ⟨g, 0, none⟩ y0).setCell ⟨g, 1, none⟩ y1).cell? ⟨g, 1, none⟩ = some y1 ∧
    (((W.setCell ⟨g, 0, none⟩ y0).setCell ⟨g, 1, none⟩ y1).setCell ⟨g, 2, none⟩ y2).cell? ⟨g, 2, none⟩ = some y2 ∧
    ((((W.setCell ⟨g, 0, none⟩ y0).setCell ⟨g, 1, none⟩ y1).setCell ⟨g, 2, none⟩ y2).setCell ⟨g, 3, none⟩ y3).cell? ⟨g, 3, none⟩ = some y3 ∧
    (((((W.setCell ⟨g, 0, none⟩ y0).setCell ⟨g, 1, none⟩ y1).setCell ⟨g, 2, none⟩ y2).setCell ⟨g, 3, none⟩ y3).setCell ⟨g, 4, none⟩ y4).cell? ⟨g, 4, none⟩ = some y4 ∧
    ((((((W.setCell ⟨g, 0, none⟩ y0).setCell ⟨g, 1, none⟩ y1).setCell ⟨g, 2, none⟩ y2).setCell ⟨g, 3, none⟩ y3).setCell ⟨g, 4, none⟩ y4).setCell ⟨g, 5, none⟩ y5).cell? ⟨g, 5, none⟩ = some y5 ∧
    (((((((W.setCell ⟨g, 0, none⟩ y0).setCell ⟨g, 1, none⟩ y1).setCell ⟨g, 2, none⟩ y2).setCell ⟨g, 3, none⟩ y3).setCell ⟨g, 4, none⟩ y4).setCell ⟨g, 5, none⟩ y5).setCell ⟨g, 6, none⟩ y6).cell? ⟨g, 6, none⟩ = some y6 ∧
    ((((((((W.setCell ⟨g, 0, none⟩ y0).setCell ⟨g, 1, none⟩ y1).setCell ⟨g, 2, none⟩ y2).setCell ⟨g, 3, none⟩ y3).setCell ⟨g, 4, none⟩ y4).setCell ⟨g, 5, none⟩ y5).setCell ⟨g, 6, none⟩ y6).setCell ⟨g, 7, none⟩ y7).cell? ⟨g, 7, none⟩ = some y7 ∧
    (((((((((W.setCell ⟨g, 0, none⟩ y0).setCell ⟨g, 1, none⟩ y1).setCell ⟨g, 2, none⟩ y2).setCell ⟨g, 3, none⟩ y3).setCell ⟨g, 4, none⟩ y4).setCell ⟨g, 5, none⟩ y5).setCell ⟨g, 6, none⟩ y6).setCell ⟨g, 7, none⟩ y7).setCell ⟨g, 8, none⟩ y8).cell? ⟨g, 8, none⟩ = some y8 ∧
    ((((((((((W.setCell ⟨g, 0, none⟩ y0).setCell ⟨g, 1, none⟩ y1).setCell ⟨g, 2, none⟩ y2).setCell ⟨g, 3, none⟩ y3).setCell ⟨g, 4, none⟩ y4).setCell ⟨g, 5, none⟩ y5).setCell ⟨g, 6, none⟩ y6).setCell ⟨g, 7, none⟩ y7).setCell ⟨g, 8, none⟩ y8).setCell ⟨g, 9, none⟩ y9).cell? ⟨g, 9, none⟩ = some y9 ∧
    ((((((((((W.setCell ⟨g, 0, none⟩ y0).setCell ⟨g, 1, none⟩ y1).setCell ⟨g, 2, none⟩ y2).setCell ⟨g, 3, none⟩ y3).setCell ⟨g, 4, none⟩ y4).setCell ⟨g, 5, none⟩ y5).setCell ⟨g, 6, none⟩ y6).setCell ⟨g, 7, none⟩ y7).setCell ⟨g, 8, none⟩ y8).setCell ⟨g, 9, none⟩ y9).heap[g]? = some (.cells #[y0, y1, y2, y3, y4, y5, y6, y7, y8, y9] t) := by
  have h0 : (W.setCell ⟨g, 0, none⟩ y0).heap[g]? = some (.cells #[y0, x1, x2, x3, x4, x5, x6, x7, x8, x9] t) := Bi.lies_set h 0 _
  have h1 : ((W.setCell ⟨g, 0, none⟩ y0).setCell ⟨g, 1, none⟩ y1).heap[g]? = some (.cells #[y0, y1, x2, x3, x4, x5, x6, x7, x8, x9] t) := Bi.lies_set h0 1 _
  have h2 : (((W.setCell ⟨g, 0, none⟩ y0).setCell ⟨g, 1, none⟩ y1).setCell ⟨g, 2, none⟩ y2).heap[g]? = some (.cells #[y0, y1, y2, x3, x4, x5, x6, x7, x8, x9] t) := Bi.lies_set h1 2 _
  have h3 : ((((W.setCell ⟨g, 0, none⟩ y0).setCell ⟨g, 1, none⟩ y1).setCell ⟨g, 2, none⟩ y2).setCell ⟨g, 3, none⟩ y3).heap[g]? = some (.cells #[y0, y1, y2, y3, x4, x5, x6, x7, x8, x9] t) := Bi.lies_set h2 3 _
  have h4 : (((((W.setCell ⟨g, 0, none⟩ y0).setCell ⟨g, 1, none⟩ y1).setCell ⟨g, 2, none⟩ y2).setCell ⟨g, 3, none⟩ y3).setCell ⟨g, 4, none⟩ y4).heap[g]? = some (.cells #[y0, y1, y2, y3, y4, x5, x6, x7, x8, x9] t) := Bi.lies_set h3 4 _
  have h5 : ((((((W.setCell ⟨g, 0, none⟩ y0).setCell ⟨g, 1, none⟩ y1).setCell ⟨g, 2, none⟩ y2).setCell ⟨g, 3, none⟩ y3).setCell ⟨g, 4, none⟩ y4).setCell ⟨g, 5, none⟩ y5).heap[g]? = some (.cells #[y0, y1, y2, y3, y4, y5, x6, x7, x8, x9] t) := Bi.lies_set h4 5 _
  have h6 : (((((((W.setCell ⟨g, 0, none⟩ y0).setCell ⟨g, 1, none⟩ y1).setCell ⟨g, 2, none⟩ y2).setCell ⟨g, 3, none⟩ y3).setCell ⟨g, 4, none⟩ y4).setCell ⟨g, 5, none⟩ y5).setCell ⟨g, 6, none⟩ y6).heap[g]? = some (.cells #[y0, y1, y2, y3, y4, y5, y6, x7, x8, x9] t) := Bi.lies_set h5 6 _
  have h7 : ((((((((W.setCell ⟨g, 0, none⟩ y0).setCell ⟨g, 1, none⟩ y1).setCell ⟨g, 2, none⟩ y2).setCell ⟨g, 3, none⟩ y3).setCell ⟨g, 4, none⟩ y4).setCell ⟨g, 5, none⟩ y5).setCell ⟨g, 6, none⟩ y6).setCell ⟨g, 7, none⟩ y7).heap[g]? = some (.cells #[y0, y1, y2, y3, y4, y5, y6, y7, x8, x9] t) := Bi.lies_set h6 7 _
  have h8 : (((((((((W.setCell ⟨g, 0, none⟩ y0).setCell ⟨g, 1, none⟩ y1).setCell ⟨g, 2, none⟩ y2).setCell ⟨g, 3, none⟩ y3).setCell ⟨g, 4, none⟩ y4).setCell ⟨g, 5, none⟩ y5).setCell ⟨g, 6, none⟩ y6).setCell ⟨g, 7, none⟩ y7).setCell ⟨g, 8, none⟩ y8).heap[g]? = some (.cells #[y0, y1, y2, y3, y4, y5, y6, y7, y8, x9] t) := Bi.lies_set h7 8 _
  have h9 : ((((((((((W.setCell ⟨g, 0, none⟩ y0).setCell ⟨g, 1, none⟩ y1).setCell ⟨g, 2, none⟩ y2).setCell ⟨g, 3, none⟩ y3).setCell ⟨g, 4, none⟩ y4).setCell ⟨g, 5, none⟩ y5).setCell ⟨g, 6, none⟩ y6).setCell ⟨g, 7, none⟩ y7).setCell ⟨g, 8, none⟩ y8).setCell ⟨g, 9, none⟩ y9).heap[g]? = some (.cells #[y0, y1, y2, y3, y4, y5, y6, y7, y8, y9] t) := Bi.lies_set h8 9 _
  exact ⟨lies_cell h0 0, lies_cell h1 1, lies_cell h2 2, lies_cell h3 3, lies_cell h4 4, lies_cell h5 5, lies_cell h6 6, lies_cell h7 7, lies_cell h8 8, lies_cell h9 9, h9⟩

theorem dc_store {w W : World} {a b : Q4} {l : List UInt8} {gx : Nat} (LO : W.heap[gx]? = some enz) (q : Dc w W a b l) (hg : w.heap.size + 1 + 1 + 1 < gx) (y0 y1 y2 y3 y4 y5 y6 y7 y8 y9 : Value) :
    ((((((((((W.setCell ⟨gx, 0, none⟩ y0).setCell ⟨gx, 1, none⟩ y1).setCell ⟨gx, 2, none⟩ y2).setCell ⟨gx, 3, none⟩ y3).setCell ⟨gx, 4, none⟩ y4).setCell ⟨gx, 5, none⟩ y5).setCell ⟨gx, 6, none⟩ y6).setCell ⟨gx, 7, none⟩ y7).setCell ⟨gx, 8, none⟩ y8).setCell ⟨gx, 9, none⟩ y9).heap[gx]? = some (.cells #[y0, y1, y2, y3, y4, y5, y6, y7, y8, y9] 25) ∧ Dc w ((((((((((W.setCell ⟨gx, 0, none⟩ y0).setCell ⟨gx, 1, none⟩ y1).setCell ⟨gx, 2, none⟩ y2).setCell ⟨gx, 3, none⟩ y3).setCell ⟨gx, 4, none⟩ y4).setCell ⟨gx, 5, none⟩ y5).setCell ⟨gx, 6, none⟩ y6).setCell ⟨gx, 7, none⟩ y7).setCell ⟨gx, 8, none⟩ y8).setCell ⟨gx, 9, none⟩ y9) a b l := by
  have e : ∀ {V : World} (k : Nat) (v : Value), Dc w V a b l → Dc w (V.setCell ⟨gx, k, none⟩ v) a b l := fun {V} k v q =>
    ⟨(Below.heap_setCell V _ v _ (by show w.heap.size ≠ gx; omega)).trans q.ls, (Below.heap_setCell V _ v _ (by show w.heap.size + 1 ≠ gx; omega)).trans q.ld, (Below.heap_setCell V _ v _ (by show w.heap.size + 1 + 1 ≠ gx; omega)).trans q.lr, (Below.heap_setCell V _ v _ (by show w.heap.size + 1 + 1 + 1 ≠ gx; omega)).trans q.lq, q.lb.setCell (show w.heap.size ≤ (⟨gx, k, none⟩ : Addr).block from by show w.heap.size ≤ gx; omega) v⟩
  exact ⟨(read_10 LO).2.2.2.2.2.2.2.2.2.2, e _ _ (e _ _ (e _ _ (e _ _ (e _ _ (e _ _ (e _ _ (e _ _ (e _ _ (e _ _ (q))))))))))⟩

theorem res_below {w W : World} (lb : Below w.heap.size w W) (y0 y1 y2 y3 y4 y5 y6 y7 y8 y9 : Value) : Below w.heap.size w ((((((((((W.setCell ⟨w.heap.size + 1 + 1, 0, none⟩ y0).setCell ⟨w.heap.size + 1 + 1, 1, none⟩ y1).setCell ⟨w.heap.size + 1 + 1, 2, none⟩ y2).setCell ⟨w.heap.size + 1 + 1, 3, none⟩ y3).setCell ⟨w.heap.size + 1 + 1, 4, none⟩ y4).setCell ⟨w.heap.size + 1 + 1, 5, none⟩ y5).setCell ⟨w.heap.size + 1 + 1, 6, none⟩ y6).setCell ⟨w.heap.size + 1 + 1, 7, none⟩ y7).setCell ⟨w.heap.size + 1 + 1, 8, none⟩ y8).setCell ⟨w.heap.size + 1 + 1, 9, none⟩ y9) := by
  have e : ∀ {V : World} (k : Nat) (v : Value), Below w.heap.size w V → Below w.heap.size w (V.setCell ⟨w.heap.size + 1 + 1, k, none⟩ v) := fun {V} k v q => q.setCell (show w.heap.size ≤ (⟨w.heap.size + 1 + 1, k, none⟩ : Addr).block from by show w.heap.size ≤ w.heap.size + 1 + 1; omega) v
  exact e _ _ (e _ _ (e _ _ (e _ _ (e _ _ (e _ _ (e _ _ (e _ _ (e _ _ (e _ _ (lb))))))))))

/-- What U16 answers where two bytes stand ahead. -/
abbrev U16Is (r : Nat) (v : Nat) (m : List UInt8) (l : List UInt8) : Prop := ∀ X : World, RdAt X r m 0 → Calls Try.prog 23 #[.pointer (some ⟨r, 0, none⟩)] X fun e w' => e = .returned (.int .i64 v) ∧ RdAt w' r l 0 ∧ X.grownBy w' (some r)

set_option maxRecDepth 100000 in
set_option maxHeartbeats 8000000 in
theorem decode_core (a b : Q4) (h : D8) (l : List UInt8) (s : ByteArray) (hs : s = ⟨(h.list ++ l).toArray⟩) (hl : l.length ≤ 100000) (w : World) (F T U S : Nat) (eF : F = num h.f1 h.f0) (eT : T = num h.t1 h.t0) (eU : U = num h.n1 h.n0) (eS : S = num h.s1 h.s0) (J K : Int) (hJ : J = jl U (8 + l.length))
    (hK : J = 0 → K = js S (PitotUdp.sumOf a b ((dg (8 + l.length) F T 0).list ++ l))) (R : Value)
    (hR : (J ≠ 0 ∧ R = .tuple #[en0, .string ⟨#[]⟩, .int .i64 J]) ∨ (J = 0 ∧ K ≠ 0 ∧ R = .tuple #[en0, .string ⟨#[]⟩, .int .i64 K]) ∨ (J = 0 ∧ K = 0 ∧ R = .tuple #[en a b F T, .string ⟨l.toArray⟩, .int .i64 0])) :
    Calls Try.prog 13 #[ip4 a, ip4 b, .string s] w fun e w' => e = .returned R ∧ Below w.heap.size w w' := by
  obtain ⟨l3, e3⟩ : ∃ l3, l3 = h.s1 :: h.s0 :: l := ⟨_, rfl⟩
  obtain ⟨l2, e2⟩ : ∃ l2, l2 = h.n1 :: h.n0 :: l3 := ⟨_, rfl⟩
  obtain ⟨l1, e1⟩ : ∃ l1, l1 = h.t1 :: h.t0 :: l2 := ⟨_, rfl⟩
  obtain ⟨l0, e0⟩ : ∃ l0, l0 = h.f1 :: h.f0 :: l1 := ⟨_, rfl⟩
  have hs0 : s = ⟨l0.toArray⟩ := by rw [hs, e0, e1, e2, e3]; rfl
  have hsz : s.size = 8 + l.length := by rw [hs, size_toList]; simp [D8.list_length]
  have z3 : l3.length = 2 + l.length := by rw [e3]; simp; omega
  have z2 : l2.length = 4 + l.length := by rw [e2]; simp; omega
  have z1 : l1.length = 6 + l.length := by rw [e1]; simp; omega
  have H22 := Bi.read_any l0
  rw [← hs0] at H22
  have H1 : U16Is (w.heap.size + 1 + 1 + 1) F l0 l1 := fun X hX => by rw [eF]; exact ru16_ok _ h.f1 h.f0 l1 X (by rw [← e0]; exact hX) (by omega)
  have H2 : U16Is (w.heap.size + 1 + 1 + 1) T l1 l2 := fun X hX => by rw [eT]; exact ru16_ok _ h.t1 h.t0 l2 X (by rw [← e1]; exact hX) (by omega)
  have H3 : U16Is (w.heap.size + 1 + 1 + 1) U l2 l3 := fun X hX => by rw [eU]; exact ru16_ok _ h.n1 h.n0 l3 X (by rw [← e2]; exact hX) (by omega)
  have H4 : U16Is (w.heap.size + 1 + 1 + 1) S l3 l := fun X hX => by rw [eS]; exact ru16_ok _ h.s1 h.s0 l X (by rw [← e3]; exact hX) (by omega)
  obtain ⟨D, HD⟩ : ∃ D : ByteArray, Hid (D = ⟨l.toArray⟩) := ⟨_, rfl⟩
  have zD : D.size = l.length := by rw [HD.out, size_toList]
  have H24 : ∀ X, RdAt X (w.heap.size + 1 + 1 + 1) l 0 → Calls Try.prog 24 #[.pointer (some ⟨w.heap.size + 1 + 1 + 1, 0, none⟩)] X fun e w' => e = .returned (.string D) ∧ RdAt w' (w.heap.size + 1 + 1 + 1) [] 0 ∧ X.grownBy w' (some (w.heap.size + 1 + 1 + 1)) := fun X hX => by
    rw [HD.out]; exact Bi.rest_ok _ l X hX (by omega)
  have H25 := judgeLong_any U (8 + l.length)
  rw [← hJ, ← hsz] at H25
  rw [← HD.out] at hR
  have H22 := Lib.hid H22; have H1 := Lib.hid H1; have H2 := Lib.hid H2; have H3 := Lib.hid H3; have H4 := Lib.hid H4; have H24 := Lib.hid H24; have H25 := Lib.hid H25
  have hsL : 8 ≤ s.size := by omega
  have hsU : s.size ≤ 100008 := by omega
  have hFl : F < 65536 := by rw [eF]; exact num_lt _ _
  have hTl : T < 65536 := by rw [eT]; exact num_lt _ _
  have HK : Hid (J = 0 → ∀ w, Calls Try.prog 26 #[.int .i64 S, en a b F T, .string D] w fun e w' => e = .returned (.int .i64 K) ∧ Below w.heap.size w w') := fun hj w => by
    have hd : D.size ≤ 9000 := by
      have h1 : jl U (8 + l.length) = 0 := by rw [← hJ]; exact hj
      unfold jl at h1
      split at h1
      · omega
      · split at h1
        · omega
        · split at h1 <;> omega
    have h1 := judgeSum_any a b S F T D hFl hTl hd w
    rw [zD, show D.data.toList = l by rw [HD.out], ← hK hj] at h1
    exact h1
  have P0 : Dc w ((((w.alloc (ip4C a)).alloc (ip4C b)).alloc enz).alloc (.cells #[.string s, .int .i64 0] 74)) a b l0 := by
    have q1 := heap_alloc_new w (ip4C a)
    have q2 := heap_alloc_new (w.alloc (ip4C a)) (ip4C b)
    have q3 := heap_alloc_new ((w.alloc (ip4C a)).alloc (ip4C b)) enz
    have q4 := heap_alloc_new (((w.alloc (ip4C a)).alloc (ip4C b)).alloc enz) (.cells #[.string s, .int .i64 0] 74)
    simp only [World.size_alloc] at q2 q3 q4
    refine ⟨lies_alloc (lies_alloc (lies_alloc q1 _) _) _, lies_alloc (lies_alloc q2 _) _, lies_alloc q3 _, ?_, ?_⟩
    · show _ = _
      rw [← hs0]; exact q4
    · have k1 := (Below.refl w.heap.size w).alloc (Nat.le_refl _) (ip4C a)
      have k2 := k1.alloc k1.size (ip4C b)
      have k3 := k2.alloc k2.size enz
      exact k3.alloc k3.size _
  clear e0 e1 e2 e3 z1 z2 z3 hs0 hs eF eT eU eS hJ hK zD hl hsz hFl hTl
  go_enter Try.func13, Try.ntmps13
  go_upto_region 4 with (first
    | (go_at_call 22; (with_reducible refine (H22.out _).mono ?_); rintro r w1 ⟨rfl, rfl⟩))
  generalize (((w.alloc (ip4C a)).alloc (ip4C b)).alloc enz).alloc (.cells #[.string s, .int .i64 0] 74) = X at P0 ⊢
  have NX0 : Hid (w.heap.size + 1 + 1 + 1 < X.heap.size) := P0.lt
  have PD := Lib.hid P0.drew
  have PA : Hid (Dc w (X.alloc enz).drew a b l0) := (P0.alloc enz).drew
  have LX : Hid ((X.alloc enz).drew.heap[X.heap.size]? = some enz) := heap_alloc_new X enz
  have PF : Hid (∀ o, Dc w (X.alloc o).drew a b l0) := fun o => (P0.alloc o).drew
  clear P0 H22
  go_cut [10] from 16 (fun s10 wc => ∃ gx, s10 = .pointer (some ⟨gx, 0, none⟩) ∧ w.heap.size + 1 + 1 + 1 < gx ∧ wc.heap[gx]? = some (enC a b F T) ∧ Dc w wc a b l2)
  case first =>
    go_region_held3 (fun w' => w'.cell? ⟨w.heap.size, 0, none⟩ = some (.int .u8 a.a.toNat) ∧ w'.cell? ⟨w.heap.size, 1, none⟩ = some (.int .u8 a.b.toNat) ∧ w'.cell? ⟨w.heap.size, 2, none⟩ = some (.int .u8 a.c.toNat) ∧ w'.cell? ⟨w.heap.size, 3, none⟩ = some (.int .u8 a.d.toNat) ∧ w'.cell? ⟨w.heap.size + 1, 0, none⟩ = some (.int .u8 b.a.toNat) ∧ w'.cell? ⟨w.heap.size + 1, 1, none⟩ = some (.int .u8 b.b.toNat) ∧ w'.cell? ⟨w.heap.size + 1, 2, none⟩ = some (.int .u8 b.c.toNat) ∧ w'.cell? ⟨w.heap.size + 1, 3, none⟩ = some (.int .u8 b.d.toNat))
      (first | (with_reducible exact PD.out.cells) | (with_reducible exact (PF.out _).cells) | (with_reducible exact P1.out.cells) | (with_reducible exact (P1A.out _).cells) | (with_reducible exact P2.out.cells) | (with_reducible exact (P2A.out _).cells) | (with_reducible exact (dc_store LO2.out P2.out NX0.out _ _ _ _ _ _ _ _ _ _).2.cells) | (with_reducible exact (dc_store LO2.out P2.out N1.out _ _ _ _ _ _ _ _ _ _).2.cells))
      (first
        | (go_at_call 23; (with_reducible refine (H1.out X.drew PD.out.lq).mono ?_); rintro r w1 ⟨rfl, hr, hg⟩
           (have P1 : Hid (Dc w w1 a b l1) := PD.out.step hr hg)
           (have P1A : Hid (∀ o, Dc w (w1.alloc o) a b l1) := fun o => P1.out.alloc o)
           (have N1 : Hid (w.heap.size + 1 + 1 + 1 < w1.heap.size) := P1.out.lt)
           (clear hr hg))
        | (go_at_call 23; (with_reducible refine (H1.out (X.alloc enz).drew PA.out.lq).mono ?_); rintro r w1 ⟨rfl, hr, hg⟩
           (have P1 : Hid (Dc w w1 a b l1) := PA.out.step hr hg)
           (have P1A : Hid (∀ o, Dc w (w1.alloc o) a b l1) := fun o => P1.out.alloc o)
           (have N1 : Hid (w.heap.size + 1 + 1 + 1 < w1.heap.size) := P1.out.lt)
           (have LO : Hid (w1.heap[X.heap.size]? = some enz) := lies_grown LX.out hg (by have := NX0.out; omega))
           (clear hr hg))
        | (go_at_call 23; (with_reducible refine (H2.out w1 P1.out.lq).mono ?_); rintro r w2 ⟨rfl, hr, hg⟩
           (have LO2 : Hid (w2.heap[X.heap.size]? = some enz) := lies_grown LO.out hg (by have := NX0.out; omega))
           (have P2 : Hid (Dc w w2 a b l2) := P1.out.step hr hg)
           (have P2A : Hid (∀ o, Dc w (w2.alloc o) a b l2) := fun o => P2.out.alloc o)
           (obtain ⟨o0, o1, o2, o3, o4, o5, o6, o7, o8, o9⟩ := cells10 LO2.out)
           (have f0 := lies_frozen LO2.out 0)
           (have f1 := lies_frozen LO2.out 1)
           (have f2 := lies_frozen LO2.out 2)
           (have f3 := lies_frozen LO2.out 3)
           (have f4 := lies_frozen LO2.out 4)
           (have f5 := lies_frozen LO2.out 5)
           (have f6 := lies_frozen LO2.out 6)
           (have f7 := lies_frozen LO2.out 7)
           (have f8 := lies_frozen LO2.out 8)
           (have f9 := lies_frozen LO2.out 9)
           (clear hr hg))
        | (go_at_call 23; (with_reducible refine (H2.out (w1.alloc enz) (P1A.out enz).lq).mono ?_); rintro r w2 ⟨rfl, hr, hg⟩
           (have LO2 : Hid (w2.heap[w1.heap.size]? = some enz) := lies_grown (heap_alloc_new w1 enz) hg (by have := N1.out; omega))
           (have P2 : Hid (Dc w w2 a b l2) := (P1A.out enz).step hr hg)
           (have P2A : Hid (∀ o, Dc w (w2.alloc o) a b l2) := fun o => P2.out.alloc o)
           (obtain ⟨o0, o1, o2, o3, o4, o5, o6, o7, o8, o9⟩ := cells10 LO2.out)
           (have f0 := lies_frozen LO2.out 0)
           (have f1 := lies_frozen LO2.out 1)
           (have f2 := lies_frozen LO2.out 2)
           (have f3 := lies_frozen LO2.out 3)
           (have f4 := lies_frozen LO2.out 4)
           (have f5 := lies_frozen LO2.out 5)
           (have f6 := lies_frozen LO2.out 6)
           (have f7 := lies_frozen LO2.out 7)
           (have f8 := lies_frozen LO2.out 8)
           (have f9 := lies_frozen LO2.out 9)
           (clear hr hg))
        | (go_at_call 23; (with_reducible refine (H2.out w1 P1.out.lq).mono ?_); rintro r w2 ⟨rfl, hr, hg⟩
           (have P2 : Hid (Dc w w2 a b l2) := P1.out.step hr hg)
           (have P2A : Hid (∀ o, Dc w (w2.alloc o) a b l2) := fun o => P2.out.alloc o)
           (clear hr hg)))
    all_goals
      go_wp2
      go_meet
      case rel =>
        first
        | exact ⟨_, rfl, NX0.out, dc_store LO2.out P2.out NX0.out _ _ _ _ _ _ _ _ _ _⟩
        | exact ⟨_, rfl, N1.out, dc_store LO2.out P2.out N1.out _ _ _ _ _ _ _ _ _ _⟩
        | exact ⟨_, rfl, P2.out.lt, heap_alloc_new _ _, P2.out.alloc _⟩
  case rest =>
    obtain ⟨gx, rfl, NX, LY, PY⟩ := hcut
    clear PD PA LX PF NX0 H1 H2
    have v1 : ¬ gx = w.heap.size + 1 + 1 := by omega
    have PY := Lib.hid PY
    have LY := Lib.hid LY
    rcases hR with ⟨hj, rfl⟩ | ⟨hj, hk, rfl⟩ | ⟨hj, hk, rfl⟩
    · have hj1 : (J != 0) = true := by simpa using hj
      go_wp2_with (first
        | (go_at_call 23; (with_reducible refine (H3.out wc PY.out.lq).mono ?_); rintro r w3 ⟨rfl, hr, hg⟩
           (have P3 := Lib.hid (PY.out.step hr hg))
           (have LE := Lib.hid (lies_grown LY.out hg (by omega)))
           (clear hr hg))
        | (go_at_call 23; (with_reducible refine (H4.out w3 P3.out.lq).mono ?_); rintro r w4 ⟨rfl, hr, hg⟩
           (have P4 := Lib.hid (P3.out.step hr hg))
           (have LE := Lib.hid (lies_grown LE.out hg (by omega)))
           (clear hr hg))
        | (go_at_call 24; (with_reducible refine (H24.out w4 P4.out.lq).mono ?_); rintro r w5 ⟨rfl, hr, hg⟩
           (have PZ := Lib.hid (P4.out.step hr hg))
           (have LE := Lib.hid (lies_grown LE.out hg (by omega)))
           (obtain ⟨c0, c1, c2, c3, c4, c5, c6, c7, c8, c9⟩ := cells10 LE.out)
           (obtain ⟨o0, o1, o2, o3, o4, o5, o6, o7, o8, o9⟩ := cells10 PZ.out.lr)
           (have f0 := lies_frozen PZ.out.lr 0)
           (have f1 := lies_frozen PZ.out.lr 1)
           (have f2 := lies_frozen PZ.out.lr 2)
           (have f3 := lies_frozen PZ.out.lr 3)
           (have f4 := lies_frozen PZ.out.lr 4)
           (have f5 := lies_frozen PZ.out.lr 5)
           (have f6 := lies_frozen PZ.out.lr 6)
           (have f7 := lies_frozen PZ.out.lr 7)
           (have f8 := lies_frozen PZ.out.lr 8)
           (have f9 := lies_frozen PZ.out.lr 9)
           (clear hr hg))
        | (go_at_call 25; (with_reducible refine (H25.out _).mono ?_); rintro r w6 ⟨rfl, rfl⟩))
      (try simp only [Exit.inBlock, Exit.then])
      obtain ⟨k0, k1, k2, k3, k4, k5, k6, k7, k8, k9, _⟩ := read_10 (y0 := .int .u8 0) (y1 := .int .u8 0) (y2 := .int .u8 0) (y3 := .int .u8 0) (y4 := .int .u8 0) (y5 := .int .u8 0) (y6 := .int .u8 0) (y7 := .int .u8 0) (y8 := .int .i64 0) (y9 := .int .i64 0) PZ.out.lr
      refine bodyPost_ret (by simp [results, Try.results13, go_sem, k0, k1, k2, k3, k4, k5, k6, k7, k8, k9]; try rfl) rfl ?_
      exact ⟨rfl, res_below PZ.out.lb _ _ _ _ _ _ _ _ _ _⟩
    · subst hj
      have hk1 : (K != 0) = true := by simpa using hk
      have H26 := Lib.hid (HK.out rfl)
      go_wp2_with (first
        | (go_at_call 23; (with_reducible refine (H3.out wc PY.out.lq).mono ?_); rintro r w3 ⟨rfl, hr, hg⟩
           (have P3 := Lib.hid (PY.out.step hr hg))
           (have LE := Lib.hid (lies_grown LY.out hg (by omega)))
           (clear hr hg))
        | (go_at_call 23; (with_reducible refine (H4.out w3 P3.out.lq).mono ?_); rintro r w4 ⟨rfl, hr, hg⟩
           (have P4 := Lib.hid (P3.out.step hr hg))
           (have LE := Lib.hid (lies_grown LE.out hg (by omega)))
           (clear hr hg))
        | (go_at_call 24; (with_reducible refine (H24.out w4 P4.out.lq).mono ?_); rintro r w5 ⟨rfl, hr, hg⟩
           (have PZ := Lib.hid (P4.out.step hr hg))
           (have LE := Lib.hid (lies_grown LE.out hg (by omega)))
           (obtain ⟨c0, c1, c2, c3, c4, c5, c6, c7, c8, c9⟩ := cells10 LE.out)
           (obtain ⟨o0, o1, o2, o3, o4, o5, o6, o7, o8, o9⟩ := cells10 PZ.out.lr)
           (have f0 := lies_frozen PZ.out.lr 0)
           (have f1 := lies_frozen PZ.out.lr 1)
           (have f2 := lies_frozen PZ.out.lr 2)
           (have f3 := lies_frozen PZ.out.lr 3)
           (have f4 := lies_frozen PZ.out.lr 4)
           (have f5 := lies_frozen PZ.out.lr 5)
           (have f6 := lies_frozen PZ.out.lr 6)
           (have f7 := lies_frozen PZ.out.lr 7)
           (have f8 := lies_frozen PZ.out.lr 8)
           (have f9 := lies_frozen PZ.out.lr 9)
           (clear hr hg))
        | (go_at_call 25; (with_reducible refine (H25.out _).mono ?_); rintro r w6 ⟨rfl, rfl⟩)
        | (go_at_call 26; (with_reducible refine (H26.out _).mono ?_); rintro r w7 ⟨rfl, hb7⟩
           (have PZ := Lib.hid (PZ.out.below hb7))
           (have LE := Lib.hid (lies_below LE.out hb7 (lies_lt LE.out)))
           (obtain ⟨c0, c1, c2, c3, c4, c5, c6, c7, c8, c9⟩ := cells10 LE.out)
           (obtain ⟨o0, o1, o2, o3, o4, o5, o6, o7, o8, o9⟩ := cells10 PZ.out.lr)
           (have f0 := lies_frozen PZ.out.lr 0)
           (have f1 := lies_frozen PZ.out.lr 1)
           (have f2 := lies_frozen PZ.out.lr 2)
           (have f3 := lies_frozen PZ.out.lr 3)
           (have f4 := lies_frozen PZ.out.lr 4)
           (have f5 := lies_frozen PZ.out.lr 5)
           (have f6 := lies_frozen PZ.out.lr 6)
           (have f7 := lies_frozen PZ.out.lr 7)
           (have f8 := lies_frozen PZ.out.lr 8)
           (have f9 := lies_frozen PZ.out.lr 9)
           (clear hb7)))
      (try simp only [Exit.inBlock, Exit.then])
      obtain ⟨k0, k1, k2, k3, k4, k5, k6, k7, k8, k9, _⟩ := read_10 (y0 := .int .u8 0) (y1 := .int .u8 0) (y2 := .int .u8 0) (y3 := .int .u8 0) (y4 := .int .u8 0) (y5 := .int .u8 0) (y6 := .int .u8 0) (y7 := .int .u8 0) (y8 := .int .i64 0) (y9 := .int .i64 0) PZ.out.lr
      refine bodyPost_ret (by simp [results, Try.results13, go_sem, k0, k1, k2, k3, k4, k5, k6, k7, k8, k9]; try rfl) rfl ?_
      exact ⟨rfl, res_below PZ.out.lb _ _ _ _ _ _ _ _ _ _⟩
    · subst hj hk
      have H26 := Lib.hid (HK.out rfl)
      go_wp2_with (first
        | (go_at_call 23; (with_reducible refine (H3.out wc PY.out.lq).mono ?_); rintro r w3 ⟨rfl, hr, hg⟩
           (have P3 := Lib.hid (PY.out.step hr hg))
           (have LE := Lib.hid (lies_grown LY.out hg (by omega)))
           (clear hr hg))
        | (go_at_call 23; (with_reducible refine (H4.out w3 P3.out.lq).mono ?_); rintro r w4 ⟨rfl, hr, hg⟩
           (have P4 := Lib.hid (P3.out.step hr hg))
           (have LE := Lib.hid (lies_grown LE.out hg (by omega)))
           (clear hr hg))
        | (go_at_call 24; (with_reducible refine (H24.out w4 P4.out.lq).mono ?_); rintro r w5 ⟨rfl, hr, hg⟩
           (have PZ := Lib.hid (P4.out.step hr hg))
           (have LE := Lib.hid (lies_grown LE.out hg (by omega)))
           (obtain ⟨c0, c1, c2, c3, c4, c5, c6, c7, c8, c9⟩ := cells10 LE.out)
           (obtain ⟨o0, o1, o2, o3, o4, o5, o6, o7, o8, o9⟩ := cells10 PZ.out.lr)
           (have f0 := lies_frozen PZ.out.lr 0)
           (have f1 := lies_frozen PZ.out.lr 1)
           (have f2 := lies_frozen PZ.out.lr 2)
           (have f3 := lies_frozen PZ.out.lr 3)
           (have f4 := lies_frozen PZ.out.lr 4)
           (have f5 := lies_frozen PZ.out.lr 5)
           (have f6 := lies_frozen PZ.out.lr 6)
           (have f7 := lies_frozen PZ.out.lr 7)
           (have f8 := lies_frozen PZ.out.lr 8)
           (have f9 := lies_frozen PZ.out.lr 9)
           (clear hr hg))
        | (go_at_call 25; (with_reducible refine (H25.out _).mono ?_); rintro r w6 ⟨rfl, rfl⟩)
        | (go_at_call 26; (with_reducible refine (H26.out _).mono ?_); rintro r w7 ⟨rfl, hb7⟩
           (have PZ := Lib.hid (PZ.out.below hb7))
           (have LE := Lib.hid (lies_below LE.out hb7 (lies_lt LE.out)))
           (obtain ⟨c0, c1, c2, c3, c4, c5, c6, c7, c8, c9⟩ := cells10 LE.out)
           (obtain ⟨o0, o1, o2, o3, o4, o5, o6, o7, o8, o9⟩ := cells10 PZ.out.lr)
           (have f0 := lies_frozen PZ.out.lr 0)
           (have f1 := lies_frozen PZ.out.lr 1)
           (have f2 := lies_frozen PZ.out.lr 2)
           (have f3 := lies_frozen PZ.out.lr 3)
           (have f4 := lies_frozen PZ.out.lr 4)
           (have f5 := lies_frozen PZ.out.lr 5)
           (have f6 := lies_frozen PZ.out.lr 6)
           (have f7 := lies_frozen PZ.out.lr 7)
           (have f8 := lies_frozen PZ.out.lr 8)
           (have f9 := lies_frozen PZ.out.lr 9)
           (clear hb7)))
      (try simp only [Exit.inBlock, Exit.then])
      obtain ⟨k0, k1, k2, k3, k4, k5, k6, k7, k8, k9, _⟩ := read_10 (y0 := .int .u8 a.a.toNat) (y1 := .int .u8 a.b.toNat) (y2 := .int .u8 a.c.toNat) (y3 := .int .u8 a.d.toNat) (y4 := .int .u8 b.a.toNat) (y5 := .int .u8 b.b.toNat) (y6 := .int .u8 b.c.toNat) (y7 := .int .u8 b.d.toNat) (y8 := .int .i64 F) (y9 := .int .i64 T) PZ.out.lr
      refine bodyPost_ret (by simp [results, Try.results13, go_sem, k0, k1, k2, k3, k4, k5, k6, k7, k8, k9]; try rfl) rfl ?_
      exact ⟨rfl, res_below PZ.out.lb _ _ _ _ _ _ _ _ _ _⟩
end Go.Proofs.Ytpecmpepnfgnoaa
