/- Merged: Je, Nl, Po, Pq, Fd, Cu, Sp, Sq, BiShelf, Jo. -/
import Derived.Test.YtgdjcoodjdckkaaM2
import Derived.Test.YtgdjcoodjdckkaaM8
import Derived.Laws.StructEq
import Derived.Test.YtgdjcoodjdckkaaM1
import Derived.ProofKit
import Derived.OpenShut
import Derived.WideShapes
import Derived.Deep.Slices
import Derived.Deep.Fields
import Derived.Test.YtgdjcoodjdckkaaM4
import Derived.Laws.MakeOwn
import Derived.ScopeJumps
import Derived.WalkMore
import Derived.Shelf.Strings.Builder1
import Derived.Test.YtgdjcoodjdckkaaProg
set_option linter.unusedVariables false
/- Two packets are compared. -/
set_option maxRecDepth 100000
namespace Go.Proofs.Ytgdjcoodjdckkaa
open Go.RowKit Go.Proofs.PitotFrag Go.Proofs.PitotIp

/-- Are two addresses the same? -/
def q4b (x y : Q4) : Bool := ((x.a.toNat : Int) == y.a.toNat) && ((x.b.toNat : Int) == y.b.toNat) && ((x.c.toNat : Int) == y.c.toNat) && ((x.d.toNat : Int) == y.d.toNat)
theorem q4b_iff (x y : Q4) : q4b x y = true ↔ x = y := by
  obtain ⟨a, b, c, d⟩ := x
  obtain ⟨a', b', c', d'⟩ := y
  have e : ∀ u v : UInt8, ((u.toNat : Int) = (v.toNat : Int)) ↔ u = v := fun u v => ⟨fun h => UInt8.toNat_inj.1 (by omega), fun h => by rw [h]⟩
  simp [q4b, e, and_assoc]
/-- Are two packets the same? -/
def pkb (p q : Pk) : Bool := (p.id == q.id) && (p.m == q.m) && (p.off == q.off) && (p.ttl == q.ttl) && (p.pr == q.pr) && q4b p.a q.a && q4b p.b q.b && (p.s.toList == q.s.toList)
theorem pkb_iff (p q : Pk) : pkb p q = true ↔ p = q := by
  obtain ⟨i, m, o, t, r, a, b, s⟩ := p
  obtain ⟨i', m', o', t', r', a', b', s'⟩ := q
  have e : s.toList = s'.toList ↔ s = s' := ⟨fun h => by
    rw [ByteArray.toList_eq, ByteArray.toList_eq] at h
    obtain ⟨⟨x⟩⟩ := s; obtain ⟨⟨y⟩⟩ := s'
    simp only at h; rw [h], fun h => by rw [h]⟩
  simp [pkb, q4b_iff, e, and_assoc]

set_option maxHeartbeats 1000000 in
theorem eqP (p q : Pk) (w : World) : (Go.Op.equalIn 10000 34 p.val q.val).run Try.prog w = .ok (pkb p q) w := by
  obtain ⟨i, m, o, t, r, a, b, s⟩ := p
  obtain ⟨i', m', o', t', r', a', b', s'⟩ := q
  have hA := eq4 9997 a.a.toNat a.b.toNat a.c.toNat a.d.toNat a'.a.toNat a'.b.toNat a'.c.toNat a'.d.toNat
  have hB := eq4 9997 b.a.toNat b.b.toNat b.c.toNat b.d.toNat b'.a.toNat b'.b.toNat b'.c.toNat b'.d.toNat
  simp only [pkb]
  have eA : q4b a a' = (((a.a.toNat : Int) == a'.a.toNat) && ((a.b.toNat : Int) == a'.b.toNat) && ((a.c.toNat : Int) == a'.c.toNat) && ((a.d.toNat : Int) == a'.d.toNat)) := rfl
  have eB : q4b b b' = (((b.a.toNat : Int) == b'.a.toNat) && ((b.b.toNat : Int) == b'.b.toNat) && ((b.c.toNat : Int) == b'.c.toNat) && ((b.d.toNat : Int) == b'.d.toNat)) := rfl
  rw [← eA] at hA; rw [← eB] at hB
  generalize q4b a a' = BA at hA ⊢
  generalize q4b b b' = BB at hB ⊢
  simp only [show (9997 + 2 : Nat) = 9999 from rfl] at hA hB
  go_simp
  clear hA hB eA eB
  generalize s.toList = u
  generalize s'.toList = u'
  by_cases h1 : i = i'
  · by_cases h2 : m = m'
    · by_cases h3 : o = o'
      · by_cases h4 : t = t'
        · by_cases h5 : r = r'
          · by_cases h6 : u = u'
            · cases BA <;> cases BB <;> simp [h1, h2, h3, h4, h5, h6]
            · cases BA <;> cases BB <;> simp [h1, h2, h3, h4, h5, h6]
          · simp [h1, h2, h3, h4, h5]
        · simp [h1, h2, h3, h4]
      · simp [h1, h2, h3]
    · simp [h1, h2]
  · simp [h1]
end Go.Proofs.Ytgdjcoodjdckkaa
/- A nil table: Put. -/
set_option maxRecDepth 100000
namespace Go.Proofs.Ytgdjcoodjdckkaa
open Go.RowKit Go.Proofs.PitotIp Go.Maps
open Go.Proofs.PitotReasm (Bg Tb Fine bad first next passed passE put keep)
open Go.Proofs.Ytgdjcoodjdckkaa.Bi (lies_lt lies_cell lies_frozen lies_alloc lies_set)

set_option maxHeartbeats 4000000 in
theorem put_nil (n : Int) (p : Pk) (w : World) : Calls Try.prog 14 #[.pointer none, .int .i64 n, p.val] w fun e w' => e = .returned (.tuple #[pkN.val, .bool false, .int .i64 2]) ∧ Below w.heap.size w w' := by
  have k1 := ((Below.refl w.heap.size w).alloc (Nat.le_refl _) p.obj)
  have R1 : Hid (((w.alloc p.obj).alloc pkz).heap[w.heap.size + 1]? = some pkz) := by
    have e := heap_alloc_new (w.alloc p.obj) pkz
    rw [World.size_alloc] at e
    exact e
  have F1 : Hid (Below w.heap.size w ((w.alloc p.obj).alloc pkz)) := k1.alloc k1.size pkz
  have HP := Lib.hid (pass_nil ((w.alloc p.obj).alloc pkz) n)
  clear k1
  go_enter Try.func14, Try.ntmps14
  go_upto_region 3 with (first
    | (go_at_call 12; (with_reducible refine (HP.out).mono ?_); rintro e V2 ⟨rfl, hV⟩
       (have HV := Lib.hid hV; clear hV)))
  have LX : Hid (V2.heap[w.heap.size + 1]? = some pkz) := by show _ = _; rw [HV.out]; exact R1.out
  have F2 : Hid (Below w.heap.size w V2) := by show Below _ _ _; rw [HV.out]; exact F1.out
  clear HP
  obtain ⟨r0, r1, r2, r3, r4, r5, r6, r7, r8, r9, r10, r11, r12, r13⟩ := cells14 LX.out
  have f0 := lies_frozen LX.out 0
  have f1 := lies_frozen LX.out 1
  have f2 := lies_frozen LX.out 2
  have f3 := lies_frozen LX.out 3
  have f4 := lies_frozen LX.out 4
  have f5 := lies_frozen LX.out 5
  have f6 := lies_frozen LX.out 6
  have f7 := lies_frozen LX.out 7
  have f8 := lies_frozen LX.out 8
  have f9 := lies_frozen LX.out 9
  have f10 := lies_frozen LX.out 10
  have f11 := lies_frozen LX.out 11
  have f12 := lies_frozen LX.out 12
  have f13 := lies_frozen LX.out 13
  go_wp2
  (try simp only [Exit.inBlock, Exit.then])
  obtain ⟨k0, k1, k2, k3, k4, k5, k6, k7, k8, k9, k10, k11, k12, k13, _⟩ := read_14 (y0 := .int .i64 0) (y1 := .bool false) (y2 := .int .i64 0) (y3 := .int .i64 0) (y4 := .int .i64 0) (y5 := .int .u8 0) (y6 := .int .u8 0) (y7 := .int .u8 0) (y8 := .int .u8 0) (y9 := .int .u8 0) (y10 := .int .u8 0) (y11 := .int .u8 0) (y12 := .int .u8 0) (y13 := .string ⟨#[]⟩) LX.out
  refine bodyPost_ret (by simp [results, Try.results14, go_sem, k0, k1, k2, k3, k4, k5, k6, k7, k8, k9, k10, k11, k12, k13]; try rfl) rfl ?_
  exact ⟨rfl, below_14 F2.out (by omega) _ _ _ _ _ _ _ _ _ _ _ _ _ _⟩

theorem pkb_self (p : Pk) : pkb p p = true := (pkb_iff p p).2 rfl
theorem eq_zero (w : World) : (Go.Op.equalIn 10000 34 pkN.val (.agg #[.int .i64 0, .bool false, .int .i64 0, .int .i64 0, .int .i64 0, .int .u8 0, .int .u8 0, .int .u8 0, .int .u8 0, .int .u8 0, .int .u8 0, .int .u8 0, .int .u8 0, .string ⟨#[]⟩])).run Try.prog w = .ok true w := by
  have := eqP pkN pkN w
  rw [pkb_self] at this
  exact this
end Go.Proofs.Ytgdjcoodjdckkaa
/- A packet, as it comes in, is opened: what it is. -/
set_option maxRecDepth 100000
namespace Go.Proofs.Ytgdjcoodjdckkaa
open Go.RowKit Go.ChangeShapes Go.WideShapes Go.Deep Go.Proofs.PitotIp

section
variable {H : Type} {enc : TypeId × Value → H} {w W : World} {base b0 : Nat} {spare : Nat → Bool} {held : Bool} {r : Reach}

theorem byte_of {n : Int} (h : (Lit.int .u8 n).wf = true) : ∃ b : UInt8, n = (b.toNat : Int) := by
  have := bounds_u8 h
  refine ⟨UInt8.ofNat n.toNat, ?_⟩
  simp
  omega

/-- Four cells that are read as an address of IP. -/
theorem ip_cells {fuel : Nat} {cs : List Value} {x : DataW H × List MemPlace} (h : DataW.trod enc Try.prog W b0 spare held fuel 32 cs = some x) :
    ∃ q : Q4, cs = [.int .u8 q.a.toNat, .int .u8 q.b.toNat, .int .u8 q.c.toNat, .int .u8 q.d.toNat] := by
  have c5 : Try.prog.cellsOf 5 = 1 := by kernel_rfl
  have c23 : Try.prog.cellsOf 32 = 4 := by kernel_rfl
  obtain ⟨xs, m, _, _, hl, hn, hf⟩ := DataW.trod_array Try.underlying32 h
  rw [c23] at hl
  rw [c5] at hf
  match cs, hl with
  | [x0, x1, x2, x3], _ =>
    match xs, hn with
    | [y0, y1, y2, y3], _ =>
      have f0 : DataW.trod enc Try.prog W b0 spare held m 5 [x0] = some y0 := hf 0 (by omega)
      have f1 : DataW.trod enc Try.prog W b0 spare held m 5 [x1] = some y1 := hf 1 (by omega)
      have f2 : DataW.trod enc Try.prog W b0 spare held m 5 [x2] = some y2 := hf 2 (by omega)
      have f3 : DataW.trod enc Try.prog W b0 spare held m 5 [x3] = some y3 := hf 3 (by omega)
      obtain ⟨n0, e0, _, w0⟩ := DataW.trod_int Try.underlying5 f0
      obtain ⟨n1, e1, _, w1⟩ := DataW.trod_int Try.underlying5 f1
      obtain ⟨n2, e2, _, w2⟩ := DataW.trod_int Try.underlying5 f2
      obtain ⟨n3, e3, _, w3⟩ := DataW.trod_int Try.underlying5 f3
      simp only [List.cons.injEq, and_true] at e0 e1 e2 e3
      subst e0 e1 e2 e3
      obtain ⟨a, rfl⟩ := byte_of w0
      obtain ⟨b, rfl⟩ := byte_of w1
      obtain ⟨c, rfl⟩ := byte_of w2
      obtain ⟨d, rfl⟩ := byte_of w3
      exact ⟨⟨a, b, c, d⟩, rfl⟩

theorem packet_open {fuel : Nat} {v : Value} {x : DataW H × List MemPlace} (hok : Value.okWide Try.prog w r base 34 v) (h : DataW.trod enc Try.prog W b0 spare held fuel 34 v.cells.toList = some x) :
    ∃ (id : Int) (m : Bool) (off ttl pr : Int) (a b : Q4) (s : ByteArray), (Lit.int .i64 id).wf = true ∧ (Lit.int .i64 off).wf = true ∧ (Lit.int .i64 ttl).wf = true ∧ (Lit.int .i64 pr).wf = true ∧ s.size ≤ maxLen ∧ v = pk id m off ttl pr a b s := by
  have hv : ∃ cs : Array Value, v = .agg cs := by
    simp only [Value.okWide, Try.underlying34] at hok
    obtain ⟨cs, h1, _⟩ := hok
    exact ⟨cs, h1⟩
  obtain ⟨cs, rfl⟩ := hv
  obtain ⟨l⟩ := cs
  have h : DataW.trod enc Try.prog W b0 spare held fuel 34 l = some x := by simpa [Value.cells] using h
  have c3 : Try.prog.cellsOf 3 = 1 := by kernel_rfl
  have c4 : Try.prog.cellsOf 4 = 1 := by kernel_rfl
  have c9 : Try.prog.cellsOf 9 = 1 := by kernel_rfl
  have c23 : Try.prog.cellsOf 32 = 4 := by kernel_rfl
  obtain ⟨ys, n', _, _, hlen, hyl, hf⟩ := DataW.trod_struct Try.underlying34 h
  rw [cells25] at hlen
  match l, hlen with
  | [x0, x1, x2, x3, x4, x5, x6, x7, x8, x9, x10, x11, x12, x13], _ =>
    match ys, hyl with
    | [y0, y1, y2, y3, y4, y5, y6, y7], _ =>
      have f0 : DataW.trod enc Try.prog W b0 spare held n' 3 (([x0, x1, x2, x3, x4, x5, x6, x7, x8, x9, x10, x11, x12, x13].drop 0).take (Try.prog.cellsOf 3)) = some y0 := hf 0 _ rfl
      have f1 : DataW.trod enc Try.prog W b0 spare held n' 4 (([x0, x1, x2, x3, x4, x5, x6, x7, x8, x9, x10, x11, x12, x13].drop 1).take (Try.prog.cellsOf 4)) = some y1 := hf 1 _ rfl
      have f2 : DataW.trod enc Try.prog W b0 spare held n' 3 (([x0, x1, x2, x3, x4, x5, x6, x7, x8, x9, x10, x11, x12, x13].drop 2).take (Try.prog.cellsOf 3)) = some y2 := hf 2 _ rfl
      have f3 : DataW.trod enc Try.prog W b0 spare held n' 3 (([x0, x1, x2, x3, x4, x5, x6, x7, x8, x9, x10, x11, x12, x13].drop 3).take (Try.prog.cellsOf 3)) = some y3 := hf 3 _ rfl
      have f4 : DataW.trod enc Try.prog W b0 spare held n' 3 (([x0, x1, x2, x3, x4, x5, x6, x7, x8, x9, x10, x11, x12, x13].drop 4).take (Try.prog.cellsOf 3)) = some y4 := hf 4 _ rfl
      have f5 : DataW.trod enc Try.prog W b0 spare held n' 32 (([x0, x1, x2, x3, x4, x5, x6, x7, x8, x9, x10, x11, x12, x13].drop 5).take (Try.prog.cellsOf 32)) = some y5 := hf 5 _ rfl
      have f6 : DataW.trod enc Try.prog W b0 spare held n' 32 (([x0, x1, x2, x3, x4, x5, x6, x7, x8, x9, x10, x11, x12, x13].drop 9).take (Try.prog.cellsOf 32)) = some y6 := hf 6 _ rfl
      have f7 : DataW.trod enc Try.prog W b0 spare held n' 9 (([x0, x1, x2, x3, x4, x5, x6, x7, x8, x9, x10, x11, x12, x13].drop 13).take (Try.prog.cellsOf 9)) = some y7 := hf 7 _ rfl
      rw [c3] at f0 f2 f3 f4
      rw [c4] at f1
      rw [c23] at f5 f6
      rw [c9] at f7
      have f0 : DataW.trod enc Try.prog W b0 spare held n' 3 [x0] = some y0 := f0
      have f1 : DataW.trod enc Try.prog W b0 spare held n' 4 [x1] = some y1 := f1
      have f2 : DataW.trod enc Try.prog W b0 spare held n' 3 [x2] = some y2 := f2
      have f3 : DataW.trod enc Try.prog W b0 spare held n' 3 [x3] = some y3 := f3
      have f4 : DataW.trod enc Try.prog W b0 spare held n' 3 [x4] = some y4 := f4
      have f5 : DataW.trod enc Try.prog W b0 spare held n' 32 [x5, x6, x7, x8] = some y5 := f5
      have f6 : DataW.trod enc Try.prog W b0 spare held n' 32 [x9, x10, x11, x12] = some y6 := f6
      have f7 : DataW.trod enc Try.prog W b0 spare held n' 9 [x13] = some y7 := f7
      obtain ⟨n0, e0, _, w0⟩ := DataW.trod_int Try.underlying3 f0
      obtain ⟨m, e1, _⟩ := DataW.trod_bool Try.underlying4 f1
      obtain ⟨n2, e2, _, w2⟩ := DataW.trod_int Try.underlying3 f2
      obtain ⟨n3, e3, _, w3⟩ := DataW.trod_int Try.underlying3 f3
      obtain ⟨n4, e4, _, w4⟩ := DataW.trod_int Try.underlying3 f4
      obtain ⟨a, e5⟩ := ip_cells f5
      obtain ⟨b, e6⟩ := ip_cells f6
      obtain ⟨s, e7, h7, w7⟩ := DataW.trod_string Try.underlying9 f7
      simp only [List.cons.injEq, and_true] at e0 e1 e2 e3 e4 e5 e6 e7
      obtain ⟨rfl, rfl, rfl, rfl⟩ := e5
      obtain ⟨rfl, rfl, rfl, rfl⟩ := e6
      subst e0 e1 e2 e3 e4 e7
      exact ⟨n0, m, n2, n3, n4, a, b, s, w0, w2, w3, w4, by first | exact w7 | exact h7, rfl⟩
end
end Go.Proofs.Ytgdjcoodjdckkaa
/- A list of packets, as it comes in, is opened: what its cells hold. -/
set_option maxRecDepth 100000
namespace Go.Proofs.Ytgdjcoodjdckkaa
open Go.RowKit Go.ChangeShapes Go.WideShapes Go.Deep Go.Proofs.PitotIp

theorem cell_lt {w : World} {a : Addr} {v : Value} (h : w.cell? a = some v) : a.block < w.heap.size := by
  rcases Nat.lt_or_ge a.block w.heap.size with h1 | h1
  · exact h1
  · simp [World.cell?, Array.getElem?_eq_none h1] at h

theorem list_of {α : Type} {P : Nat → α → Prop} : ∀ (n : Nat), (∀ i, i < n → ∃ t, P i t) → ∃ l : List α, l.length = n ∧ ∀ i (h : i < l.length), P i l[i]
  | 0, _ => ⟨[], rfl, fun i h => by simp at h⟩
  | n + 1, h => by
    obtain ⟨l, hl, hp⟩ := list_of n (fun i hi => h i (by omega))
    obtain ⟨t, ht⟩ := h n (by omega)
    refine ⟨l ++ [t], by simp [hl], fun i hi => ?_⟩
    by_cases hin : i < l.length
    · rw [List.getElem_append_left hin]; exact hp i hin
    · have : i = n := by simp at hi; omega
      subst this
      rw [List.getElem_append_right (by omega)]
      simpa [hl] using ht
theorem add_add' (b off i j : Nat) : ((⟨b, off, none⟩ : Addr).add i).add j = ⟨b, off + i + j, none⟩ := by
  unfold Addr.add
  by_cases hi : i = 0 <;> by_cases hj : j = 0 <;> simp [hi, hj]

section
variable {H : Type} {enc : TypeId × Value → H} {w W : World} {base b0 : Nat} {spare : Nat → Bool} {held : Bool}

/-- Fourteen cells that are read as a packet. -/
theorem packet_cells {fuel : Nat} {l : List Value} {x : DataW H × List MemPlace} (h : DataW.trod enc Try.prog W b0 spare held fuel 34 l = some x) :
    ∃ p : Pk, l = p.enc ∧ p.s.size ≤ maxLen ∧ p.Wf := by
  have c3 : Try.prog.cellsOf 3 = 1 := by kernel_rfl
  have c4 : Try.prog.cellsOf 4 = 1 := by kernel_rfl
  have c9 : Try.prog.cellsOf 9 = 1 := by kernel_rfl
  have c23 : Try.prog.cellsOf 32 = 4 := by kernel_rfl
  obtain ⟨ys, n', _, _, hlen, hyl, hf⟩ := DataW.trod_struct Try.underlying34 h
  rw [cells25] at hlen
  match l, hlen with
  | [x0, x1, x2, x3, x4, x5, x6, x7, x8, x9, x10, x11, x12, x13], _ =>
    match ys, hyl with
    | [y0, y1, y2, y3, y4, y5, y6, y7], _ =>
      have f0 : DataW.trod enc Try.prog W b0 spare held n' 3 (([x0, x1, x2, x3, x4, x5, x6, x7, x8, x9, x10, x11, x12, x13].drop 0).take (Try.prog.cellsOf 3)) = some y0 := hf 0 _ rfl
      have f1 : DataW.trod enc Try.prog W b0 spare held n' 4 (([x0, x1, x2, x3, x4, x5, x6, x7, x8, x9, x10, x11, x12, x13].drop 1).take (Try.prog.cellsOf 4)) = some y1 := hf 1 _ rfl
      have f2 : DataW.trod enc Try.prog W b0 spare held n' 3 (([x0, x1, x2, x3, x4, x5, x6, x7, x8, x9, x10, x11, x12, x13].drop 2).take (Try.prog.cellsOf 3)) = some y2 := hf 2 _ rfl
      have f3 : DataW.trod enc Try.prog W b0 spare held n' 3 (([x0, x1, x2, x3, x4, x5, x6, x7, x8, x9, x10, x11, x12, x13].drop 3).take (Try.prog.cellsOf 3)) = some y3 := hf 3 _ rfl
      have f4 : DataW.trod enc Try.prog W b0 spare held n' 3 (([x0, x1, x2, x3, x4, x5, x6, x7, x8, x9, x10, x11, x12, x13].drop 4).take (Try.prog.cellsOf 3)) = some y4 := hf 4 _ rfl
      have f5 : DataW.trod enc Try.prog W b0 spare held n' 32 (([x0, x1, x2, x3, x4, x5, x6, x7, x8, x9, x10, x11, x12, x13].drop 5).take (Try.prog.cellsOf 32)) = some y5 := hf 5 _ rfl
      have f6 : DataW.trod enc Try.prog W b0 spare held n' 32 (([x0, x1, x2, x3, x4, x5, x6, x7, x8, x9, x10, x11, x12, x13].drop 9).take (Try.prog.cellsOf 32)) = some y6 := hf 6 _ rfl
      have f7 : DataW.trod enc Try.prog W b0 spare held n' 9 (([x0, x1, x2, x3, x4, x5, x6, x7, x8, x9, x10, x11, x12, x13].drop 13).take (Try.prog.cellsOf 9)) = some y7 := hf 7 _ rfl
      rw [c3] at f0 f2 f3 f4
      rw [c4] at f1
      rw [c23] at f5 f6
      rw [c9] at f7
      have f0 : DataW.trod enc Try.prog W b0 spare held n' 3 [x0] = some y0 := f0
      have f1 : DataW.trod enc Try.prog W b0 spare held n' 4 [x1] = some y1 := f1
      have f2 : DataW.trod enc Try.prog W b0 spare held n' 3 [x2] = some y2 := f2
      have f3 : DataW.trod enc Try.prog W b0 spare held n' 3 [x3] = some y3 := f3
      have f4 : DataW.trod enc Try.prog W b0 spare held n' 3 [x4] = some y4 := f4
      have f5 : DataW.trod enc Try.prog W b0 spare held n' 32 [x5, x6, x7, x8] = some y5 := f5
      have f6 : DataW.trod enc Try.prog W b0 spare held n' 32 [x9, x10, x11, x12] = some y6 := f6
      have f7 : DataW.trod enc Try.prog W b0 spare held n' 9 [x13] = some y7 := f7
      obtain ⟨n0, e0, _, w0⟩ := DataW.trod_int Try.underlying3 f0
      obtain ⟨m, e1, _⟩ := DataW.trod_bool Try.underlying4 f1
      obtain ⟨n2, e2, _, w2⟩ := DataW.trod_int Try.underlying3 f2
      obtain ⟨n3, e3, _, w3⟩ := DataW.trod_int Try.underlying3 f3
      obtain ⟨n4, e4, _, w4⟩ := DataW.trod_int Try.underlying3 f4
      obtain ⟨a, e5⟩ := ip_cells f5
      obtain ⟨b, e6⟩ := ip_cells f6
      obtain ⟨s, e7, h7, w7⟩ := DataW.trod_string Try.underlying9 f7
      simp only [List.cons.injEq, and_true] at e0 e1 e2 e3 e4 e5 e6 e7
      obtain ⟨rfl, rfl, rfl, rfl⟩ := e5
      obtain ⟨rfl, rfl, rfl, rfl⟩ := e6
      subst e0 e1 e2 e3 e4 e7
      exact ⟨⟨n0, m, n2, n3, n4, a, b, s⟩, rfl, by first | exact w7 | exact h7, ⟨w4, w0⟩⟩

/-- A list of packets that comes in. -/
theorem packets_open {fuel : Nat} {v : Value} {x : DataW H × List MemPlace} (h : DataW.trod enc Try.prog w base spare held fuel 57 [v] = some x) :
    ∃ Ad cap l, v = .slice Ad (List.length l) cap ∧ PksAt w Ad l ∧ l.length ≤ maxLen ∧ ∀ p ∈ l, p.s.size ≤ maxLen ∧ p.Wf := by
  have hC : Try.prog.cellsOf 34 = 14 := by kernel_rfl
  rcases open_slice Try.underlying57 h with ⟨hcs, _⟩ | ⟨a, len, cap, m, n, D, Pl, hcs, _, hl, hm, hmm, _, hall⟩
  · exact ⟨none, 0, [], by simpa using hcs, fun h => absurd rfl h, by simp, fun p h => by simp at h⟩
  · have hlm : len ≤ m := by rw [hmm]; split <;> omega
    have each : ∀ i, i < len → ∃ t : Pk, (t.s.size ≤ maxLen ∧ t.Wf) ∧ ∃ b off, a = ⟨b, off, none⟩ ∧ b < w.heap.size ∧ PkAt w b (off + i * 14) t := by
      intro i hi
      obtain ⟨cs, hcell, htr⟩ := hall i (by omega)
      rw [hC] at hcell
      obtain ⟨_, hlen, hat⟩ := World.cells?_some hcell
      obtain ⟨p, rfl, hps⟩ := packet_cells htr
      obtain ⟨b, off, spot⟩ := a
      have hspot : spot = none := by
        obtain ⟨cs0, hcell0, htr0⟩ := hall 0 (by omega)
        rw [hC] at hcell0
        obtain ⟨_, hlen0, hat0⟩ := World.cells?_some hcell0
        have q0 := hat0 0 (by omega)
        rw [List.getElem?_eq_getElem (by omega)] at q0
        simpa [Addr.add] using World.cell?_spot q0
      subst hspot
      have hk : ∀ k (hk : k < 14), w.cell? ⟨b, off + i * 14 + k, none⟩ = some (p.enc[k]'(by rw [Pk.enc_length]; exact hk)) := fun k hk => by
        have h1 := hat k (by omega)
        rw [List.getElem?_eq_getElem (by rw [Pk.enc_length]; exact hk)] at h1
        rw [add_add'] at h1
        exact h1
      exact ⟨p, hps, b, off, rfl, cell_lt (hk 0 (by omega)), hk 0 (by omega), hk 1 (by omega), hk 2 (by omega), hk 3 (by omega), hk 4 (by omega), hk 5 (by omega), hk 6 (by omega), hk 7 (by omega), hk 8 (by omega), hk 9 (by omega), hk 10 (by omega), hk 11 (by omega), hk 12 (by omega), hk 13 (by omega)⟩
    obtain ⟨l, hll, hlp⟩ := list_of len each
    refine ⟨some a, cap, l, by rw [hll]; simpa using hcs, fun hne => ?_, by omega, fun p hp => ?_⟩
    · have hpos : 0 < l.length := List.length_pos_iff.2 hne
      obtain ⟨_, b, off, rfl, hb, _⟩ := hlp 0 hpos
      refine ⟨b, off, rfl, hb, fun i hi => ?_⟩
      obtain ⟨_, b', off', e, _, hit⟩ := hlp i hi
      cases e
      exact hit
    · obtain ⟨i, hi, rfl⟩ := List.getElem_of_mem hp
      exact (hlp i hi).1
end
end Go.Proofs.Ytgdjcoodjdckkaa
/- Packets that are put in, one behind the other: what stays. -/
set_option maxRecDepth 100000
namespace Go.Proofs.Ytgdjcoodjdckkaa
open Go.RowKit Go.Proofs.PitotIp Go.Maps
open Go.Proofs.PitotReasm (Bg Tb Fine bad first next passed passE put keep)
open Go.Proofs.Ytgdjcoodjdckkaa.Bi (lies_lt lies_cell lies_frozen lies_alloc lies_set)

theorem put_now {most : Nat} {wait : Int} {t : Tb K UInt8} {n : Int} (hp : passE t n = 0) (k : K) (m : Bool) (o : Int) (d : List UInt8) : (put most wait t n k m o d).1.now = n := by
  unfold put
  rw [if_neg (by omega)]
  by_cases h2 : m = false ∧ o = 0
  · rw [if_pos h2]; rfl
  · rw [if_neg h2]
    by_cases h3 : o = 0
    · rw [if_pos h3]
      show (first most (passed t wait n) k m d).1.now = n
      unfold first
      split
      · rfl
      · split
        · rfl
        · simp only; split <;> rfl
    · rw [if_neg h3]
      show (next (passed t wait n) k m o d).1.now = n
      unfold next
      cases PitotReasm.find (passed t wait n).l k with
      | none => rfl
      | some b =>
        simp only
        generalize (if b.d.length % 8 ≠ 0 ∨ o ≠ ((b.d.length / 8 : Nat) : Int) then (25 : Int) else if bad m d = true then 15 else if 8200 < b.d.length + d.length then 11 else 0) = e
        split
        · rfl
        · split <;> rfl
theorem pass_zero {t : Tb K UInt8} {n : Int} (h1 : t.now ≤ n) (h2 : n ≤ 1125899906842624) : passE t n = 0 := by
  unfold passE
  rw [if_neg (by omega), if_neg (by omega)]
/-- What is so of a table into which packets were put at the ticks 0, 1, .. -/
structure Run (most i : Nat) (T : Tb K UInt8) : Prop where
  good : Good most T
  now : T.now ≤ i
  dr : T.dr ≤ i * 128
theorem run_zero (most : Nat) : Run most 0 t0 := ⟨good_new most, by simp [t0], by simp [t0]⟩
theorem run_next {most i : Nat} {T : Tb K UInt8} (h : Run most i T) (hm : most ≤ 64) (hi : i ≤ 1000000) (wait : Int) (k : K) (m : Bool) (o : Int) (d : List UInt8) : Run most (i + 1) (put most wait T i k m o d).1 := by
  have hp := pass_zero h.now (show (i : Int) ≤ 1125899906842624 by omega)
  refine ⟨put_good h.good _ _ _ _ _, ?_, ?_⟩
  · rw [put_now hp]; omega
  · have := put_dr h.good (i : Int) k m o d (wait := wait)
    have := h.dr
    omega
/-- A Put in such a run. -/
theorem run_put {base most : Nat} {wait : Int} {T : Tb K UInt8} {i : Nat} (h : Run most i T) (hm : most ≤ 64) (hi : i ≤ 1000000) (hw0 : 0 ≤ wait) (hw1 : wait ≤ 1125899906842624) {p : Pk} (hw : p.Wf) (hs : p.s.size ≤ 1000000000) {tp : Nat} {V : World} (hT : TabAt base V tp most wait T) :
    Calls Try.prog 14 #[.pointer (some ⟨tp, 0, none⟩), .int .i64 i, p.val] V fun r V' => r = .returned (.tuple #[(ansP p (put most wait T i (p.key hw) p.m p.off p.d).2.1).val, .bool (put most wait T i (p.key hw) p.m p.off p.d).2.1.isSome, .int .i64 (put most wait T i (p.key hw) p.m p.off p.d).2.2]) ∧
      TabAt base V' tp most wait (put most wait T i (p.key hw) p.m p.off p.d).1 ∧ Fr base V V' := by
  have := h.dr
  have := put_any hT h.good hm (by omega) hw0 hw1 (i : Int) p hw hs
  exact this
end Go.Proofs.Ytgdjcoodjdckkaa
/- Contract of cut: a packet as so many parts. -/
set_option maxRecDepth 100000
namespace Go.Proofs.Ytgdjcoodjdckkaa
open Go.RowKit Go.Proofs.PitotFrag Go.Proofs.PitotIp
open Go.Proofs.Ytgdjcoodjdckkaa.Bi (lies_lt lies_cell lies_frozen lies_alloc lies_set)

def bl (l : List UInt8) : ByteArray := ⟨l.toArray⟩
theorem bl_size (l : List UInt8) : (bl l).size = l.length := by show l.toArray.size = _; simp
theorem bl_list (l : List UInt8) : (bl l).data.toList = l := by simp [bl]
theorem bl_of (s : ByteArray) : bl s.data.toList = s := rfl
theorem bl_extract (l : List UInt8) (i j : Nat) : (bl l).extract i j = bl ((l.drop i).take (j - i)) := by
  apply ByteArray.ext
  rw [ByteArray.data_extract, ← Array.toList_inj]
  simp [bl, List.take_drop]
  

/-- The parts of a packet: C of R bytes, and what is left. -/
def partAt (p : Pk) (R k : Nat) : Pk := { p with m := true, off := (k * (R / 8) : Nat), s := bl (piece p.s.data.toList R k) }
def restAt (p : Pk) (R k : Nat) : Pk := { p with off := (k * (R / 8) : Nat), s := bl (p.s.data.toList.drop (k * R)) }
def cutP (p : Pk) (C R : Nat) : List Pk := (List.range C).map (partAt p R) ++ [restAt p R C]
theorem cutP_length (p : Pk) (C R : Nat) : (cutP p C R).length = C + 1 := by simp [cutP]

theorem Try.info34 : (Try.prog.info? 34).map (fun i => (i.zero, i.size, i.bytes)) = some (some pk0, 14, 64) := by kernel_rfl

theorem make_packets (c : Nat) (hc : c ≤ 1000000) : ∃ M : Array Value, M.size = c * 14 ∧ ∀ w, (Instr.makeSlice 57 (.int .i64 0) (.int .i64 c)).run Try.prog w = .ok (.slice (some ⟨w.heap.size, 0, none⟩) 0 c) (w.alloc (.cells M 34)) := by
  obtain ⟨i, hi, hz0, hz1, hz2⟩ := info_parts Try.info34
  refine ⟨madeCells pk0.cells (c * i.size), by rw [size_madeCells, hz1], fun w => ?_⟩
  have hr := run_make (P := Try.prog) w 57 34 i _ Try.underlying57 hi hz0 .i64 .i64 0 c (Int.le_refl _) (by omega) (by rw [hz2]; omega) (by omega)
  simpa using hr

theorem new2 (w : World) (o o' : Obj) : ((w.alloc o).alloc o').heap[w.heap.size + 1]? = some o' := by
  have := heap_alloc_new (w.alloc o) o'
  rwa [show (w.alloc o).heap.size = w.heap.size + 1 by simp] at this
theorem parts_take (p : Pk) (C R k : Nat) (hk : k < C) : ((List.range C).map (partAt p R)).take (k + 1) = ((List.range C).map (partAt p R)).take k ++ [partAt p R k] := by
  rw [List.take_succ_eq_append_getElem (by simpa using hk)]
  simp
theorem drop_piece (l : List UInt8) (R k : Nat) : (l.drop (k * R)).take R = piece l R k := rfl
theorem mul_lt {k C R n : Nat} (hk : k < C) (h : C * R ≤ n) : k * R + R ≤ n := by
  have : (k + 1) * R ≤ C * R := Nat.mul_le_mul_right _ hk
  rw [Nat.add_mul] at this
  omega

set_option maxHeartbeats 4000000 in
theorem cut_any (p : Pk) (C R : Nat) (hR : 24 ≤ R) (hR2 : R ≤ 1479) (hC : C * R ≤ p.s.size) (hs : p.s.size ≤ 65515) (hoff : p.off = 0) (w : World) :
    Calls Try.prog 33 #[p.val, .int .i64 (C + 1 : Nat), .int .i64 R] w fun e w' => ∃ g cap, e = .returned (.slice (some ⟨g, 0, none⟩) (C + 1) cap) ∧ w'.ownsRow w.heap.size 34 14 (.slice (some ⟨g, 0, none⟩) (C + 1) cap) (C + 1) (flatP (cutP p C R)) ∧ Below w.heap.size w w' := by
  obtain ⟨M, hM, HM⟩ := make_packets (C + 1) (by have : C * 24 ≤ C * R := Nat.mul_le_mul_left _ hR; omega)
  obtain ⟨i0, hi, hz0, hz1, hz2⟩ := info_parts Try.info34
  have hC2 : C ≤ 65515 := by have : C * 24 ≤ C * R := Nat.mul_le_mul_left _ hR; omega
  obtain ⟨id, m, off, ttl, pr, a, b, s⟩ := p
  simp only at hoff hs hC
  subst hoff
  obtain ⟨l, rfl⟩ : ∃ l, s = bl l := ⟨s.data.toList, rfl⟩
  have Hlen : Hid ((bl l).size = l.length) := bl_size l
  rw [Hlen.out] at hC hs
  obtain ⟨LS, HLS⟩ : ∃ LS, Hid (LS = cutP ⟨id, m, 0, ttl, pr, a, b, bl l⟩ C R) := ⟨_, rfl⟩
  rw [← HLS.out]
  obtain ⟨PS, HPS⟩ : ∃ PS, Hid (PS = (List.range C).map (partAt ⟨id, m, 0, ttl, pr, a, b, bl l⟩ R)) := ⟨_, rfl⟩
  have Hend : Hid (LS = PS ++ [⟨id, m, (C * (R / 8) : Nat), ttl, pr, a, b, bl (l.drop (C * R))⟩]) := by show _ = _; rw [HLS.out, HPS.out]; simp [cutP, restAt, bl_list]
  have HPl : Hid (PS.length = C) := by show _ = _; rw [HPS.out]; simp
  have Hst : Hid (∀ k, k < C → PS.take (k + 1) = PS.take k ++ [⟨id, true, (k * (R / 8) : Nat), ttl, pr, a, b, bl ((l.drop (k * R)).take R)⟩]) := by
    show ∀ k, _
    intro k hk
    rw [HPS.out, parts_take _ _ _ _ hk]; simp [partAt, piece, bl_list]
  clear HLS HPS
  have HMO : Hid ((((w.alloc (pkC id m 0 ttl pr a b (bl l))).alloc (.cells M 34)).alloc (pkC id m 0 ttl pr a b (bl l))).ownsRow w.heap.size 34 14 (.slice (some ⟨w.heap.size + 1, 0, none⟩) 0 (C + 1)) 0 []) := by
    show World.ownsRow _ _ _ _ _ _ _
    have := (World.ownsRow_made (base := w.heap.size) (e := 34) (size := 14) (w.alloc (pkC id m 0 ttl pr a b (bl l))) M (C + 1) (by simp) (by unfold maxLen; omega) hM).alloc (pkC id m 0 ttl pr a b (bl l))
    simpa using this
  have kb : Hid (Below w.heap.size w (((w.alloc (pkC id m 0 ttl pr a b (bl l))).alloc (.cells M 34)).alloc (pkC id m 0 ttl pr a b (bl l)))) := by
    have k1 := (Below.refl w.heap.size w).alloc (Nat.le_refl _) (pkC id m 0 ttl pr a b (bl l))
    have k2 := k1.alloc k1.size (.cells M 34)
    exact k2.alloc k2.size _
  have L8 : Hid ((((w.alloc (pkC id m 0 ttl pr a b (bl l))).alloc (.cells M 34)).alloc (pkC id m 0 ttl pr a b (bl l))).heap[w.heap.size + 1 + 1]? = some (pkC id m 0 ttl pr a b (bl l))) := by
    have := heap_alloc_new ((w.alloc (pkC id m 0 ttl pr a b (bl l))).alloc (.cells M 34)) (pkC id m 0 ttl pr a b (bl l))
    rw [show ((w.alloc (pkC id m 0 ttl pr a b (bl l))).alloc (.cells M 34)).heap.size = w.heap.size + 1 + 1 by simp] at this
    exact this
  clear hM
  rw [show ((C + 1 : Nat) : Int) = (C : Int) + 1 by omega] at HM ⊢
  go_enter Try.func33, Try.ntmps33
  go_wp2
  refine wp_scope_jumps 0 (fun a' w' => ∃ (g cap : Nat) (u9 u10 u11 u12 u13 u14 u15 u16 u17 u18 u19 u20 u21 u22 u23 u24 u25 u26 u27 u28 u29 u30 u31 u32 u33 u34 u35 u36 u37 u38 u39 : Value) , a' = { tmps := #[pk id m 0 ttl pr a b (bl l), .int .i64 (C + 1), .int .i64 R, .pointer (some ⟨w.heap.size, 0, none⟩), undef, undef, .slice none 0 0, .slice (some ⟨g, 0, none⟩) C cap, .pointer (some ⟨w.heap.size + 1 + 1, 0, none⟩), u9, u10, u11, u12, u13, u14, u15, u16, u17, u18, u19, u20, u21, u22, u23, u24, u25, u26, u27, u28, u29, u30, u31, u32, u33, u34, u35, u36, u37, u38, u39, undef, undef, undef, undef], defers := [] } ∧ w'.ownsRow w.heap.size 34 14 (.slice (some ⟨g, 0, none⟩) C cap) C (flatP PS) ∧ w'.heap[w.heap.size + 1 + 1]? = some (pkC id m (C * (R / 8) : Nat) ttl pr a b (bl (l.drop (C * R)))) ∧ g ≠ w.heap.size + 1 + 1 ∧ Below w.heap.size w w') (fun _ _ => 0) rfl ?_ ?_
  · go_wp2
    go_loopw [7] (fun v7 wr => ∃ (k g cap : Nat), k ≤ C ∧ v7 = .slice (some ⟨g, 0, none⟩) k cap ∧ wr.ownsRow w.heap.size 34 14 (.slice (some ⟨g, 0, none⟩) k cap) k (flatP (PS.take k)) ∧ wr.heap[w.heap.size + 1 + 1]? = some (pkC id m (k * (R / 8) : Nat) ttl pr a b (bl (l.drop (k * R)))) ∧ g ≠ w.heap.size + 1 + 1 ∧ Below w.heap.size w wr) (fun v7 _ => C - Bi.sliceLen v7)
    case atStart =>
      refine ⟨0, w.heap.size + 1, C + 1, Nat.zero_le _, rfl, HMO.out, ?_, by omega, kb.out⟩
      have := L8.out
      simpa using this
    case round =>
      obtain ⟨k, g, cap, hk, rfl, hown, hL, hne, hb⟩ := hrel
      clear HMO kb L8 HM
      by_cases hkC : k = C
      · subst hkC
        rw [List.take_of_length_le (by rw [HPl.out]; omega)] at hown
        go_wp2
        go_step3
        refine (show (0 : Nat) = 0 ∧ _ from ⟨rfl, ?_⟩)
        exact ⟨g, cap, _, _, _, _, _, _, _, _, _, _, _, _, _, _, _, _, _, _, _, _, _, _, _, _, _, _, _, _, _, _, _, rfl, hown, hL, hne, hb⟩
      · have hk2 : k < C := by omega
        have hk3 : ¬ (k : Int) = C := by omega
        obtain ⟨O, hO⟩ : ∃ O, Hid (O = k * (R / 8)) := ⟨_, rfl⟩
        obtain ⟨D, hD⟩ : ∃ D, Hid (D = bl (l.drop (k * R))) := ⟨_, rfl⟩
        rw [← hO.out, ← hD.out] at hL
        obtain ⟨X, hX⟩ : ∃ X, D.extract 0 R = X := ⟨_, rfl⟩
        obtain ⟨Y, hY⟩ : ∃ Y, D.extract R D.size = Y := ⟨_, rfl⟩
        have m1 := mul_lt hk2 hC
        have d0 : D.size = l.length - k * R := by rw [hD.out, bl_size]; simp
        have d1 : R ≤ D.size := by omega
        have d2 : D.size ≤ 65515 := by omega
        have o1 : O ≤ 65515 := by
          have : k * (R / 8) ≤ k * R := Nat.mul_le_mul_left _ (by omega)
          rw [hO.out]; omega
        have HX : Hid (X = bl ((l.drop (k * R)).take R)) := by show _ = _; rw [← hX, hD.out, bl_extract]; simp
        have HY : Hid (Y = bl (l.drop ((k + 1) * R))) := by
          show _ = _
          rw [← hY, hD.out, bl_extract, bl_size, List.drop_drop, Nat.add_mul, Nat.one_mul, List.take_of_length_le (by simp only [List.length_drop]; omega)]
        clear d0 m1
        obtain ⟨c0, c1, c2, c3, c4, c5, c6, c7, c8, c9, c10, c11, c12, c13⟩ := cells14 hL
        have f2 := lies_frozen hL 2
        have f13 := lies_frozen hL 13
        have hlt := lies_lt hL
        have hne2 : ¬ wr.heap.size = w.heap.size + 1 + 1 := by omega
        have HL := Lib.hid hL; clear hL
        have hbs := hb.size
        have Hone := Lib.hid (Pk.enc_one ⟨id, true, O, ttl, pr, a, b, X⟩)
        clear c0 c1 c3 c4 c5 c6 c7 c8 c9 c10 c11 c12
        obtain ⟨c0, c1, c2, c3, c4, c5, c6, c7, c8, c9, c10, c11, c12, c13⟩ := cells14 HL.out
        go_wp2_with (at_builtin; refine wpList_append_lies _ rfl _ _ 57 (by rfl) w.heap.size 34 i0 pk0 14 64 Try.underlying57 hi hz0 hz1 hz2 rfl (by decide) _ _ _ (by rfl) ((hown.alloc _).alloc _) ⟨wr.heap.size + 1, 0, none⟩ 1 1 (Pk.enc ⟨id, true, O, ttl, pr, a, b, X⟩) (by rfl) rfl (World.news_of_block (new2 wr _ _)) Hone.out (by omega) (by unfold maxLen; omega) (by omega) (by simp; omega) (wr.heap.size + 1 + 1) (by simp) ?_; intro gg cap2 w2 hown2 hgrow2 hat2 hlt2
                     (have L2 : w2.heap[w.heap.size + 1 + 1]? = some (pkC id m O ttl pr a b D) := (hgrow2.block _ (by simp; omega) (by intro e; injection e with e; exact hne e.symm)).trans (lies_alloc (lies_alloc HL.out _) _))
                     (clear c0 c1 c2 c3 c4 c5 c6 c7 c8 c9 c10 c11 c12 c13 f2 f13)
                     (have c2 : w2.cell? ⟨w.heap.size + 1 + 1, 2, none⟩ = some (.int .i64 O) := lies_cell L2 2)
                     (have c13 : w2.cell? ⟨w.heap.size + 1 + 1, 13, none⟩ = some (.string D) := lies_cell L2 13)
                     (have f2 := lies_frozen L2 2)
                     (have f13 := lies_frozen L2 13)
                     (have L2 := Lib.hid L2))
        have hb2 : Below w.heap.size w w2 := ((hb.alloc hbs _).alloc (by simp; omega) _).grown hgrow2 (by simp; omega) (fun j hj => (hown.lt j hj).1)
        have hgne : gg ≠ w.heap.size + 1 + 1 := by
          rcases hat2 with e | e
          · have e : g = gg := by simpa [Value.ownBlock] using e
            rw [← e]; exact hne
          · omega
        go_roundw
        case rel =>
          refine ⟨k + 1, gg, cap2, by omega, rfl, ?_, ?_, hgne, (hb2.setCell (p := ⟨w.heap.size + 1 + 1, 2, none⟩) (by show w.heap.size ≤ w.heap.size + 1 + 1; omega) _).setCell (p := ⟨w.heap.size + 1 + 1, 13, none⟩) (by show w.heap.size ≤ w.heap.size + 1 + 1; omega) _⟩
          · rw [Hst.out k hk2, flatP_snoc, ← hO.out, ← HX.out]
            exact (hown2.kept (Bi.grown_trans (Bi.grown_set _ 2 _) (Bi.grown_set _ 13 _)) (.inr (by intro e; injection e with e; exact hgne e)))
          · have e1 : (((k + 1) * (R / 8) : Nat) : Int) = (O : Int) + (R : Int) / 8 := by
              have := hO.out
              rw [Nat.add_mul, Nat.one_mul]
              omega
            rw [e1, ← HY.out]
            exact lies_set (lies_set L2.out 2 _) 13 _
        case measure => simp only [Bi.sliceLen]; omega
  · rintro a' w' ⟨g, cap, u9, u10, u11, u12, u13, u14, u15, u16, u17, u18, u19, u20, u21, u22, u23, u24, u25, u26, u27, u28, u29, u30, u31, u32, u33, u34, u35, u36, u37, u38, u39, rfl, hown, L, hne, hb⟩
    have hbs := hb.size
    have Hone := Lib.hid (Pk.enc_one ⟨id, m, (C * (R / 8) : Nat), ttl, pr, a, b, bl (l.drop (C * R))⟩)
    obtain ⟨O, hO⟩ : ∃ O, Hid (O = C * (R / 8)) := ⟨_, rfl⟩
    obtain ⟨D, hD⟩ : ∃ D, Hid (D = bl (l.drop (C * R))) := ⟨_, rfl⟩
    rw [← hO.out, ← hD.out] at L Hone Hend
    obtain ⟨c0, c1, c2, c3, c4, c5, c6, c7, c8, c9, c10, c11, c12, c13⟩ := cells14 L
    have L := Lib.hid L
    go_wp2_with (at_builtin; refine wpList_append_lies _ rfl _ _ 57 (by rfl) w.heap.size 34 i0 pk0 14 64 Try.underlying57 hi hz0 hz1 hz2 rfl (by decide) _ _ _ (by rfl) (hown.alloc _) ⟨w'.heap.size, 0, none⟩ 1 1 (Pk.enc ⟨id, m, O, ttl, pr, a, b, D⟩) (by rfl) rfl (World.news_of_block (heap_alloc_new w' _)) Hone.out (by omega) (by unfold maxLen; omega) (by omega) (by simp; omega) _ rfl ?_; intro gg cap2 w2 hown2 hgrow2 hat2 hlt2)
    simp only [Exit.jump]
    go_returns
    refine ⟨gg, cap2, rfl, ?_, (hb.alloc hbs _).grown hgrow2 (by simp; omega) (fun j hj => (hown.lt j hj).1)⟩
    rw [Hend.out, flatP_snoc]
    exact hown2
end Go.Proofs.Ytgdjcoodjdckkaa
/- Contracts of Split: a packet as parts. -/
set_option maxRecDepth 100000
namespace Go.Proofs.Ytgdjcoodjdckkaa
open Go.RowKit Go.Proofs.PitotFrag Go.Proofs.PitotIp
open Go.Proofs.Ytgdjcoodjdckkaa.Bi (lies_lt lies_cell lies_frozen lies_alloc lies_set)

abbrev noParts (e : Int) : Value := .tuple #[.slice none 0 0, .int .i64 e]

set_option maxHeartbeats 1000000 in
theorem split_arg (p : Pk) (x : Int) (hx : x < 64 ∨ 1518 < x) (w : World) :
    Calls Try.prog 20 #[p.val, .int .i64 x] w fun e w' => e = .returned (noParts 1) ∧ Below w.heap.size w w' := by
  obtain ⟨id, m, off, ttl, pr, a, b, s⟩ := p
  have kb : Hid (Below w.heap.size w (w.alloc (pkC id m off ttl pr a b s))) := (Below.refl _ w).alloc (Nat.le_refl _) _
  have H := Lib.hid (room_arg x hx)
  clear hx
  go_enter Try.func20, Try.ntmps20
  go_wp2_with (go_at_call 31; (with_reducible refine (H.out _).mono ?_); rintro r w1 ⟨rfl, rfl⟩)
  go_returns
  exact ⟨rfl, kb.out⟩

set_option maxHeartbeats 1000000 in
theorem split_field (p : Pk) (m : Nat) (h1 : 25 ≤ m) (hm : m ≤ 1479) (h : p.m = true ∨ p.off ≠ 0) (w : World) :
    Calls Try.prog 20 #[p.val, .int .i64 (m + 39)] w fun e w' => e = .returned (noParts 15) ∧ Below w.heap.size w w' := by
  obtain ⟨id, mo, off, ttl, pr, a, b, s⟩ := p
  have kb : Hid (Below w.heap.size w (w.alloc (pkC id mo off ttl pr a b s))) := (Below.refl _ w).alloc (Nat.le_refl _) _
  have H := Lib.hid (room_ok m h1 hm)
  simp only at h
  cases mo
  · have h2 : ¬ off = 0 := by rcases h with h | h; cases h; exact h
    clear h
    go_enter Try.func20, Try.ntmps20
    go_wp2_with (go_at_call 31; (with_reducible refine (H.out _).mono ?_); rintro r w1 ⟨rfl, rfl⟩)
    go_returns
    exact ⟨rfl, kb.out⟩
  · clear h
    go_enter Try.func20, Try.ntmps20
    go_wp2_with (go_at_call 31; (with_reducible refine (H.out _).mono ?_); rintro r w1 ⟨rfl, rfl⟩)
    go_returns
    exact ⟨rfl, kb.out⟩

set_option maxHeartbeats 1000000 in
theorem split_long (p : Pk) (m : Nat) (h1 : 25 ≤ m) (hm : m ≤ 1479) (hmo : p.m = false) (ho : p.off = 0) (hs : 65515 < p.s.size) (hs2 : p.s.size ≤ 9223372036854775807) (w : World) :
    Calls Try.prog 20 #[p.val, .int .i64 (m + 39)] w fun e w' => e = .returned (noParts 11) ∧ Below w.heap.size w w' := by
  obtain ⟨id, mo, off, ttl, pr, a, b, s⟩ := p
  simp only at hmo ho hs hs2
  subst hmo ho
  have kb : Hid (Below w.heap.size w (w.alloc (pkC id false 0 ttl pr a b s))) := (Below.refl _ w).alloc (Nat.le_refl _) _
  have H := Lib.hid (room_ok m h1 hm)
  have H2 := Lib.hid (fun w => count_long m s.size h1 hm (by omega) w)
  go_enter Try.func20, Try.ntmps20
  go_wp2_with (first
    | (go_at_call 31; (with_reducible refine (H.out _).mono ?_); rintro r w1 ⟨rfl, rfl⟩)
    | (go_at_call 32; (with_reducible refine (H2.out _).mono ?_); rintro r w1 ⟨rfl, rfl⟩))
  go_returns
  exact ⟨rfl, kb.out⟩

theorem own_mono {w : World} {B B' : Nat} {e : TypeId} {size : Nat} {v : Value} {n : Nat} {xs : List Value} (h : w.ownsRow B e size v n xs) (hB : B' ≤ B) : w.ownsRow B' e size v n xs := by
  refine ⟨h.1, ?_⟩
  rcases h.2 with h | ⟨g, cap, cur, h1, h2, h3⟩
  · exact .inl h
  · exact .inr ⟨g, cap, cur, h1, Nat.le_trans hB h2, h3⟩
/-- The parts that Split makes of so many bytes a frame. -/
def spl (p : Pk) (m : Nat) : List Pk := cutP p (cnt p.s.size m (m / 8 * 8)) (m / 8 * 8)
theorem spl_length (p : Pk) (m : Nat) : (spl p m).length = cn p.s.size m := by simp [spl, cutP_length, cn]
theorem cnt_mul_le {l m R : Nat} (hR : 0 < R) (hRm : R ≤ m) : cnt l m R * R ≤ l := by
  rcases Nat.eq_zero_or_pos (cnt l m R) with h | h
  · rw [h]; omega
  · obtain ⟨n, hn⟩ : ∃ n, cnt l m R = n + 1 := ⟨cnt l m R - 1, by omega⟩
    have := (cnt_lt (long := l) (lim := m) hR n).1 (by omega)
    rw [hn, Nat.add_mul]
    omega

set_option maxHeartbeats 1000000 in
theorem split_ok (p : Pk) (m : Nat) (h1 : 25 ≤ m) (hm : m ≤ 1479) (hmo : p.m = false) (ho : p.off = 0) (hs : p.s.size ≤ 65515) (w : World) :
    Calls Try.prog 20 #[p.val, .int .i64 (m + 39)] w fun e w' => ∃ g cap, e = .returned (.tuple #[.slice (some ⟨g, 0, none⟩) (cn p.s.size m) cap, .int .i64 0]) ∧ w'.ownsRow w.heap.size 34 14 (.slice (some ⟨g, 0, none⟩) (cn p.s.size m) cap) (cn p.s.size m) (flatP (spl p m)) ∧ Below w.heap.size w w' := by
  obtain ⟨id, mo, off, ttl, pr, a, b, s⟩ := p
  simp only at hmo ho hs
  subst hmo ho
  have kb : Hid (Below w.heap.size w (w.alloc (pkC id false 0 ttl pr a b s))) := (Below.refl _ w).alloc (Nat.le_refl _) _
  have H := room_ok m h1 hm
  have H2 := fun w => count_ok m s.size h1 hm hs w
  have H3 := fun w => cut_any ⟨id, false, 0, ttl, pr, a, b, s⟩ (cnt s.size m (m / 8 * 8)) (m / 8 * 8) (by omega) (by omega) (cnt_mul_le (by omega) (by omega)) hs rfl w
  obtain ⟨LS, HLS⟩ : ∃ LS, Hid (LS = spl ⟨id, false, 0, ttl, pr, a, b, s⟩ m) := ⟨_, rfl⟩
  rw [show cutP ⟨id, false, 0, ttl, pr, a, b, s⟩ (cnt s.size m (m / 8 * 8)) (m / 8 * 8) = LS from HLS.out.symm, show cnt s.size m (m / 8 * 8) + 1 = cn s.size m from rfl] at H3
  rw [← HLS.out]
  generalize m / 8 * 8 = R at H H3
  show Calls Try.prog 20 _ _ fun e w' => ∃ g cap, e = .returned (.tuple #[.slice (some ⟨g, 0, none⟩) (cn s.size m) cap, .int .i64 0]) ∧ w'.ownsRow w.heap.size 34 14 (.slice (some ⟨g, 0, none⟩) (cn s.size m) cap) (cn s.size m) (flatP LS) ∧ Below w.heap.size w w'
  generalize cn s.size m = Q at H2 H3 ⊢
  have H := Lib.hid H; have H2 := Lib.hid H2; have H3 := Lib.hid H3
  clear HLS
  go_enter Try.func20, Try.ntmps20
  go_wp2_with (first
    | (go_at_call 31; (with_reducible refine (H.out _).mono ?_); rintro r w1 ⟨rfl, rfl⟩)
    | (go_at_call 32; (with_reducible refine (H2.out _).mono ?_); rintro r w1 ⟨rfl, rfl⟩)
    | (go_at_call 33; (with_reducible refine (H3.out _).mono ?_); rintro r w2 ⟨g, cap, rfl, hown, hb⟩))
  go_returns
  refine ⟨g, cap, rfl, ?_, kb.out.trans (hb.mono kb.out.size)⟩
  exact own_mono hown (by simp)
end Go.Proofs.Ytgdjcoodjdckkaa
/- What the parts are that Split makes. -/
set_option maxRecDepth 100000
namespace Go.Proofs.Ytgdjcoodjdckkaa
open Go.RowKit Go.Proofs.PitotFrag Go.Proofs.PitotIp
open Go.Proofs.Ytgdjcoodjdckkaa.Bi (lies_lt lies_cell lies_frozen lies_alloc lies_set)

theorem row_get {w : World} {base g n cap : Nat} {l : List Pk} (h : w.ownsRow base 34 14 (.slice (some ⟨g, 0, none⟩) n cap) n (flatP l)) (i : Nat) (hi : i < l.length) : PkAt w g (i * 14) l[i] := by
  have hc : ∀ j (hj : j < 14), w.cell? ⟨g, i * 14 + j, none⟩ = some (l[i].enc[j]'(by rw [Pk.enc_length]; exact hj)) := fun j hj => by
    have := h.cells (g := g) rfl (i * 14 + j) (l[i].enc[j]'(by rw [Pk.enc_length]; exact hj)) (by rw [flatP_get l i hi j hj]; exact List.getElem?_eq_getElem _)
    rwa [show (⟨g, 0, none⟩ : Addr).add (i * 14 + j) = ⟨g, i * 14 + j, none⟩ by unfold Addr.add; split <;> simp_all] at this
  exact ⟨hc 0 (by omega), hc 1 (by omega), hc 2 (by omega), hc 3 (by omega), hc 4 (by omega), hc 5 (by omega), hc 6 (by omega), hc 7 (by omega), hc 8 (by omega), hc 9 (by omega), hc 10 (by omega), hc 11 (by omega), hc 12 (by omega), hc 13 (by omega)⟩

theorem spl_part (p : Pk) (m k : Nat) (hk : k < cnt p.s.size m (m / 8 * 8)) (h : k < (spl p m).length) : (spl p m)[k] = partAt p (m / 8 * 8) k := by
  simp only [spl, cutP]
  rw [List.getElem_append_left (by simpa using hk)]
  simp
theorem spl_last (p : Pk) (m : Nat) (h : cnt p.s.size m (m / 8 * 8) < (spl p m).length) : (spl p m)[cnt p.s.size m (m / 8 * 8)] = restAt p (m / 8 * 8) (cnt p.s.size m (m / 8 * 8)) := by
  simp only [spl, cutP]
  rw [List.getElem_append_right (by simp)]
  simp
theorem size_list (s : ByteArray) : s.data.toList.length = s.size := by show s.data.toList.length = s.data.size; simp
theorem part_size (p : Pk) (m k : Nat) (hm : 25 ≤ m) (hk : k < cnt p.s.size m (m / 8 * 8)) : (partAt p (m / 8 * 8) k).s.size = m / 8 * 8 := by
  show (bl _).size = _
  rw [bl_size]
  rw [← size_list] at hk
  exact piece_length _ (by omega) (by omega) hk
theorem rest_size (p : Pk) (m : Nat) (hm : 25 ≤ m) : (restAt p (m / 8 * 8) (cnt p.s.size m (m / 8 * 8))).s.size ≤ m := by
  show (bl _).size ≤ _
  rw [bl_size, ← size_list]
  exact last_le _ (by omega)
theorem rest_two (p : Pk) (m n : Nat) (hm : 25 ≤ m) (hn : cnt p.s.size m (m / 8 * 8) = n + 1) : m < m / 8 * 8 + (restAt p (m / 8 * 8) (n + 1)).s.size := by
  show _ < _ + (bl _).size
  rw [bl_size]
  rw [← size_list] at hn
  exact last_two _ (by omega) hn

/-- A packet that one frame carries is its only part. -/
theorem spl_small (p : Pk) (m : Nat) (h1 : 25 ≤ m) (hs : p.s.size ≤ m) (ho : p.off = 0) : spl p m = [p] := by
  obtain ⟨id, mo, off, ttl, pr, a, b, s⟩ := p
  simp only at ho hs
  subst ho
  simp [spl, cutP, cnt_zero (show 0 < m / 8 * 8 by omega) hs, restAt, bl]
theorem cn_small {l m : Nat} (h1 : 25 ≤ m) (hs : l ≤ m) : cn l m = 1 := by simp [cn, cnt_zero (show 0 < m / 8 * 8 by omega) hs]
theorem cn_two {m : Nat} (h1 : 25 ≤ m) : cn (m + 1) m = 2 := by
  rw [cn, cnt_step (by omega) (by omega), cnt_zero (by omega) (by omega)]
end Go.Proofs.Ytgdjcoodjdckkaa
/- The contracts of the library functions that the program calls, laid over this program by the kit's own command in plain words. -/
namespace Go.Proofs
open Go.Shelf
def Try.lays169_ren : Go.Shelf.Ren := ⟨fun | 169 => 43 | n => n, fun | 70 => 94 | 9 => 9 | 0 => 0 | 72 => 96 | 37 => 71 | 127 => 104 | 3 => 3 | 5 => 5 | n => n, fun | n => n⟩
theorem Try.lays169 : Go.Proofs.Lays.n169 Try.prog Try.lays169_ren := {
  mixed := by kernel_rfl
  f169 := Try.func43.trans (congrArg some (by kernel_rfl))
  t0 := Try.underlying0
  a0 := Try.isAgg0
  z0 := Try.sizeOf0
  v0 := Try.zeroValue0
  t3 := Try.underlying3
  a3 := Try.isAgg3
  z3 := Try.sizeOf3
  v3 := Try.zeroValue3
  t9 := Try.underlying9
  a9 := Try.isAgg9
  z9 := Try.sizeOf9
  v9 := Try.zeroValue9
  t37 := Try.underlying71
  a37 := Try.isAgg71
  z37 := Try.sizeOf71
  v37 := Try.zeroValue71
  t70 := Try.underlying94
  a70 := Try.isAgg94
  z70 := Try.sizeOf94
  v70 := Try.zeroValue94
  t72 := Try.underlying96
  a72 := Try.isAgg96
  z72 := Try.sizeOf96
  v72 := Try.zeroValue96
  t127 := Try.underlying104
  a127 := Try.isAgg104
  z127 := Try.sizeOf104
  v127 := Try.zeroValue104 }
theorem Try.Builder_Extra_169 : Builder.Extra Try.prog Try.lays169_ren := {
  sizeBuilder := by kernel_rfl
  liesBuilder := by kernel_rfl
  t5 := Try.underlying5
  a5 := Try.isAgg5
  z5 := Try.sizeOf5
  v5 := Try.zeroValue5
  infoByte := by kernel_rfl
  cellsByte := by kernel_rfl
  sizeByte := by kernel_rfl
  neB5 := by decide }
open Go.RowKit in
theorem Try.Builder_String_any (B b : Nat) (l : List UInt8) (w : World) (h : Lib.IsBuilder 96 5 B b (Lib.byteCells l) w) (hBw : B ≤ w.heap.size) :
    Calls Try.prog 43 #[.pointer (some ⟨b, 0, none⟩)] w fun e w' => e = .returned (.string ⟨l.toArray⟩) ∧ Below B w w' := Any.Builder_String_any Try.lays169 Try.Builder_Extra_169 B b l w h hBw
def Try.lays166_ren : Go.Shelf.Ren := ⟨fun | 166 => 42 | 240 => 46 | 276 => 48 | n => n, fun | 9 => 9 | 3 => 3 | 4 => 4 | 0 => 0 | 20 => 20 | 72 => 96 | 76 => 99 | 70 => 94 | 37 => 71 | 75 => 98 | 164 => 106 | 5 => 5 | 80 => 101 | n => n, fun | n => n⟩
theorem Try.lays166 : Go.Proofs.Lays.n166 Try.prog Try.lays166_ren := {
  mixed := by kernel_rfl
  f166 := Try.func42.trans (congrArg some (by kernel_rfl))
  f240 := Try.func46.trans (congrArg some (by kernel_rfl))
  f276 := Try.func48.trans (congrArg some (by kernel_rfl))
  t0 := Try.underlying0
  a0 := Try.isAgg0
  z0 := Try.sizeOf0
  v0 := Try.zeroValue0
  t3 := Try.underlying3
  a3 := Try.isAgg3
  z3 := Try.sizeOf3
  v3 := Try.zeroValue3
  t4 := Try.underlying4
  a4 := Try.isAgg4
  z4 := Try.sizeOf4
  v4 := Try.zeroValue4
  t9 := Try.underlying9
  a9 := Try.isAgg9
  z9 := Try.sizeOf9
  v9 := Try.zeroValue9
  t20 := Try.underlying20
  a20 := Try.isAgg20
  z20 := Try.sizeOf20
  v20 := Try.zeroValue20
  t37 := Try.underlying71
  a37 := Try.isAgg71
  z37 := Try.sizeOf71
  v37 := Try.zeroValue71
  t70 := Try.underlying94
  a70 := Try.isAgg94
  z70 := Try.sizeOf94
  v70 := Try.zeroValue94
  t72 := Try.underlying96
  a72 := Try.isAgg96
  z72 := Try.sizeOf96
  v72 := Try.zeroValue96
  t75 := Try.underlying98
  a75 := Try.isAgg98
  z75 := Try.sizeOf98
  v75 := Try.zeroValue98
  t164 := Try.underlying106
  a164 := Try.isAgg106
  z164 := Try.sizeOf106
  v164 := Try.zeroValue106 }
theorem Try.Builder_Extra_166 : Builder.Extra Try.prog Try.lays166_ren := {
  sizeBuilder := by kernel_rfl
  liesBuilder := by kernel_rfl
  t5 := Try.underlying5
  a5 := Try.isAgg5
  z5 := Try.sizeOf5
  v5 := Try.zeroValue5
  infoByte := by kernel_rfl
  cellsByte := by kernel_rfl
  sizeByte := by kernel_rfl
  neB5 := by decide }
open Go.RowKit in
theorem Try.Builder_WriteString (B b : Nat) (bs : List Value) (s : ByteArray) (w : World) (h : Lib.IsBuilder 96 5 B b bs w) (hlen : bs.length + s.size ≤ 140737488355328) (hBw : B ≤ w.heap.size) :
    Calls Try.prog 42 #[.pointer (some ⟨b, 0, none⟩), .string s] w fun e w' => e = .returned (.tuple #[.int .i64 s.size, .nilIface]) ∧ (Lib.BuilderAt 96 5 B b (.pointer (some ⟨b, 0, none⟩)) (bs ++ Lib.strCells s) w' ∧ Below B w w') := Any.Builder_WriteString Try.lays166 Try.Builder_Extra_166 B b bs s w h hlen hBw
end Go.Proofs
/- Contracts of common, measure, together. -/
set_option maxRecDepth 100000
namespace Go.Proofs.Ytgdjcoodjdckkaa
open Go.RowKit Go.Proofs.PitotFrag Go.Proofs.PitotIp
open Go.Proofs.Ytgdjcoodjdckkaa.Bi (lies_lt lies_cell lies_frozen lies_alloc lies_set)

/-- What all parts of a packet have. -/
def com (p : Pk) : Pk := ⟨p.id, false, 0, p.ttl, p.pr, p.a, p.b, ⟨#[]⟩⟩

set_option maxHeartbeats 1000000 in
theorem common_any (p : Pk) (w : World) : Calls Try.prog 34 #[p.val] w fun e w' => e = .returned (com p).val ∧ Below w.heap.size w w' := by
  obtain ⟨id, m, off, ttl, pr, a, b, s⟩ := p
  have kb : Hid (Below w.heap.size w ((w.alloc (pkC id false 0 ttl pr a b ⟨#[]⟩)).alloc (pkC id false 0 ttl pr a b ⟨#[]⟩))) := by
    have k1 := (Below.refl w.heap.size w).alloc (Nat.le_refl _) (pkC id false 0 ttl pr a b ⟨#[]⟩)
    exact k1.alloc k1.size _
  go_enter Try.func34, Try.ntmps34
  go_wp2
  (try simp only [Exit.inBlock, Exit.then])
  refine bodyPost_ret (by simp [results, Try.results34, go_sem]; try rfl) rfl ?_
  exact ⟨rfl, kb.out⟩

/-- How many bytes parts have in all, or what is wrong. -/
def ms : List Pk → Nat → Int × Int
  | [], h => ((h : Int), 0)
  | p :: r, h => if jd p h r.isEmpty = 0 then ms r (h + p.s.size) else (0, jd p h r.isEmpty)
theorem ms_cons {l : List Pk} {k : Nat} (hk : k < l.length) (h : Nat) : ms (l.drop k) h = if jd l[k] h (decide (k + 1 = l.length)) = 0 then ms (l.drop (k + 1)) (h + l[k].s.size) else (0, jd l[k] h (decide (k + 1 = l.length))) := by
  rw [List.drop_eq_getElem_cons hk, ms]
  have : (l.drop (k + 1)).isEmpty = decide (k + 1 = l.length) := by
    by_cases h : k + 1 = l.length
    · rw [List.drop_of_length_le (by omega)]; simp [h]
    · rw [decide_eq_false h]
      rw [List.drop_eq_getElem_cons (by omega)]; rfl
  rw [this]

set_option maxHeartbeats 2000000 in
theorem measure_any (A : Option Addr) (cap : Nat) (l : List Pk) (w : World) (hx : PksAt w A l) (hl : l.length ≤ 70000) (hz : ∀ p ∈ l, p.s.size ≤ 10000) (n : Nat) (hn : n = l.length) :
    Calls Try.prog 35 #[.slice A n cap] w fun e w' => e = .returned (.tuple #[.int .i64 (ms l 0).1, .int .i64 (ms l 0).2]) ∧ Below w.heap.size w w' := by
  obtain ⟨M, HM⟩ : ∃ M, Hid (M = ms l 0) := ⟨_, rfl⟩
  rw [← HM.out]
  have Hn := Lib.hid hn
  rw [← hn] at hl
  clear hn
  have HX := Lib.hid hx; clear hx
  have HZ := Lib.hid hz; clear hz
  go_enter Try.func35, Try.ntmps35
  go_wp2
  go_loopw [4, 10] (fun v4 v10 wr => ∃ (k h : Nat), k ≤ n ∧ v10 = .int .i64 k ∧ v4 = .int .i64 h ∧ h ≤ k * 10000 ∧ Hid (ms (l.drop k) h = M) ∧ Below w.heap.size w wr) (fun _ v10 _ => n - (intOf v10).toNat)
  case atStart => exact ⟨0, 0, Nat.zero_le _, rfl, rfl, Nat.zero_le _, HM.out.symm, Below.refl _ _⟩
  case round =>
    obtain ⟨k, h, hk, rfl, rfl, hh, ht, hb⟩ := hrel
    by_cases hlt : k < n
    · have hlt' : k < l.length := by rw [← Hn.out]; exact hlt
      obtain ⟨b, off, rfl, hbl, hc⟩ := HX.out.get hlt'
      have hc := hc.below hb hbl
      have hcs := ms_cons hlt' h
      rw [← Hn.out] at hcs
      have hsz := HZ.out l[k] (List.getElem_mem hlt')
      generalize l[k] = p at hc hcs hsz
      have HJ := judge_any p h (decide (k + 1 = n)) (by omega) (by omega)
      obtain ⟨J, hJ⟩ : ∃ J, J = jd p h (decide (k + 1 = n)) := ⟨_, rfl⟩
      rw [← hJ] at hcs HJ
      obtain ⟨id, m, of, ttl, pr, a, b', s⟩ := p
      obtain ⟨c0, c1, c2, c3, c4, c5, c6, c7, c8, c9, c10, c11, c12, c13⟩ := hc
      simp only at c0 c1 c2 c3 c4 c5 c6 c7 c8 c9 c10 c11 c12 c13 hsz hcs
      have hbs := hb.size
      clear hJ
      obtain ⟨B, hB⟩ : ∃ B, Hid (B = decide (k + 1 = n)) := ⟨_, rfl⟩
      rw [← hB.out] at HJ
      have HJ := Lib.hid HJ
      have e1 : ((k : Int) == (n : Int) - 1) = B := by rw [hB.out]; by_cases e : k + 1 = n <;> simp [e] <;> omega
      have kb : Hid (Below w.heap.size w (wr.alloc (pkC id m of ttl pr a b' s))) := hb.alloc hbs _
      by_cases hj : J = 0
      · subst hj
        rw [if_pos rfl] at hcs
        have HC := Lib.hid (hcs.symm.trans ht.out)
        clear hcs
        go_wp2_with (go_at_call 41; (with_reducible refine (HJ.out _).mono ?_); rintro r w2 ⟨rfl, hb2⟩
                     (have L2 := lies_below (heap_alloc_new wr (pkC id m of ttl pr a b' s)) hb2 (by simp))
                     (have c13 : w2.cell? ⟨wr.heap.size, 13, none⟩ = some (.string s) := lies_cell L2 13)
                     (clear L2))
        go_roundw
        case rel => exact ⟨k + 1, h + s.size, by omega, by go_num, by go_num, by omega, HC.out, kb.out.trans (hb2.mono kb.out.size)⟩
        case measure => simp [intOf]; omega
      · have hj0 : (J != 0) = true := by simpa using hj
        rw [if_neg hj] at hcs
        have HC := Lib.hid (hcs.symm.trans ht.out)
        clear hcs
        go_wp2_with (go_at_call 41; (with_reducible refine (HJ.out _).mono ?_); rintro r w2 ⟨rfl, hb2⟩)
        go_returns
        rw [← HC.out]
        exact ⟨rfl, kb.out.trans (hb2.mono kb.out.size)⟩
    · have HC : Hid (((h : Int), (0 : Int)) = M) := by
        show _ = _
        rw [← ht.out, List.drop_of_length_le (by rw [← Hn.out]; omega)]; rfl
      go_wp2
      go_returns
      rw [← HC.out]
      exact ⟨rfl, hb⟩
end Go.Proofs.Ytgdjcoodjdckkaa
