/- Merged: Je, Nl, Po, Pq, Fd. -/
import Derived.Test.YtgdjcoodjdckkaaM2
import Derived.Test.YtgdjcoodjdckkaaM8
import Derived.Laws.StructEq
import Derived.Test.YtgdjcoodjdckkaaM1
import Derived.ProofKit
import Derived.OpenShut
import Derived.WideShapes
import Derived.Deep.Slices
import Derived.Deep.Fields
import Derived.Test.YtgdjcoodjdckkaaM4
set_option linter.unusedVariables false
/- Two packets are compared. -/
set_option maxRecDepth 100000
namespace Go.Proofs.Ytgdjcoodjdckkaa
open Go.RowKit Go.Proofs.PitotFrag Go.Proofs.PitotIp

/-- Are two addresses the same? -/
def q4b (x y : Q4) : Bool := ((x.a.toNat : Int) == y.a.toNat) && ((x.b.toNat : Int) == y.b.toNat) && ((x.c.toNat : Int) == y.c.toNat) && ((x.d.toNat : Int) == y.d.toNat)
theorem q4b_iff (x y : Q4) : q4b x y = true ↔ x = y := by
  obtain ⟨a, b, c, d⟩ := x
  obtain ⟨a', b', c', d'⟩ := y
  have e : ∀ u v : UInt8, ((u.toNat : Int) = (v.toNat : Int)) ↔ u = v := fun u v => ⟨fun h => UInt8.toNat_inj.1 (by omega), fun h => by rw [h]⟩
  simp [q4b, e, and_assoc]
/-- Are two packets the same? -/
def pkb (p q : Pk) : Bool := (p.id == q.id) && (p.m == q.m) && (p.off == q.off) && (p.ttl == q.ttl) && (p.pr == q.pr) && q4b p.a q.a && q4b p.b q.b && (p.s.toList == q.s.toList)
theorem pkb_iff (p q : Pk) : pkb p q = true ↔ p = q := by
  obtain ⟨i, m, o, t, r, a, b, s⟩ := p
  obtain ⟨i', m', o', t', r', a', b', s'⟩ := q
  have e : s.toList = s'.toList ↔ s = s' := ⟨fun h => by
    rw [ByteArray.toList_eq, ByteArray.toList_eq] at h
    obtain ⟨⟨x⟩⟩ := s; obtain ⟨⟨y⟩⟩ := s'
    simp only at h; rw [h], fun h => by rw [h]⟩
  simp [pkb, q4b_iff, e, and_assoc]

set_option maxHeartbeats 1000000 in
theorem eqP (p q : Pk) (w : World) : (Go.Op.equalIn 10000 34 p.val q.val).run Try.prog w = .ok (pkb p q) w := by
  obtain ⟨i, m, o, t, r, a, b, s⟩ := p
  obtain ⟨i', m', o', t', r', a', b', s'⟩ := q
  have hA := eq4 9997 a.a.toNat a.b.toNat a.c.toNat a.d.toNat a'.a.toNat a'.b.toNat a'.c.toNat a'.d.toNat
  have hB := eq4 9997 b.a.toNat b.b.toNat b.c.toNat b.d.toNat b'.a.toNat b'.b.toNat b'.c.toNat b'.d.toNat
  simp only [pkb]
  have eA : q4b a a' = (((a.a.toNat : Int) == a'.a.toNat) && ((a.b.toNat : Int) == a'.b.toNat) && ((a.c.toNat : Int) == a'.c.toNat) && ((a.d.toNat : Int) == a'.d.toNat)) := rfl
  have eB : q4b b b' = (((b.a.toNat : Int) == b'.a.toNat) && ((b.b.toNat : Int) == b'.b.toNat) && ((b.c.toNat : Int) == b'.c.toNat) && ((b.d.toNat : Int) == b'.d.toNat)) := rfl
  rw [← eA] at hA; rw [← eB] at hB
  generalize q4b a a' = BA at hA ⊢
  generalize q4b b b' = BB at hB ⊢
  simp only [show (9997 + 2 : Nat) = 9999 from rfl] at hA hB
  go_simp
  clear hA hB eA eB
  generalize s.toList = u
  generalize s'.toList = u'
  by_cases h1 : i = i'
  · by_cases h2 : m = m'
    · by_cases h3 : o = o'
      · by_cases h4 : t = t'
        · by_cases h5 : r = r'
          · by_cases h6 : u = u'
            · cases BA <;> cases BB <;> simp [h1, h2, h3, h4, h5, h6]
            · cases BA <;> cases BB <;> simp [h1, h2, h3, h4, h5, h6]
          · simp [h1, h2, h3, h4, h5]
        · simp [h1, h2, h3, h4]
      · simp [h1, h2, h3]
    · simp [h1, h2]
  · simp [h1]
end Go.Proofs.Ytgdjcoodjdckkaa
/- A nil table: Put. -/
set_option maxRecDepth 100000
namespace Go.Proofs.Ytgdjcoodjdckkaa
open Go.RowKit Go.Proofs.PitotIp Go.Maps
open Go.Proofs.PitotReasm (Bg Tb Fine bad first next passed passE put keep)
open Go.Proofs.Ytgdjcoodjdckkaa.Bi (lies_lt lies_cell lies_frozen lies_alloc lies_set)

set_option maxHeartbeats 4000000 in
theorem put_nil (n : Int) (p : Pk) (w : World) : Calls Try.prog 14 #[.pointer none, .int .i64 n, p.val] w fun e w' => e = .returned (.tuple #[pkN.val, .bool false, .int .i64 2]) ∧ Below w.heap.size w w' := by
  have k1 := ((Below.refl w.heap.size w).alloc (Nat.le_refl _) p.obj)
  have R1 : Hid (((w.alloc p.obj).alloc pkz).heap[w.heap.size + 1]? = some pkz) := by
    have e := heap_alloc_new (w.alloc p.obj) pkz
    rw [World.size_alloc] at e
    exact e
  have F1 : Hid (Below w.heap.size w ((w.alloc p.obj).alloc pkz)) := k1.alloc k1.size pkz
  have HP := Lib.hid (pass_nil ((w.alloc p.obj).alloc pkz) n)
  clear k1
  go_enter Try.func14, Try.ntmps14
  go_upto_region 3 with (first
    | (go_at_call 12; (with_reducible refine (HP.out).mono ?_); rintro e V2 ⟨rfl, hV⟩
       (have HV := Lib.hid hV; clear hV)))
  have LX : Hid (V2.heap[w.heap.size + 1]? = some pkz) := by show _ = _; rw [HV.out]; exact R1.out
  have F2 : Hid (Below w.heap.size w V2) := by show Below _ _ _; rw [HV.out]; exact F1.out
  clear HP
  obtain ⟨r0, r1, r2, r3, r4, r5, r6, r7, r8, r9, r10, r11, r12, r13⟩ := cells14 LX.out
  have f0 := lies_frozen LX.out 0
  have f1 := lies_frozen LX.out 1
  have f2 := lies_frozen LX.out 2
  have f3 := lies_frozen LX.out 3
  have f4 := lies_frozen LX.out 4
  have f5 := lies_frozen LX.out 5
  have f6 := lies_frozen LX.out 6
  have f7 := lies_frozen LX.out 7
  have f8 := lies_frozen LX.out 8
  have f9 := lies_frozen LX.out 9
  have f10 := lies_frozen LX.out 10
  have f11 := lies_frozen LX.out 11
  have f12 := lies_frozen LX.out 12
  have f13 := lies_frozen LX.out 13
  go_wp2
  (try simp only [Exit.inBlock, Exit.then])
  obtain ⟨k0, k1, k2, k3, k4, k5, k6, k7, k8, k9, k10, k11, k12, k13, _⟩ := read_14 (y0 := .int .i64 0) (y1 := .bool false) (y2 := .int .i64 0) (y3 := .int .i64 0) (y4 := .int .i64 0) (y5 := .int .u8 0) (y6 := .int .u8 0) (y7 := .int .u8 0) (y8 := .int .u8 0) (y9 := .int .u8 0) (y10 := .int .u8 0) (y11 := .int .u8 0) (y12 := .int .u8 0) (y13 := .string ⟨#[]⟩) LX.out
  refine bodyPost_ret (by simp [results, Try.results14, go_sem, k0, k1, k2, k3, k4, k5, k6, k7, k8, k9, k10, k11, k12, k13]; try rfl) rfl ?_
  exact ⟨rfl, below_14 F2.out (by omega) _ _ _ _ _ _ _ _ _ _ _ _ _ _⟩

theorem pkb_self (p : Pk) : pkb p p = true := (pkb_iff p p).2 rfl
theorem eq_zero (w : World) : (Go.Op.equalIn 10000 34 pkN.val (.agg #[.int .i64 0, .bool false, .int .i64 0, .int .i64 0, .int .i64 0, .int .u8 0, .int .u8 0, .int .u8 0, .int .u8 0, .int .u8 0, .int .u8 0, .int .u8 0, .int .u8 0, .string ⟨#[]⟩])).run Try.prog w = .ok true w := by
  have := eqP pkN pkN w
  rw [pkb_self] at this
  exact this
end Go.Proofs.Ytgdjcoodjdckkaa
/- A packet, as it comes in, is opened: what it is. -/
set_option maxRecDepth 100000
namespace Go.Proofs.Ytgdjcoodjdckkaa
open Go.RowKit Go.ChangeShapes Go.WideShapes Go.Deep Go.Proofs.PitotIp

section
variable {H : Type} {enc : TypeId × Value → H} {w W : World} {base b0 : Nat} {spare : Nat → Bool} {held : Bool} {r : Reach}

theorem byte_of {n : Int} (h : (Lit.int .u8 n).wf = true) : ∃ b : UInt8, n = (b.toNat : Int) := by
  have := bounds_u8 h
  refine ⟨UInt8.ofNat n.toNat, ?_⟩
  simp
  omega

/-- Four cells that are read as an address of IP. -/
theorem ip_cells {fuel : Nat} {cs : List Value} {x : DataW H × List MemPlace} (h : DataW.trod enc Try.prog W b0 spare held fuel 32 cs = some x) :
    ∃ q : Q4, cs = [.int .u8 q.a.toNat, .int .u8 q.b.toNat, .int .u8 q.c.toNat, .int .u8 q.d.toNat] := by
  have c5 : Try.prog.cellsOf 5 = 1 := by kernel_rfl
  have c23 : Try.prog.cellsOf 32 = 4 := by kernel_rfl
  obtain ⟨xs, m, _, _, hl, hn, hf⟩ := DataW.trod_array Try.underlying32 h
  rw [c23] at hl
  rw [c5] at hf
  match cs, hl with
  | [x0, x1, x2, x3], _ =>
    match xs, hn with
    | [y0, y1, y2, y3], _ =>
      have f0 : DataW.trod enc Try.prog W b0 spare held m 5 [x0] = some y0 := hf 0 (by omega)
      have f1 : DataW.trod enc Try.prog W b0 spare held m 5 [x1] = some y1 := hf 1 (by omega)
      have f2 : DataW.trod enc Try.prog W b0 spare held m 5 [x2] = some y2 := hf 2 (by omega)
      have f3 : DataW.trod enc Try.prog W b0 spare held m 5 [x3] = some y3 := hf 3 (by omega)
      obtain ⟨n0, e0, _, w0⟩ := DataW.trod_int Try.underlying5 f0
      obtain ⟨n1, e1, _, w1⟩ := DataW.trod_int Try.underlying5 f1
      obtain ⟨n2, e2, _, w2⟩ := DataW.trod_int Try.underlying5 f2
      obtain ⟨n3, e3, _, w3⟩ := DataW.trod_int Try.underlying5 f3
      simp only [List.cons.injEq, and_true] at e0 e1 e2 e3
      subst e0 e1 e2 e3
      obtain ⟨a, rfl⟩ := byte_of w0
      obtain ⟨b, rfl⟩ := byte_of w1
      obtain ⟨c, rfl⟩ := byte_of w2
      obtain ⟨d, rfl⟩ := byte_of w3
      exact ⟨⟨a, b, c, d⟩, rfl⟩

theorem packet_open {fuel : Nat} {v : Value} {x : DataW H × List MemPlace} (hok : Value.okWide Try.prog w r base 34 v) (h : DataW.trod enc Try.prog W b0 spare held fuel 34 v.cells.toList = some x) :
    ∃ (id : Int) (m : Bool) (off ttl pr : Int) (a b : Q4) (s : ByteArray), (Lit.int .i64 id).wf = true ∧ (Lit.int .i64 off).wf = true ∧ (Lit.int .i64 ttl).wf = true ∧ (Lit.int .i64 pr).wf = true ∧ s.size ≤ maxLen ∧ v = pk id m off ttl pr a b s := by
  have hv : ∃ cs : Array Value, v = .agg cs := by
    simp only [Value.okWide, Try.underlying34] at hok
    obtain ⟨cs, h1, _⟩ := hok
    exact ⟨cs, h1⟩
  obtain ⟨cs, rfl⟩ := hv
  obtain ⟨l⟩ := cs
  have h : DataW.trod enc Try.prog W b0 spare held fuel 34 l = some x := by simpa [Value.cells] using h
  have c3 : Try.prog.cellsOf 3 = 1 := by kernel_rfl
  have c4 : Try.prog.cellsOf 4 = 1 := by kernel_rfl
  have c9 : Try.prog.cellsOf 9 = 1 := by kernel_rfl
  have c23 : Try.prog.cellsOf 32 = 4 := by kernel_rfl
  obtain ⟨ys, n', _, _, hlen, hyl, hf⟩ := DataW.trod_struct Try.underlying34 h
  rw [cells25] at hlen
  match l, hlen with
  | [x0, x1, x2, x3, x4, x5, x6, x7, x8, x9, x10, x11, x12, x13], _ =>
    match ys, hyl with
    | [y0, y1, y2, y3, y4, y5, y6, y7], _ =>
      have f0 : DataW.trod enc Try.prog W b0 spare held n' 3 (([x0, x1, x2, x3, x4, x5, x6, x7, x8, x9, x10, x11, x12, x13].drop 0).take (Try.prog.cellsOf 3)) = some y0 := hf 0 _ rfl
      have f1 : DataW.trod enc Try.prog W b0 spare held n' 4 (([x0, x1, x2, x3, x4, x5, x6, x7, x8, x9, x10, x11, x12, x13].drop 1).take (Try.prog.cellsOf 4)) = some y1 := hf 1 _ rfl
      have f2 : DataW.trod enc Try.prog W b0 spare held n' 3 (([x0, x1, x2, x3, x4, x5, x6, x7, x8, x9, x10, x11, x12, x13].drop 2).take (Try.prog.cellsOf 3)) = some y2 := hf 2 _ rfl
      have f3 : DataW.trod enc Try.prog W b0 spare held n' 3 (([x0, x1, x2, x3, x4, x5, x6, x7, x8, x9, x10, x11, x12, x13].drop 3).take (Try.prog.cellsOf 3)) = some y3 := hf 3 _ rfl
      have f4 : DataW.trod enc Try.prog W b0 spare held n' 3 (([x0, x1, x2, x3, x4, x5, x6, x7, x8, x9, x10, x11, x12, x13].drop 4).take (Try.prog.cellsOf 3)) = some y4 := hf 4 _ rfl
      have f5 : DataW.trod enc Try.prog W b0 spare held n' 32 (([x0, x1, x2, x3, x4, x5, x6, x7, x8, x9, x10, x11, x12, x13].drop 5).take (Try.prog.cellsOf 32)) = some y5 := hf 5 _ rfl
      have f6 : DataW.trod enc Try.prog W b0 spare held n' 32 (([x0, x1, x2, x3, x4, x5, x6, x7, x8, x9, x10, x11, x12, x13].drop 9).take (Try.prog.cellsOf 32)) = some y6 := hf 6 _ rfl
      have f7 : DataW.trod enc Try.prog W b0 spare held n' 9 (([x0, x1, x2, x3, x4, x5, x6, x7, x8, x9, x10, x11, x12, x13].drop 13).take (Try.prog.cellsOf 9)) = some y7 := hf 7 _ rfl
      rw [c3] at f0 f2 f3 f4
      rw [c4] at f1
      rw [c23] at f5 f6
      rw [c9] at f7
      have f0 : DataW.trod enc Try.prog W b0 spare held n' 3 [x0] = some y0 := f0
      have f1 : DataW.trod enc Try.prog W b0 spare held n' 4 [x1] = some y1 := f1
      have f2 : DataW.trod enc Try.prog W b0 spare held n' 3 [x2] = some y2 := f2
      have f3 : DataW.trod enc Try.prog W b0 spare held n' 3 [x3] = some y3 := f3
      have f4 : DataW.trod enc Try.prog W b0 spare held n' 3 [x4] = some y4 := f4
      have f5 : DataW.trod enc Try.prog W b0 spare held n' 32 [x5, x6, x7, x8] = some y5 := f5
      have f6 : DataW.trod enc Try.prog W b0 spare held n' 32 [x9, x10, x11, x12] = some y6 := f6
      have f7 : DataW.trod enc Try.prog W b0 spare held n' 9 [x13] = some y7 := f7
      obtain ⟨n0, e0, _, w0⟩ := DataW.trod_int Try.underlying3 f0
      obtain ⟨m, e1, _⟩ := DataW.trod_bool Try.underlying4 f1
      obtain ⟨n2, e2, _, w2⟩ := DataW.trod_int Try.underlying3 f2
      obtain ⟨n3, e3, _, w3⟩ := DataW.trod_int Try.underlying3 f3
      obtain ⟨n4, e4, _, w4⟩ := DataW.trod_int Try.underlying3 f4
      obtain ⟨a, e5⟩ := ip_cells f5
      obtain ⟨b, e6⟩ := ip_cells f6
      obtain ⟨s, e7, h7, w7⟩ := DataW.trod_string Try.underlying9 f7
      simp only [List.cons.injEq, and_true] at e0 e1 e2 e3 e4 e5 e6 e7
      obtain ⟨rfl, rfl, rfl, rfl⟩ := e5
      obtain ⟨rfl, rfl, rfl, rfl⟩ := e6
      subst e0 e1 e2 e3 e4 e7
      exact ⟨n0, m, n2, n3, n4, a, b, s, w0, w2, w3, w4, by first | exact w7 | exact h7, rfl⟩
end
end Go.Proofs.Ytgdjcoodjdckkaa
/- A list of packets, as it comes in, is opened: what its cells hold. -/
set_option maxRecDepth 100000
namespace Go.Proofs.Ytgdjcoodjdckkaa
open Go.RowKit Go.ChangeShapes Go.WideShapes Go.Deep Go.Proofs.PitotIp

theorem cell_lt {w : World} {a : Addr} {v : Value} (h : w.cell? a = some v) : a.block < w.heap.size := by
  rcases Nat.lt_or_ge a.block w.heap.size with h1 | h1
  · exact h1
  · simp [World.cell?, Array.getElem?_eq_none h1] at h

theorem list_of {α : Type} {P : Nat → α → Prop} : ∀ (n : Nat), (∀ i, i < n → ∃ t, P i t) → ∃ l : List α, l.length = n ∧ ∀ i (h : i < l.length), P i l[i]
  | 0, _ => ⟨[], rfl, fun i h => by simp at h⟩
  | n + 1, h => by
    obtain ⟨l, hl, hp⟩ := list_of n (fun i hi => h i (by omega))
    obtain ⟨t, ht⟩ := h n (by omega)
    refine ⟨l ++ [t], by simp [hl], fun i hi => ?_⟩
    by_cases hin : i < l.length
    · rw [List.getElem_append_left hin]; exact hp i hin
    · have : i = n := by simp at hi; omega
      subst this
      rw [List.getElem_append_right (by omega)]
      simpa [hl] using ht
theorem add_add' (b off i j : Nat) : ((⟨b, off, none⟩ : Addr).add i).add j = ⟨b, off + i + j, none⟩ := by
  unfold Addr.add
  by_cases hi : i = 0 <;> by_cases hj : j = 0 <;> simp [hi, hj]

section
variable {H : Type} {enc : TypeId × Value → H} {w W : World} {base b0 : Nat} {spare : Nat → Bool} {held : Bool}

/-- Fourteen cells that are read as a packet. -/
theorem packet_cells {fuel : Nat} {l : List Value} {x : DataW H × List MemPlace} (h : DataW.trod enc Try.prog W b0 spare held fuel 34 l = some x) :
    ∃ p : Pk, l = p.enc ∧ p.s.size ≤ maxLen ∧ p.Wf := by
  have c3 : Try.prog.cellsOf 3 = 1 := by kernel_rfl
  have c4 : Try.prog.cellsOf 4 = 1 := by kernel_rfl
  have c9 : Try.prog.cellsOf 9 = 1 := by kernel_rfl
  have c23 : Try.prog.cellsOf 32 = 4 := by kernel_rfl
  obtain ⟨ys, n', _, _, hlen, hyl, hf⟩ := DataW.trod_struct Try.underlying34 h
  rw [cells25] at hlen
  match l, hlen with
  | [x0, x1, x2, x3, x4, x5, x6, x7, x8, x9, x10, x11, x12, x13], _ =>
    match ys, hyl with
    | [y0, y1, y2, y3, y4, y5, y6, y7], _ =>
      have f0 : DataW.trod enc Try.prog W b0 spare held n' 3 (([x0, x1, x2, x3, x4, x5, x6, x7, x8, x9, x10, x11, x12, x13].drop 0).take (Try.prog.cellsOf 3)) = some y0 := hf 0 _ rfl
      have f1 : DataW.trod enc Try.prog W b0 spare held n' 4 (([x0, x1, x2, x3, x4, x5, x6, x7, x8, x9, x10, x11, x12, x13].drop 1).take (Try.prog.cellsOf 4)) = some y1 := hf 1 _ rfl
      have f2 : DataW.trod enc Try.prog W b0 spare held n' 3 (([x0, x1, x2, x3, x4, x5, x6, x7, x8, x9, x10, x11, x12, x13].drop 2).take (Try.prog.cellsOf 3)) = some y2 := hf 2 _ rfl
      have f3 : DataW.trod enc Try.prog W b0 spare held n' 3 (([x0, x1, x2, x3, x4, x5, x6, x7, x8, x9, x10, x11, x12, x13].drop 3).take (Try.prog.cellsOf 3)) = some y3 := hf 3 _ rfl
      have f4 : DataW.trod enc Try.prog W b0 spare held n' 3 (([x0, x1, x2, x3, x4, x5, x6, x7, x8, x9, x10, x11, x12, x13].drop 4).take (Try.prog.cellsOf 3)) = some y4 := hf 4 _ rfl
      have f5 : DataW.trod enc Try.prog W b0 spare held n' 32 (([x0, x1, x2, x3, x4, x5, x6, x7, x8, x9, x10, x11, x12, x13].drop 5).take (Try.prog.cellsOf 32)) = some y5 := hf 5 _ rfl
      have f6 : DataW.trod enc Try.prog W b0 spare held n' 32 (([x0, x1, x2, x3, x4, x5, x6, x7, x8, x9, x10, x11, x12, x13].drop 9).take (Try.prog.cellsOf 32)) = some y6 := hf 6 _ rfl
      have f7 : DataW.trod enc Try.prog W b0 spare held n' 9 (([x0, x1, x2, x3, x4, x5, x6, x7, x8, x9, x10, x11, x12, x13].drop 13).take (Try.prog.cellsOf 9)) = some y7 := hf 7 _ rfl
      rw [c3] at f0 f2 f3 f4
      rw [c4] at f1
      rw [c23] at f5 f6
      rw [c9] at f7
      have f0 : DataW.trod enc Try.prog W b0 spare held n' 3 [x0] = some y0 := f0
      have f1 : DataW.trod enc Try.prog W b0 spare held n' 4 [x1] = some y1 := f1
      have f2 : DataW.trod enc Try.prog W b0 spare held n' 3 [x2] = some y2 := f2
      have f3 : DataW.trod enc Try.prog W b0 spare held n' 3 [x3] = some y3 := f3
      have f4 : DataW.trod enc Try.prog W b0 spare held n' 3 [x4] = some y4 := f4
      have f5 : DataW.trod enc Try.prog W b0 spare held n' 32 [x5, x6, x7, x8] = some y5 := f5
      have f6 : DataW.trod enc Try.prog W b0 spare held n' 32 [x9, x10, x11, x12] = some y6 := f6
      have f7 : DataW.trod enc Try.prog W b0 spare held n' 9 [x13] = some y7 := f7
      obtain ⟨n0, e0, _, w0⟩ := DataW.trod_int Try.underlying3 f0
      obtain ⟨m, e1, _⟩ := DataW.trod_bool Try.underlying4 f1
      obtain ⟨n2, e2, _, w2⟩ := DataW.trod_int Try.underlying3 f2
      obtain ⟨n3, e3, _, w3⟩ := DataW.trod_int Try.underlying3 f3
      obtain ⟨n4, e4, _, w4⟩ := DataW.trod_int Try.underlying3 f4
      obtain ⟨a, e5⟩ := ip_cells f5
      obtain ⟨b, e6⟩ := ip_cells f6
      obtain ⟨s, e7, h7, w7⟩ := DataW.trod_string Try.underlying9 f7
      simp only [List.cons.injEq, and_true] at e0 e1 e2 e3 e4 e5 e6 e7
      obtain ⟨rfl, rfl, rfl, rfl⟩ := e5
      obtain ⟨rfl, rfl, rfl, rfl⟩ := e6
      subst e0 e1 e2 e3 e4 e7
      exact ⟨⟨n0, m, n2, n3, n4, a, b, s⟩, rfl, by first | exact w7 | exact h7, ⟨w4, w0⟩⟩

/-- A list of packets that comes in. -/
theorem packets_open {fuel : Nat} {v : Value} {x : DataW H × List MemPlace} (h : DataW.trod enc Try.prog w base spare held fuel 57 [v] = some x) :
    ∃ Ad cap l, v = .slice Ad (List.length l) cap ∧ PksAt w Ad l ∧ l.length ≤ maxLen ∧ ∀ p ∈ l, p.s.size ≤ maxLen ∧ p.Wf := by
  have hC : Try.prog.cellsOf 34 = 14 := by kernel_rfl
  rcases open_slice Try.underlying57 h with ⟨hcs, _⟩ | ⟨a, len, cap, m, n, D, Pl, hcs, _, hl, hm, hmm, _, hall⟩
  · exact ⟨none, 0, [], by simpa using hcs, fun h => absurd rfl h, by simp, fun p h => by simp at h⟩
  · have hlm : len ≤ m := by rw [hmm]; split <;> omega
    have each : ∀ i, i < len → ∃ t : Pk, (t.s.size ≤ maxLen ∧ t.Wf) ∧ ∃ b off, a = ⟨b, off, none⟩ ∧ b < w.heap.size ∧ PkAt w b (off + i * 14) t := by
      intro i hi
      obtain ⟨cs, hcell, htr⟩ := hall i (by omega)
      rw [hC] at hcell
      obtain ⟨_, hlen, hat⟩ := World.cells?_some hcell
      obtain ⟨p, rfl, hps⟩ := packet_cells htr
      obtain ⟨b, off, spot⟩ := a
      have hspot : spot = none := by
        obtain ⟨cs0, hcell0, htr0⟩ := hall 0 (by omega)
        rw [hC] at hcell0
        obtain ⟨_, hlen0, hat0⟩ := World.cells?_some hcell0
        have q0 := hat0 0 (by omega)
        rw [List.getElem?_eq_getElem (by omega)] at q0
        simpa [Addr.add] using World.cell?_spot q0
      subst hspot
      have hk : ∀ k (hk : k < 14), w.cell? ⟨b, off + i * 14 + k, none⟩ = some (p.enc[k]'(by rw [Pk.enc_length]; exact hk)) := fun k hk => by
        have h1 := hat k (by omega)
        rw [List.getElem?_eq_getElem (by rw [Pk.enc_length]; exact hk)] at h1
        rw [add_add'] at h1
        exact h1
      exact ⟨p, hps, b, off, rfl, cell_lt (hk 0 (by omega)), hk 0 (by omega), hk 1 (by omega), hk 2 (by omega), hk 3 (by omega), hk 4 (by omega), hk 5 (by omega), hk 6 (by omega), hk 7 (by omega), hk 8 (by omega), hk 9 (by omega), hk 10 (by omega), hk 11 (by omega), hk 12 (by omega), hk 13 (by omega)⟩
    obtain ⟨l, hll, hlp⟩ := list_of len each
    refine ⟨some a, cap, l, by rw [hll]; simpa using hcs, fun hne => ?_, by omega, fun p hp => ?_⟩
    · have hpos : 0 < l.length := List.length_pos_iff.2 hne
      obtain ⟨_, b, off, rfl, hb, _⟩ := hlp 0 hpos
      refine ⟨b, off, rfl, hb, fun i hi => ?_⟩
      obtain ⟨_, b', off', e, _, hit⟩ := hlp i hi
      cases e
      exact hit
    · obtain ⟨i, hi, rfl⟩ := List.getElem_of_mem hp
      exact (hlp i hi).1
end
end Go.Proofs.Ytgdjcoodjdckkaa
/- Packets that are put in, one behind the other: what stays. -/
set_option maxRecDepth 100000
namespace Go.Proofs.Ytgdjcoodjdckkaa
open Go.RowKit Go.Proofs.PitotIp Go.Maps
open Go.Proofs.PitotReasm (Bg Tb Fine bad first next passed passE put keep)
open Go.Proofs.Ytgdjcoodjdckkaa.Bi (lies_lt lies_cell lies_frozen lies_alloc lies_set)

theorem put_now {most : Nat} {wait : Int} {t : Tb K UInt8} {n : Int} (hp : passE t n = 0) (k : K) (m : Bool) (o : Int) (d : List UInt8) : (put most wait t n k m o d).1.now = n := by
  unfold put
  rw [if_neg (by omega)]
  by_cases h2 : m = false ∧ o = 0
  · rw [if_pos h2]; rfl
  · rw [if_neg h2]
    by_cases h3 : o = 0
    · rw [if_pos h3]
      show (first most (passed t wait n) k m d).1.now = n
      unfold first
      split
      · rfl
      · split
        · rfl
        · simp only; split <;> rfl
    · rw [if_neg h3]
      show (next (passed t wait n) k m o d).1.now = n
      unfold next
      cases PitotReasm.find (passed t wait n).l k with
      | none => rfl
      | some b =>
        simp only
        generalize (if b.d.length % 8 ≠ 0 ∨ o ≠ ((b.d.length / 8 : Nat) : Int) then (25 : Int) else if bad m d = true then 15 else if 8200 < b.d.length + d.length then 11 else 0) = e
        split
        · rfl
        · split <;> rfl
theorem pass_zero {t : Tb K UInt8} {n : Int} (h1 : t.now ≤ n) (h2 : n ≤ 1125899906842624) : passE t n = 0 := by
  unfold passE
  rw [if_neg (by omega), if_neg (by omega)]
/-- What is so of a table into which packets were put at the ticks 0, 1, .. -/
structure Run (most i : Nat) (T : Tb K UInt8) : Prop where
  good : Good most T
  now : T.now ≤ i
  dr : T.dr ≤ i * 128
theorem run_zero (most : Nat) : Run most 0 t0 := ⟨good_new most, by simp [t0], by simp [t0]⟩
theorem run_next {most i : Nat} {T : Tb K UInt8} (h : Run most i T) (hm : most ≤ 64) (hi : i ≤ 1000000) (wait : Int) (k : K) (m : Bool) (o : Int) (d : List UInt8) : Run most (i + 1) (put most wait T i k m o d).1 := by
  have hp := pass_zero h.now (show (i : Int) ≤ 1125899906842624 by omega)
  refine ⟨put_good h.good _ _ _ _ _, ?_, ?_⟩
  · rw [put_now hp]; omega
  · have := put_dr h.good (i : Int) k m o d (wait := wait)
    have := h.dr
    omega
/-- A Put in such a run. -/
theorem run_put {base most : Nat} {wait : Int} {T : Tb K UInt8} {i : Nat} (h : Run most i T) (hm : most ≤ 64) (hi : i ≤ 1000000) (hw0 : 0 ≤ wait) (hw1 : wait ≤ 1125899906842624) {p : Pk} (hw : p.Wf) (hs : p.s.size ≤ 1000000000) {tp : Nat} {V : World} (hT : TabAt base V tp most wait T) :
    Calls Try.prog 14 #[.pointer (some ⟨tp, 0, none⟩), .int .i64 i, p.val] V fun r V' => r = .returned (.tuple #[(ansP p (put most wait T i (p.key hw) p.m p.off p.d).2.1).val, .bool (put most wait T i (p.key hw) p.m p.off p.d).2.1.isSome, .int .i64 (put most wait T i (p.key hw) p.m p.off p.d).2.2]) ∧
      TabAt base V' tp most wait (put most wait T i (p.key hw) p.m p.off p.d).1 ∧ Fr base V V' := by
  have := h.dr
  have := put_any hT h.good hm (by omega) hw0 hw1 (i : Int) p hw hs
  exact this
end Go.Proofs.Ytgdjcoodjdckkaa
