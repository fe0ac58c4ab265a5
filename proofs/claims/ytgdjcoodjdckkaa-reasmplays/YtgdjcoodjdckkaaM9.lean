/- Merged: Je, Nl, Po, Pq, Fd, Ip, Pl, Cu. -/
import Derived.Test.YtgdjcoodjdckkaaM2
import Derived.Test.YtgdjcoodjdckkaaM8
import Derived.Laws.StructEq
import Derived.Test.YtgdjcoodjdckkaaM1
import Derived.ProofKit
import Derived.OpenShut
import Derived.WideShapes
import Derived.Deep.Slices
import Derived.Deep.Fields
import Derived.Test.YtgdjcoodjdckkaaM4
import Derived.Deep.Cut
import Derived.Laws.MakeOwn
import Derived.ScopeJumps
import Derived.WalkMore
set_option linter.unusedVariables false
/- Two packets are compared. -/
set_option maxRecDepth 100000
namespace Go.Proofs.Ytgdjcoodjdckkaa
open Go.RowKit Go.Proofs.PitotFrag Go.Proofs.PitotIp

/-- Are two addresses the same? -/
def q4b (x y : Q4) : Bool := ((x.a.toNat : Int) == y.a.toNat) && ((x.b.toNat : Int) == y.b.toNat) && ((x.c.toNat : Int) == y.c.toNat) && ((x.d.toNat : Int) == y.d.toNat)
theorem q4b_iff (x y : Q4) : q4b x y = true ↔ x = y := by
  obtain ⟨a, b, c, d⟩ := x
  obtain ⟨a', b', c', d'⟩ := y
  have e : ∀ u v : UInt8, ((u.toNat : Int) = (v.toNat : Int)) ↔ u = v := fun u v => ⟨fun h => UInt8.toNat_inj.1 (by omega), fun h => by rw [h]⟩
  simp [q4b, e, and_assoc]
/-- Are two packets the same? -/
def pkb (p q : Pk) : Bool := (p.id == q.id) && (p.m == q.m) && (p.off == q.off) && (p.ttl == q.ttl) && (p.pr == q.pr) && q4b p.a q.a && q4b p.b q.b && (p.s.toList == q.s.toList)
theorem pkb_iff (p q : Pk) : pkb p q = true ↔ p = q := by
  obtain ⟨i, m, o, t, r, a, b, s⟩ := p
  obtain ⟨i', m', o', t', r', a', b', s'⟩ := q
  have e : s.toList = s'.toList ↔ s = s' := ⟨fun h => by
    rw [ByteArray.toList_eq, ByteArray.toList_eq] at h
    obtain ⟨⟨x⟩⟩ := s; obtain ⟨⟨y⟩⟩ := s'
    simp only at h; rw [h], fun h => by rw [h]⟩
  simp [pkb, q4b_iff, e, and_assoc]

set_option maxHeartbeats 1000000 in
theorem eqP (p q : Pk) (w : World) : (Go.Op.equalIn 10000 34 p.val q.val).run Try.prog w = .ok (pkb p q) w := by
  obtain ⟨i, m, o, t, r, a, b, s⟩ := p
  obtain ⟨i', m', o', t', r', a', b', s'⟩ := q
  have hA := eq4 9997 a.a.toNat a.b.toNat a.c.toNat a.d.toNat a'.a.toNat a'.b.toNat a'.c.toNat a'.d.toNat
  have hB := eq4 9997 b.a.toNat b.b.toNat b.c.toNat b.d.toNat b'.a.toNat b'.b.toNat b'.c.toNat b'.d.toNat
  simp only [pkb]
  have eA : q4b a a' = (((a.a.toNat : Int) == a'.a.toNat) && ((a.b.toNat : Int) == a'.b.toNat) && ((a.c.toNat : Int) == a'.c.toNat) && ((a.d.toNat : Int) == a'.d.toNat)) := rfl
  have eB : q4b b b' = (((b.a.toNat : Int) == b'.a.toNat) && ((b.b.toNat : Int) == b'.b.toNat) && ((b.c.toNat : Int) == b'.c.toNat) && ((b.d.toNat : Int) == b'.d.toNat)) := rfl
  rw [← eA] at hA; rw [← eB] at hB
  generalize q4b a a' = BA at hA ⊢
  generalize q4b b b' = BB at hB ⊢
  simp only [show (9997 + 2 : Nat) = 9999 from rfl] at hA hB
  go_simp
  clear hA hB eA eB
  generalize s.toList = u
  generalize s'.toList = u'
  by_cases h1 : i = i'
  · by_cases h2 : m = m'
    · by_cases h3 : o = o'
      · by_cases h4 : t = t'
        · by_cases h5 : r = r'
          · by_cases h6 : u = u'
            · cases BA <;> cases BB <;> simp [h1, h2, h3, h4, h5, h6]
            · cases BA <;> cases BB <;> simp [h1, h2, h3, h4, h5, h6]
          · simp [h1, h2, h3, h4, h5]
        · simp [h1, h2, h3, h4]
      · simp [h1, h2, h3]
    · simp [h1, h2]
  · simp [h1]
end Go.Proofs.Ytgdjcoodjdckkaa
/- A nil table: Put. -/
set_option maxRecDepth 100000
namespace Go.Proofs.Ytgdjcoodjdckkaa
open Go.RowKit Go.Proofs.PitotIp Go.Maps
open Go.Proofs.PitotReasm (Bg Tb Fine bad first next passed passE put keep)
open Go.Proofs.Ytgdjcoodjdckkaa.Bi (lies_lt lies_cell lies_frozen lies_alloc lies_set)

set_option maxHeartbeats 4000000 in
theorem put_nil (n : Int) (p : Pk) (w : World) : Calls Try.prog 14 #[.pointer none, .int .i64 n, p.val] w fun e w' => e = .returned (.tuple #[pkN.val, .bool false, .int .i64 2]) ∧ Below w.heap.size w w' := by
  have k1 := ((Below.refl w.heap.size w).alloc (Nat.le_refl _) p.obj)
  have R1 : Hid (((w.alloc p.obj).alloc pkz).heap[w.heap.size + 1]? = some pkz) := by
    have e := heap_alloc_new (w.alloc p.obj) pkz
    rw [World.size_alloc] at e
    exact e
  have F1 : Hid (Below w.heap.size w ((w.alloc p.obj).alloc pkz)) := k1.alloc k1.size pkz
  have HP := Lib.hid (pass_nil ((w.alloc p.obj).alloc pkz) n)
  clear k1
  go_enter Try.func14, Try.ntmps14
  go_upto_region 3 with (first
    | (go_at_call 12; (with_reducible refine (HP.out).mono ?_); rintro e V2 ⟨rfl, hV⟩
       (have HV := Lib.hid hV; clear hV)))
  have LX : Hid (V2.heap[w.heap.size + 1]? = some pkz) := by show _ = _; rw [HV.out]; exact R1.out
  have F2 : Hid (Below w.heap.size w V2) := by show Below _ _ _; rw [HV.out]; exact F1.out
  clear HP
  obtain ⟨r0, r1, r2, r3, r4, r5, r6, r7, r8, r9, r10, r11, r12, r13⟩ := cells14 LX.out
  have f0 := lies_frozen LX.out 0
  have f1 := lies_frozen LX.out 1
  have f2 := lies_frozen LX.out 2
  have f3 := lies_frozen LX.out 3
  have f4 := lies_frozen LX.out 4
  have f5 := lies_frozen LX.out 5
  have f6 := lies_frozen LX.out 6
  have f7 := lies_frozen LX.out 7
  have f8 := lies_frozen LX.out 8
  have f9 := lies_frozen LX.out 9
  have f10 := lies_frozen LX.out 10
  have f11 := lies_frozen LX.out 11
  have f12 := lies_frozen LX.out 12
  have f13 := lies_frozen LX.out 13
  go_wp2
  (try simp only [Exit.inBlock, Exit.then])
  obtain ⟨k0, k1, k2, k3, k4, k5, k6, k7, k8, k9, k10, k11, k12, k13, _⟩ := read_14 (y0 := .int .i64 0) (y1 := .bool false) (y2 := .int .i64 0) (y3 := .int .i64 0) (y4 := .int .i64 0) (y5 := .int .u8 0) (y6 := .int .u8 0) (y7 := .int .u8 0) (y8 := .int .u8 0) (y9 := .int .u8 0) (y10 := .int .u8 0) (y11 := .int .u8 0) (y12 := .int .u8 0) (y13 := .string ⟨#[]⟩) LX.out
  refine bodyPost_ret (by simp [results, Try.results14, go_sem, k0, k1, k2, k3, k4, k5, k6, k7, k8, k9, k10, k11, k12, k13]; try rfl) rfl ?_
  exact ⟨rfl, below_14 F2.out (by omega) _ _ _ _ _ _ _ _ _ _ _ _ _ _⟩

theorem pkb_self (p : Pk) : pkb p p = true := (pkb_iff p p).2 rfl
theorem eq_zero (w : World) : (Go.Op.equalIn 10000 34 pkN.val (.agg #[.int .i64 0, .bool false, .int .i64 0, .int .i64 0, .int .i64 0, .int .u8 0, .int .u8 0, .int .u8 0, .int .u8 0, .int .u8 0, .int .u8 0, .int .u8 0, .int .u8 0, .string ⟨#[]⟩])).run Try.prog w = .ok true w := by
  have := eqP pkN pkN w
  rw [pkb_self] at this
  exact this
end Go.Proofs.Ytgdjcoodjdckkaa
/- A packet, as it comes in, is opened: what it is. -/
set_option maxRecDepth 100000
namespace Go.Proofs.Ytgdjcoodjdckkaa
open Go.RowKit Go.ChangeShapes Go.WideShapes Go.Deep Go.Proofs.PitotIp

section
variable {H : Type} {enc : TypeId × Value → H} {w W : World} {base b0 : Nat} {spare : Nat → Bool} {held : Bool} {r : Reach}

theorem byte_of {n : Int} (h : (Lit.int .u8 n).wf = true) : ∃ b : UInt8, n = (b.toNat : Int) := by
  have := bounds_u8 h
  refine ⟨UInt8.ofNat n.toNat, ?_⟩
  simp
  omega

/-- Four cells that are read as an address of IP. -/
theorem ip_cells {fuel : Nat} {cs : List Value} {x : DataW H × List MemPlace} (h : DataW.trod enc Try.prog W b0 spare held fuel 32 cs = some x) :
    ∃ q : Q4, cs = [.int .u8 q.a.toNat, .int .u8 q.b.toNat, .int .u8 q.c.toNat, .int .u8 q.d.toNat] := by
  have c5 : Try.prog.cellsOf 5 = 1 := by kernel_rfl
  have c23 : Try.prog.cellsOf 32 = 4 := by kernel_rfl
  obtain ⟨xs, m, _, _, hl, hn, hf⟩ := DataW.trod_array Try.underlying32 h
  rw [c23] at hl
  rw [c5] at hf
  match cs, hl with
  | [x0, x1, x2, x3], _ =>
    match xs, hn with
    | [y0, y1, y2, y3], _ =>
      have f0 : DataW.trod enc Try.prog W b0 spare held m 5 [x0] = some y0 := hf 0 (by omega)
      have f1 : DataW.trod enc Try.prog W b0 spare held m 5 [x1] = some y1 := hf 1 (by omega)
      have f2 : DataW.trod enc Try.prog W b0 spare held m 5 [x2] = some y2 := hf 2 (by omega)
      have f3 : DataW.trod enc Try.prog W b0 spare held m 5 [x3] = some y3 := hf 3 (by omega)
      obtain ⟨n0, e0, _, w0⟩ := DataW.trod_int Try.underlying5 f0
      obtain ⟨n1, e1, _, w1⟩ := DataW.trod_int Try.underlying5 f1
      obtain ⟨n2, e2, _, w2⟩ := DataW.trod_int Try.underlying5 f2
      obtain ⟨n3, e3, _, w3⟩ := DataW.trod_int Try.underlying5 f3
      simp only [List.cons.injEq, and_true] at e0 e1 e2 e3
      subst e0 e1 e2 e3
      obtain ⟨a, rfl⟩ := byte_of w0
      obtain ⟨b, rfl⟩ := byte_of w1
      obtain ⟨c, rfl⟩ := byte_of w2
      obtain ⟨d, rfl⟩ := byte_of w3
      exact ⟨⟨a, b, c, d⟩, rfl⟩

theorem packet_open {fuel : Nat} {v : Value} {x : DataW H × List MemPlace} (hok : Value.okWide Try.prog w r base 34 v) (h : DataW.trod enc Try.prog W b0 spare held fuel 34 v.cells.toList = some x) :
    ∃ (id : Int) (m : Bool) (off ttl pr : Int) (a b : Q4) (s : ByteArray), (Lit.int .i64 id).wf = true ∧ (Lit.int .i64 off).wf = true ∧ (Lit.int .i64 ttl).wf = true ∧ (Lit.int .i64 pr).wf = true ∧ s.size ≤ maxLen ∧ v = pk id m off ttl pr a b s := by
  have hv : ∃ cs : Array Value, v = .agg cs := by
    simp only [Value.okWide, Try.underlying34] at hok
    obtain ⟨cs, h1, _⟩ := hok
    exact ⟨cs, h1⟩
  obtain ⟨cs, rfl⟩ := hv
  obtain ⟨l⟩ := cs
  have h : DataW.trod enc Try.prog W b0 spare held fuel 34 l = some x := by simpa [Value.cells] using h
  have c3 : Try.prog.cellsOf 3 = 1 := by kernel_rfl
  have c4 : Try.prog.cellsOf 4 = 1 := by kernel_rfl
  have c9 : Try.prog.cellsOf 9 = 1 := by kernel_rfl
  have c23 : Try.prog.cellsOf 32 = 4 := by kernel_rfl
  obtain ⟨ys, n', _, _, hlen, hyl, hf⟩ := DataW.trod_struct Try.underlying34 h
  rw [cells25] at hlen
  match l, hlen with
  | [x0, x1, x2, x3, x4, x5, x6, x7, x8, x9, x10, x11, x12, x13], _ =>
    match ys, hyl with
    | [y0, y1, y2, y3, y4, y5, y6, y7], _ =>
      have f0 : DataW.trod enc Try.prog W b0 spare held n' 3 (([x0, x1, x2, x3, x4, x5, x6, x7, x8, x9, x10, x11, x12, x13].drop 0).take (Try.prog.cellsOf 3)) = some y0 := hf 0 _ rfl
      have f1 : DataW.trod enc Try.prog W b0 spare held n' 4 (([x0, x1, x2, x3, x4, x5, x6, x7, x8, x9, x10, x11, x12, x13].drop 1).take (Try.prog.cellsOf 4)) = some y1 := hf 1 _ rfl
      have f2 : DataW.trod enc Try.prog W b0 spare held n' 3 (([x0, x1, x2, x3, x4, x5, x6, x7, x8, x9, x10, x11, x12, x13].drop 2).take (Try.prog.cellsOf 3)) = some y2 := hf 2 _ rfl
      have f3 : DataW.trod enc Try.prog W b0 spare held n' 3 (([x0, x1, x2, x3, x4, x5, x6, x7, x8, x9, x10, x11, x12, x13].drop 3).take (Try.prog.cellsOf 3)) = some y3 := hf 3 _ rfl
      have f4 : DataW.trod enc Try.prog W b0 spare held n' 3 (([x0, x1, x2, x3, x4, x5, x6, x7, x8, x9, x10, x11, x12, x13].drop 4).take (Try.prog.cellsOf 3)) = some y4 := hf 4 _ rfl
      have f5 : DataW.trod enc Try.prog W b0 spare held n' 32 (([x0, x1, x2, x3, x4, x5, x6, x7, x8, x9, x10, x11, x12, x13].drop 5).take (Try.prog.cellsOf 32)) = some y5 := hf 5 _ rfl
      have f6 : DataW.trod enc Try.prog W b0 spare held n' 32 (([x0, x1, x2, x3, x4, x5, x6, x7, x8, x9, x10, x11, x12, x13].drop 9).take (Try.prog.cellsOf 32)) = some y6 := hf 6 _ rfl
      have f7 : DataW.trod enc Try.prog W b0 spare held n' 9 (([x0, x1, x2, x3, x4, x5, x6, x7, x8, x9, x10, x11, x12, x13].drop 13).take (Try.prog.cellsOf 9)) = some y7 := hf 7 _ rfl
      rw [c3] at f0 f2 f3 f4
      rw [c4] at f1
      rw [c23] at f5 f6
      rw [c9] at f7
      have f0 : DataW.trod enc Try.prog W b0 spare held n' 3 [x0] = some y0 := f0
      have f1 : DataW.trod enc Try.prog W b0 spare held n' 4 [x1] = some y1 := f1
      have f2 : DataW.trod enc Try.prog W b0 spare held n' 3 [x2] = some y2 := f2
      have f3 : DataW.trod enc Try.prog W b0 spare held n' 3 [x3] = some y3 := f3
      have f4 : DataW.trod enc Try.prog W b0 spare held n' 3 [x4] = some y4 := f4
      have f5 : DataW.trod enc Try.prog W b0 spare held n' 32 [x5, x6, x7, x8] = some y5 := f5
      have f6 : DataW.trod enc Try.prog W b0 spare held n' 32 [x9, x10, x11, x12] = some y6 := f6
      have f7 : DataW.trod enc Try.prog W b0 spare held n' 9 [x13] = some y7 := f7
      obtain ⟨n0, e0, _, w0⟩ := DataW.trod_int Try.underlying3 f0
      obtain ⟨m, e1, _⟩ := DataW.trod_bool Try.underlying4 f1
      obtain ⟨n2, e2, _, w2⟩ := DataW.trod_int Try.underlying3 f2
      obtain ⟨n3, e3, _, w3⟩ := DataW.trod_int Try.underlying3 f3
      obtain ⟨n4, e4, _, w4⟩ := DataW.trod_int Try.underlying3 f4
      obtain ⟨a, e5⟩ := ip_cells f5
      obtain ⟨b, e6⟩ := ip_cells f6
      obtain ⟨s, e7, h7, w7⟩ := DataW.trod_string Try.underlying9 f7
      simp only [List.cons.injEq, and_true] at e0 e1 e2 e3 e4 e5 e6 e7
      obtain ⟨rfl, rfl, rfl, rfl⟩ := e5
      obtain ⟨rfl, rfl, rfl, rfl⟩ := e6
      subst e0 e1 e2 e3 e4 e7
      exact ⟨n0, m, n2, n3, n4, a, b, s, w0, w2, w3, w4, by first | exact w7 | exact h7, rfl⟩
end
end Go.Proofs.Ytgdjcoodjdckkaa
/- A list of packets, as it comes in, is opened: what its cells hold. -/
set_option maxRecDepth 100000
namespace Go.Proofs.Ytgdjcoodjdckkaa
open Go.RowKit Go.ChangeShapes Go.WideShapes Go.Deep Go.Proofs.PitotIp

theorem cell_lt {w : World} {a : Addr} {v : Value} (h : w.cell? a = some v) : a.block < w.heap.size := by
  rcases Nat.lt_or_ge a.block w.heap.size with h1 | h1
  · exact h1
  · simp [World.cell?, Array.getElem?_eq_none h1] at h

theorem list_of {α : Type} {P : Nat → α → Prop} : ∀ (n : Nat), (∀ i, i < n → ∃ t, P i t) → ∃ l : List α, l.length = n ∧ ∀ i (h : i < l.length), P i l[i]
  | 0, _ => ⟨[], rfl, fun i h => by simp at h⟩
  | n + 1, h => by
    obtain ⟨l, hl, hp⟩ := list_of n (fun i hi => h i (by omega))
    obtain ⟨t, ht⟩ := h n (by omega)
    refine ⟨l ++ [t], by simp [hl], fun i hi => ?_⟩
    by_cases hin : i < l.length
    · rw [List.getElem_append_left hin]; exact hp i hin
    · have : i = n := by simp at hi; omega
      subst this
      rw [List.getElem_append_right (by omega)]
      simpa [hl] using ht
theorem add_add' (b off i j : Nat) : ((⟨b, off, none⟩ : Addr).add i).add j = ⟨b, off + i + j, none⟩ := by
  unfold Addr.add
  by_cases hi : i = 0 <;> by_cases hj : j = 0 <;> simp [hi, hj]

section
variable {H : Type} {enc : TypeId × Value → H} {w W : World} {base b0 : Nat} {spare : Nat → Bool} {held : Bool}

/-- Fourteen cells that are read as a packet. -/
theorem packet_cells {fuel : Nat} {l : List Value} {x : DataW H × List MemPlace} (h : DataW.trod enc Try.prog W b0 spare held fuel 34 l = some x) :
    ∃ p : Pk, l = p.enc ∧ p.s.size ≤ maxLen ∧ p.Wf := by
  have c3 : Try.prog.cellsOf 3 = 1 := by kernel_rfl
  have c4 : Try.prog.cellsOf 4 = 1 := by kernel_rfl
  have c9 : Try.prog.cellsOf 9 = 1 := by kernel_rfl
  have c23 : Try.prog.cellsOf 32 = 4 := by kernel_rfl
  obtain ⟨ys, n', _, _, hlen, hyl, hf⟩ := DataW.trod_struct Try.underlying34 h
  rw [cells25] at hlen
  match l, hlen with
  | [x0, x1, x2, x3, x4, x5, x6, x7, x8, x9, x10, x11, x12, x13], _ =>
    match ys, hyl with
    | [y0, y1, y2, y3, y4, y5, y6, y7], _ =>
      have f0 : DataW.trod enc Try.prog W b0 spare held n' 3 (([x0, x1, x2, x3, x4, x5, x6, x7, x8, x9, x10, x11, x12, x13].drop 0).take (Try.prog.cellsOf 3)) = some y0 := hf 0 _ rfl
      have f1 : DataW.trod enc Try.prog W b0 spare held n' 4 (([x0, x1, x2, x3, x4, x5, x6, x7, x8, x9, x10, x11, x12, x13].drop 1).take (Try.prog.cellsOf 4)) = some y1 := hf 1 _ rfl
      have f2 : DataW.trod enc Try.prog W b0 spare held n' 3 (([x0, x1, x2, x3, x4, x5, x6, x7, x8, x9, x10, x11, x12, x13].drop 2).take (Try.prog.cellsOf 3)) = some y2 := hf 2 _ rfl
      have f3 : DataW.trod enc Try.prog W b0 spare held n' 3 (([x0, x1, x2, x3, x4, x5, x6, x7, x8, x9, x10, x11, x12, x13].drop 3).take (Try.prog.cellsOf 3)) = some y3 := hf 3 _ rfl
      have f4 : DataW.trod enc Try.prog W b0 spare held n' 3 (([x0, x1, x2, x3, x4, x5, x6, x7, x8, x9, x10, x11, x12, x13].drop 4).take (Try.prog.cellsOf 3)) = some y4 := hf 4 _ rfl
      have f5 : DataW.trod enc Try.prog W b0 spare held n' 32 (([x0, x1, x2, x3, x4, x5, x6, x7, x8, x9, x10, x11, x12, x13].drop 5).take (Try.prog.cellsOf 32)) = some y5 := hf 5 _ rfl
      have f6 : DataW.trod enc Try.prog W b0 spare held n' 32 (([x0, x1, x2, x3, x4, x5, x6, x7, x8, x9, x10, x11, x12, x13].drop 9).take (Try.prog.cellsOf 32)) = some y6 := hf 6 _ rfl
      have f7 : DataW.trod enc Try.prog W b0 spare held n' 9 (([x0, x1, x2, x3, x4, x5, x6, x7, x8, x9, x10, x11, x12, x13].drop 13).take (Try.prog.cellsOf 9)) = some y7 := hf 7 _ rfl
      rw [c3] at f0 f2 f3 f4
      rw [c4] at f1
      rw [c23] at f5 f6
      rw [c9] at f7
      have f0 : DataW.trod enc Try.prog W b0 spare held n' 3 [x0] = some y0 := f0
      have f1 : DataW.trod enc Try.prog W b0 spare held n' 4 [x1] = some y1 := f1
      have f2 : DataW.trod enc Try.prog W b0 spare held n' 3 [x2] = some y2 := f2
      have f3 : DataW.trod enc Try.prog W b0 spare held n' 3 [x3] = some y3 := f3
      have f4 : DataW.trod enc Try.prog W b0 spare held n' 3 [x4] = some y4 := f4
      have f5 : DataW.trod enc Try.prog W b0 spare held n' 32 [x5, x6, x7, x8] = some y5 := f5
      have f6 : DataW.trod enc Try.prog W b0 spare held n' 32 [x9, x10, x11, x12] = some y6 := f6
      have f7 : DataW.trod enc Try.prog W b0 spare held n' 9 [x13] = some y7 := f7
      obtain ⟨n0, e0, _, w0⟩ := DataW.trod_int Try.underlying3 f0
      obtain ⟨m, e1, _⟩ := DataW.trod_bool Try.underlying4 f1
      obtain ⟨n2, e2, _, w2⟩ := DataW.trod_int Try.underlying3 f2
      obtain ⟨n3, e3, _, w3⟩ := DataW.trod_int Try.underlying3 f3
      obtain ⟨n4, e4, _, w4⟩ := DataW.trod_int Try.underlying3 f4
      obtain ⟨a, e5⟩ := ip_cells f5
      obtain ⟨b, e6⟩ := ip_cells f6
      obtain ⟨s, e7, h7, w7⟩ := DataW.trod_string Try.underlying9 f7
      simp only [List.cons.injEq, and_true] at e0 e1 e2 e3 e4 e5 e6 e7
      obtain ⟨rfl, rfl, rfl, rfl⟩ := e5
      obtain ⟨rfl, rfl, rfl, rfl⟩ := e6
      subst e0 e1 e2 e3 e4 e7
      exact ⟨⟨n0, m, n2, n3, n4, a, b, s⟩, rfl, by first | exact w7 | exact h7, ⟨w4, w0⟩⟩

/-- A list of packets that comes in. -/
theorem packets_open {fuel : Nat} {v : Value} {x : DataW H × List MemPlace} (h : DataW.trod enc Try.prog w base spare held fuel 57 [v] = some x) :
    ∃ Ad cap l, v = .slice Ad (List.length l) cap ∧ PksAt w Ad l ∧ l.length ≤ maxLen ∧ ∀ p ∈ l, p.s.size ≤ maxLen ∧ p.Wf := by
  have hC : Try.prog.cellsOf 34 = 14 := by kernel_rfl
  rcases open_slice Try.underlying57 h with ⟨hcs, _⟩ | ⟨a, len, cap, m, n, D, Pl, hcs, _, hl, hm, hmm, _, hall⟩
  · exact ⟨none, 0, [], by simpa using hcs, fun h => absurd rfl h, by simp, fun p h => by simp at h⟩
  · have hlm : len ≤ m := by rw [hmm]; split <;> omega
    have each : ∀ i, i < len → ∃ t : Pk, (t.s.size ≤ maxLen ∧ t.Wf) ∧ ∃ b off, a = ⟨b, off, none⟩ ∧ b < w.heap.size ∧ PkAt w b (off + i * 14) t := by
      intro i hi
      obtain ⟨cs, hcell, htr⟩ := hall i (by omega)
      rw [hC] at hcell
      obtain ⟨_, hlen, hat⟩ := World.cells?_some hcell
      obtain ⟨p, rfl, hps⟩ := packet_cells htr
      obtain ⟨b, off, spot⟩ := a
      have hspot : spot = none := by
        obtain ⟨cs0, hcell0, htr0⟩ := hall 0 (by omega)
        rw [hC] at hcell0
        obtain ⟨_, hlen0, hat0⟩ := World.cells?_some hcell0
        have q0 := hat0 0 (by omega)
        rw [List.getElem?_eq_getElem (by omega)] at q0
        simpa [Addr.add] using World.cell?_spot q0
      subst hspot
      have hk : ∀ k (hk : k < 14), w.cell? ⟨b, off + i * 14 + k, none⟩ = some (p.enc[k]'(by rw [Pk.enc_length]; exact hk)) := fun k hk => by
        have h1 := hat k (by omega)
        rw [List.getElem?_eq_getElem (by rw [Pk.enc_length]; exact hk)] at h1
        rw [add_add'] at h1
        exact h1
      exact ⟨p, hps, b, off, rfl, cell_lt (hk 0 (by omega)), hk 0 (by omega), hk 1 (by omega), hk 2 (by omega), hk 3 (by omega), hk 4 (by omega), hk 5 (by omega), hk 6 (by omega), hk 7 (by omega), hk 8 (by omega), hk 9 (by omega), hk 10 (by omega), hk 11 (by omega), hk 12 (by omega), hk 13 (by omega)⟩
    obtain ⟨l, hll, hlp⟩ := list_of len each
    refine ⟨some a, cap, l, by rw [hll]; simpa using hcs, fun hne => ?_, by omega, fun p hp => ?_⟩
    · have hpos : 0 < l.length := List.length_pos_iff.2 hne
      obtain ⟨_, b, off, rfl, hb, _⟩ := hlp 0 hpos
      refine ⟨b, off, rfl, hb, fun i hi => ?_⟩
      obtain ⟨_, b', off', e, _, hit⟩ := hlp i hi
      cases e
      exact hit
    · obtain ⟨i, hi, rfl⟩ := List.getElem_of_mem hp
      exact (hlp i hi).1
end
end Go.Proofs.Ytgdjcoodjdckkaa
/- Packets that are put in, one behind the other: what stays. -/
set_option maxRecDepth 100000
namespace Go.Proofs.Ytgdjcoodjdckkaa
open Go.RowKit Go.Proofs.PitotIp Go.Maps
open Go.Proofs.PitotReasm (Bg Tb Fine bad first next passed passE put keep)
open Go.Proofs.Ytgdjcoodjdckkaa.Bi (lies_lt lies_cell lies_frozen lies_alloc lies_set)

theorem put_now {most : Nat} {wait : Int} {t : Tb K UInt8} {n : Int} (hp : passE t n = 0) (k : K) (m : Bool) (o : Int) (d : List UInt8) : (put most wait t n k m o d).1.now = n := by
  unfold put
  rw [if_neg (by omega)]
  by_cases h2 : m = false ∧ o = 0
  · rw [if_pos h2]; rfl
  · rw [if_neg h2]
    by_cases h3 : o = 0
    · rw [if_pos h3]
      show (first most (passed t wait n) k m d).1.now = n
      unfold first
      split
      · rfl
      · split
        · rfl
        · simp only; split <;> rfl
    · rw [if_neg h3]
      show (next (passed t wait n) k m o d).1.now = n
      unfold next
      cases PitotReasm.find (passed t wait n).l k with
      | none => rfl
      | some b =>
        simp only
        generalize (if b.d.length % 8 ≠ 0 ∨ o ≠ ((b.d.length / 8 : Nat) : Int) then (25 : Int) else if bad m d = true then 15 else if 8200 < b.d.length + d.length then 11 else 0) = e
        split
        · rfl
        · split <;> rfl
theorem pass_zero {t : Tb K UInt8} {n : Int} (h1 : t.now ≤ n) (h2 : n ≤ 1125899906842624) : passE t n = 0 := by
  unfold passE
  rw [if_neg (by omega), if_neg (by omega)]
/-- What is so of a table into which packets were put at the ticks 0, 1, .. -/
structure Run (most i : Nat) (T : Tb K UInt8) : Prop where
  good : Good most T
  now : T.now ≤ i
  dr : T.dr ≤ i * 128
theorem run_zero (most : Nat) : Run most 0 t0 := ⟨good_new most, by simp [t0], by simp [t0]⟩
theorem run_next {most i : Nat} {T : Tb K UInt8} (h : Run most i T) (hm : most ≤ 64) (hi : i ≤ 1000000) (wait : Int) (k : K) (m : Bool) (o : Int) (d : List UInt8) : Run most (i + 1) (put most wait T i k m o d).1 := by
  have hp := pass_zero h.now (show (i : Int) ≤ 1125899906842624 by omega)
  refine ⟨put_good h.good _ _ _ _ _, ?_, ?_⟩
  · rw [put_now hp]; omega
  · have := put_dr h.good (i : Int) k m o d (wait := wait)
    have := h.dr
    omega
/-- A Put in such a run. -/
theorem run_put {base most : Nat} {wait : Int} {T : Tb K UInt8} {i : Nat} (h : Run most i T) (hm : most ≤ 64) (hi : i ≤ 1000000) (hw0 : 0 ≤ wait) (hw1 : wait ≤ 1125899906842624) {p : Pk} (hw : p.Wf) (hs : p.s.size ≤ 1000000000) {tp : Nat} {V : World} (hT : TabAt base V tp most wait T) :
    Calls Try.prog 14 #[.pointer (some ⟨tp, 0, none⟩), .int .i64 i, p.val] V fun r V' => r = .returned (.tuple #[(ansP p (put most wait T i (p.key hw) p.m p.off p.d).2.1).val, .bool (put most wait T i (p.key hw) p.m p.off p.d).2.1.isSome, .int .i64 (put most wait T i (p.key hw) p.m p.off p.d).2.2]) ∧
      TabAt base V' tp most wait (put most wait T i (p.key hw) p.m p.off p.d).1 ∧ Fr base V V' := by
  have := h.dr
  have := put_any hT h.good hm (by omega) hw0 hw1 (i : Int) p hw hs
  exact this
end Go.Proofs.Ytgdjcoodjdckkaa
/- Contracts of the law's ip: an address as a text. -/
namespace Go.Proofs.Ytgdjcoodjdckkaa
open Go.RowKit Go.Proofs.PitotIp
open Go.Proofs.Ytgdjcoodjdckkaa.Bi (lies_lt lies_cell lies_frozen lies_alloc)

abbrev ip4 (q : Q4) : Value := .agg #[.int .u8 q.a.toNat, .int .u8 q.b.toNat, .int .u8 q.c.toNat, .int .u8 q.d.toNat]
abbrev ip4C (q : Q4) : Obj := .cells #[.int .u8 q.a.toNat, .int .u8 q.b.toNat, .int .u8 q.c.toNat, .int .u8 q.d.toNat] 32

def ipB (q : Q4) : ByteArray := ⟨#[q.a, q.b, q.c, q.d]⟩
theorem ipB_list (q : Q4) : (ipB q).data.toList = q.bytes := rfl
theorem ipB_size (q : Q4) : (ipB q).size = 4 := rfl

set_option maxHeartbeats 400000 in
theorem ip_any (q : Q4) (w : World) : Calls Try.prog 29 #[ip4 q] w fun e w' => e = .returned (.string (ipB q)) ∧ Below w.heap.size w w' := by
  have L : ((w.alloc (ip4C q)).alloc (.cells #[.int .u8 q.a.toNat, .int .u8 q.b.toNat, .int .u8 q.c.toNat, .int .u8 q.d.toNat] 5)).heap[w.heap.size + 1]? = some (.cells #[.int .u8 q.a.toNat, .int .u8 q.b.toNat, .int .u8 q.c.toNat, .int .u8 q.d.toNat] 5) := by
    have := heap_alloc_new (w.alloc (ip4C q)) (.cells #[.int .u8 q.a.toNat, .int .u8 q.b.toNat, .int .u8 q.c.toNat, .int .u8 q.d.toNat] 5)
    simpa using this
  have cv := conv_four _ _ 0 q (lies_cell L 0) (lies_cell L 1) (lies_cell L 2) (lies_cell L 3)
  have kb : Below w.heap.size w ((w.alloc (ip4C q)).alloc (.cells #[.int .u8 q.a.toNat, .int .u8 q.b.toNat, .int .u8 q.c.toNat, .int .u8 q.d.toNat] 5)) := ((Below.refl _ w).alloc (Nat.le_refl _) _).alloc (by simp) _
  have kb := Lib.hid kb
  clear L
  go_enter Try.func29, Try.ntmps29
  go_wp2
  go_returns
  exact ⟨rfl, kb.out⟩
end Go.Proofs.Ytgdjcoodjdckkaa
/- Contracts of the law's Plain: a packet as the document's answer has it. -/
namespace Go.Proofs.Ytgdjcoodjdckkaa
open Go.RowKit Go.Proofs.PitotIp
open Go.Proofs.Ytgdjcoodjdckkaa.Bi (lies_lt lies_cell lies_frozen lies_alloc)

abbrev rpz : Obj := .cells #[.int .i64 0, .bool false, .int .i64 0, .int .i64 0, .int .i64 0, .string ⟨#[]⟩, .string ⟨#[]⟩, .string ⟨#[]⟩] 41
abbrev rp0 : Value := .agg #[.int .i64 0, .bool false, .int .i64 0, .int .i64 0, .int .i64 0, .string ⟨#[]⟩, .string ⟨#[]⟩, .string ⟨#[]⟩]

/-- What Plain holds: the packet, its result's cells. -/
structure Pl (w X : World) (P : Obj) : Prop where
  lp : X.heap[w.heap.size]? = some P
  lr : X.heap[w.heap.size + 1]? = some rpz
  lb : Below w.heap.size w X
theorem Pl.below {w X Y : World} {cs : Array Value} {t : TypeId} (q : Pl w X (.cells cs t)) (hb : Below X.heap.size X Y) : Pl w Y (.cells cs t) :=
  ⟨lies_below q.lp hb (lies_lt q.lp), lies_below q.lr hb (lies_lt q.lr), q.lb.trans (hb.mono q.lb.size)⟩
theorem Pl.alloc {w X : World} {cs : Array Value} {t : TypeId} (q : Pl w X (.cells cs t)) (o : Obj) : Pl w (X.alloc o) (.cells cs t) :=
  ⟨lies_alloc q.lp o, lies_alloc q.lr o, q.lb.alloc q.lb.size o⟩
theorem Pl.drew {w X : World} {P : Obj} (q : Pl w X P) : Pl w X.drew P := ⟨q.lp, q.lr, q.lb.drew⟩

theorem pl_store {w W : World} {cs : Array Value} {t : TypeId} {gx : Nat} (LO : W.heap[gx]? = some rpz) (q : Pl w W (.cells cs t)) (hg : w.heap.size + 1 < gx) (y0 y1 y2 y3 y4 y5 y6 y7 : Value) :
    ((((((((W.setCell ⟨gx, 0, none⟩ y0).setCell ⟨gx, 1, none⟩ y1).setCell ⟨gx, 2, none⟩ y2).setCell ⟨gx, 3, none⟩ y3).setCell ⟨gx, 4, none⟩ y4).setCell ⟨gx, 5, none⟩ y5).setCell ⟨gx, 6, none⟩ y6).setCell ⟨gx, 7, none⟩ y7).heap[gx]? = some (.cells #[y0, y1, y2, y3, y4, y5, y6, y7] 41) ∧ Pl w ((((((((W.setCell ⟨gx, 0, none⟩ y0).setCell ⟨gx, 1, none⟩ y1).setCell ⟨gx, 2, none⟩ y2).setCell ⟨gx, 3, none⟩ y3).setCell ⟨gx, 4, none⟩ y4).setCell ⟨gx, 5, none⟩ y5).setCell ⟨gx, 6, none⟩ y6).setCell ⟨gx, 7, none⟩ y7) (.cells cs t) := by
  have e : ∀ {V : World} (k : Nat) (v : Value), Pl w V (.cells cs t) → Pl w (V.setCell ⟨gx, k, none⟩ v) (.cells cs t) := fun {V} k v q => ⟨(Below.heap_setCell V _ v _ (by show w.heap.size ≠ gx; omega)).trans q.lp, (Below.heap_setCell V _ v _ (by show w.heap.size + 1 ≠ gx; omega)).trans q.lr, q.lb.setCell (show w.heap.size ≤ (⟨gx, k, none⟩ : Addr).block from by show w.heap.size ≤ gx; omega) v⟩
  exact ⟨(read_8 LO).2.2.2.2.2.2.2.2, e _ _ (e _ _ (e _ _ (e _ _ (e _ _ (e _ _ (e _ _ (e _ _ (q))))))))⟩

set_option maxRecDepth 100000 in
set_option maxHeartbeats 4000000 in
theorem plain_false (id : Int) (m : Bool) (off ttl pr : Int) (a b : Q4) (s : ByteArray) (w : World) :
    Calls Try.prog 16 #[pk id m off ttl pr a b s, .bool false] w fun e w' => e = .returned (rp id m off ttl pr (ipB a) (ipB b) s) ∧ Below w.heap.size w w' := by
  have HA := ip_any a
  have HB := ip_any b
  obtain ⟨A, HAA⟩ : ∃ A, Hid (A = ipB a) := ⟨_, rfl⟩
  obtain ⟨B, HBB⟩ : ∃ A, Hid (A = ipB b) := ⟨_, rfl⟩
  rw [← HAA.out] at HA
  rw [← HBB.out] at HB
  have HA := Lib.hid HA
  have HB := Lib.hid HB
  have P0 : Pl w ((w.alloc (pkC id m off ttl pr a b s)).alloc rpz) (pkC id m off ttl pr a b s) := by
    refine ⟨lies_alloc (heap_alloc_new w _) _, ?_, ((Below.refl _ w).alloc (Nat.le_refl _) _).alloc (by simp) _⟩
    have := heap_alloc_new (w.alloc (pkC id m off ttl pr a b s)) rpz
    simpa using this
  go_enter Try.func16, Try.ntmps16
  go_upto_region 1 with fail
  generalize (w.alloc (pkC id m off ttl pr a b s)).alloc rpz = X at P0 ⊢
  have NX0 : Hid (w.heap.size + 1 < X.heap.size) := lies_lt P0.lr
  have PD := Lib.hid P0.drew
  have PA : Hid (Pl w (X.alloc rpz).drew (pkC id m off ttl pr a b s)) := (P0.alloc rpz).drew
  have LX : Hid ((X.alloc rpz).drew.heap[X.heap.size]? = some rpz) := heap_alloc_new X rpz
  have PF : Hid (∀ o, (X.alloc o).drew.heap[w.heap.size]? = some (pkC id m off ttl pr a b s)) := fun o => lies_alloc P0.lp o
  clear P0
  go_cut [5] from 6 (fun s5 wc => ∃ gx, s5 = .pointer (some ⟨gx, 0, none⟩) ∧ w.heap.size + 1 < gx ∧ wc.heap[gx]? = some (rpC id m off ttl pr A B s) ∧ Pl w wc (pkC id m off ttl pr a b s))
  case first =>
    go_region_held3 (fun w' => w'.cell? ⟨w.heap.size, 0, none⟩ = some (.int .i64 id) ∧ w'.cell? ⟨w.heap.size, 1, none⟩ = some (.bool m) ∧ w'.cell? ⟨w.heap.size, 2, none⟩ = some (.int .i64 off) ∧ w'.cell? ⟨w.heap.size, 3, none⟩ = some (.int .i64 ttl) ∧ w'.cell? ⟨w.heap.size, 4, none⟩ = some (.int .i64 pr) ∧ w'.cell? ⟨w.heap.size, 5, none⟩ = some (.int .u8 a.a.toNat) ∧ w'.cell? ⟨w.heap.size, 6, none⟩ = some (.int .u8 a.b.toNat) ∧ w'.cell? ⟨w.heap.size, 7, none⟩ = some (.int .u8 a.c.toNat) ∧ w'.cell? ⟨w.heap.size, 8, none⟩ = some (.int .u8 a.d.toNat) ∧ w'.cell? ⟨w.heap.size, 9, none⟩ = some (.int .u8 b.a.toNat) ∧ w'.cell? ⟨w.heap.size, 10, none⟩ = some (.int .u8 b.b.toNat) ∧ w'.cell? ⟨w.heap.size, 11, none⟩ = some (.int .u8 b.c.toNat) ∧ w'.cell? ⟨w.heap.size, 12, none⟩ = some (.int .u8 b.d.toNat) ∧ w'.cell? ⟨w.heap.size, 13, none⟩ = some (.string s))
      (first | (with_reducible exact cells14 PD.out.lp) | (with_reducible exact cells14 (PF.out _)) | (with_reducible exact cells14 P1.out.lp) | (with_reducible exact cells14 (P1A.out _)) | (with_reducible exact cells14 P2.out.lp) | (with_reducible exact cells14 (P2A.out _)) | (with_reducible exact cells14 (pl_store LO2.out P2.out NX0.out _ _ _ _ _ _ _ _).2.lp) | (with_reducible exact cells14 (pl_store LO2.out P2.out N1.out _ _ _ _ _ _ _ _).2.lp))
      (first
        | (go_at_call 29; (with_reducible refine (HA.out X.drew).mono ?_); rintro r w1 ⟨rfl, hb⟩
           (have P1 : Hid (Pl w w1 (pkC id m off ttl pr a b s)) := PD.out.below hb)
           (have P1A : Hid (∀ o, (w1.alloc o).heap[w.heap.size]? = some (pkC id m off ttl pr a b s)) := fun o => lies_alloc P1.out.lp o)
           (have N1 : Hid (w.heap.size + 1 < w1.heap.size) := lies_lt P1.out.lr)
           (clear hb))
        | (go_at_call 29; (with_reducible refine (HA.out (X.alloc rpz).drew).mono ?_); rintro r w1 ⟨rfl, hb⟩
           (have P1 : Hid (Pl w w1 (pkC id m off ttl pr a b s)) := PA.out.below hb)
           (have P1A : Hid (∀ o, (w1.alloc o).heap[w.heap.size]? = some (pkC id m off ttl pr a b s)) := fun o => lies_alloc P1.out.lp o)
           (have N1 : Hid (w.heap.size + 1 < w1.heap.size) := lies_lt P1.out.lr)
           (have LO : Hid (w1.heap[X.heap.size]? = some rpz) := lies_below LX.out hb (lies_lt LX.out))
           (clear hb))
        | (go_at_call 29; (with_reducible refine (HB.out w1).mono ?_); rintro r w2 ⟨rfl, hb⟩
           (have LO2 : Hid (w2.heap[X.heap.size]? = some rpz) := lies_below LO.out hb (lies_lt LO.out))
           (have P2 : Hid (Pl w w2 (pkC id m off ttl pr a b s)) := P1.out.below hb)
           (have P2A : Hid (∀ o, (w2.alloc o).heap[w.heap.size]? = some (pkC id m off ttl pr a b s)) := fun o => lies_alloc P2.out.lp o)
           (obtain ⟨o0, o1, o2, o3, o4, o5, o6, o7⟩ := cells8 LO2.out)
           (have f0 := lies_frozen LO2.out 0)
           (have f1 := lies_frozen LO2.out 1)
           (have f2 := lies_frozen LO2.out 2)
           (have f3 := lies_frozen LO2.out 3)
           (have f4 := lies_frozen LO2.out 4)
           (have f5 := lies_frozen LO2.out 5)
           (have f6 := lies_frozen LO2.out 6)
           (have f7 := lies_frozen LO2.out 7)
           (clear hb))
        | (go_at_call 29; (with_reducible refine (HB.out (w1.alloc rpz)).mono ?_); rintro r w2 ⟨rfl, hb⟩
           (have LO2 : Hid (w2.heap[w1.heap.size]? = some rpz) := lies_below (heap_alloc_new w1 rpz) hb (by simp))
           (have P2 : Hid (Pl w w2 (pkC id m off ttl pr a b s)) := (P1.out.alloc rpz).below hb)
           (have P2A : Hid (∀ o, (w2.alloc o).heap[w.heap.size]? = some (pkC id m off ttl pr a b s)) := fun o => lies_alloc P2.out.lp o)
           (obtain ⟨o0, o1, o2, o3, o4, o5, o6, o7⟩ := cells8 LO2.out)
           (have f0 := lies_frozen LO2.out 0)
           (have f1 := lies_frozen LO2.out 1)
           (have f2 := lies_frozen LO2.out 2)
           (have f3 := lies_frozen LO2.out 3)
           (have f4 := lies_frozen LO2.out 4)
           (have f5 := lies_frozen LO2.out 5)
           (have f6 := lies_frozen LO2.out 6)
           (have f7 := lies_frozen LO2.out 7)
           (clear hb))
        | (go_at_call 29; (with_reducible refine (HB.out w1).mono ?_); rintro r w2 ⟨rfl, hb⟩
           (have P2 : Hid (Pl w w2 (pkC id m off ttl pr a b s)) := P1.out.below hb)
           (have P2A : Hid (∀ o, (w2.alloc o).heap[w.heap.size]? = some (pkC id m off ttl pr a b s)) := fun o => lies_alloc P2.out.lp o)
           (clear hb)))
    all_goals
      go_wp2
      go_meet
      case rel =>
        first
        | exact ⟨_, rfl, NX0.out, pl_store LO2.out P2.out NX0.out _ _ _ _ _ _ _ _⟩
        | exact ⟨_, rfl, N1.out, pl_store LO2.out P2.out N1.out _ _ _ _ _ _ _ _⟩
        | exact ⟨_, rfl, lies_lt P2.out.lr, heap_alloc_new _ _, P2.out.alloc _⟩
  case rest =>
    obtain ⟨gx, rfl, NX, LY, PY⟩ := hcut
    clear PD PA LX PF NX0 HA HB
    have v1 : ¬ gx = w.heap.size := by omega
    have v2 : ¬ gx = w.heap.size + 1 := by omega
    obtain ⟨c0, c1, c2, c3, c4, c5, c6, c7, c8, c9, c10, c11, c12, c13⟩ := cells14 PY.lp
    obtain ⟨l0, l1, l2, l3, l4, l5, l6, l7⟩ := cells8 LY
    obtain ⟨q0, q1, q2, q3, q4, q5, q6, q7⟩ := cells8 PY.lr
    have fr0 := lies_frozen PY.lr 0
    have fr1 := lies_frozen PY.lr 1
    have fr2 := lies_frozen PY.lr 2
    have fr3 := lies_frozen PY.lr 3
    have fr4 := lies_frozen PY.lr 4
    have fr5 := lies_frozen PY.lr 5
    have fr6 := lies_frozen PY.lr 6
    have fr7 := lies_frozen PY.lr 7
    have PY := Lib.hid PY; have LY := Lib.hid LY
    go_wp2
    (try simp only [Exit.inBlock, Exit.then])
    obtain ⟨k0, k1, k2, k3, k4, k5, k6, k7, E8⟩ := read_8 (y0 := .int .i64 id) (y1 := .bool m) (y2 := .int .i64 off) (y3 := .int .i64 ttl) (y4 := .int .i64 pr) (y5 := .string A) (y6 := .string B) (y7 := .string s) PY.out.lr
    refine bodyPost_ret (by simp [results, Try.results16, go_sem, k0, k1, k2, k3, k4, k5, k6, k7]; try rfl) rfl ?_
    refine ⟨?_, below_8 PY.out.lb (Nat.le_succ _) _ _ _ _ _ _ _ _⟩
    first
    | (rw [← HAA.out, ← HBB.out]; done)
    | (rw [← HAA.out, ← HBB.out]; rfl)

set_option maxRecDepth 100000 in
set_option maxHeartbeats 4000000 in
theorem plain_true (id : Int) (m : Bool) (off ttl pr : Int) (a b : Q4) (s : ByteArray) (w : World) (ha : a = q0) (hb : b = q0) :
    Calls Try.prog 16 #[pk id m off ttl pr a b s, .bool true] w fun e w' => e = .returned (rp id m off ttl pr ⟨#[]⟩ ⟨#[]⟩ s) ∧ Below w.heap.size w w' := by
  have eqa : ∀ w, (Go.Op.equalIn 10000 32 (.agg #[.int .u8 a.a.toNat, .int .u8 a.b.toNat, .int .u8 a.c.toNat, .int .u8 a.d.toNat]) (.agg #[.int .u8 0, .int .u8 0, .int .u8 0, .int .u8 0])).run Try.prog w = .ok true w := fun w => by rw [ha]; exact zero10 w
  have eqb : ∀ w, (Go.Op.equalIn 10000 32 (.agg #[.int .u8 b.a.toNat, .int .u8 b.b.toNat, .int .u8 b.c.toNat, .int .u8 b.d.toNat]) (.agg #[.int .u8 0, .int .u8 0, .int .u8 0, .int .u8 0])).run Try.prog w = .ok true w := fun w => by rw [hb]; exact zero10 w
  clear ha hb
  have HA := ip_any a
  have HB := ip_any b
  obtain ⟨A, HAA⟩ : ∃ A, Hid (A = ipB a) := ⟨_, rfl⟩
  obtain ⟨B, HBB⟩ : ∃ A, Hid (A = ipB b) := ⟨_, rfl⟩
  rw [← HAA.out] at HA
  rw [← HBB.out] at HB
  have HA := Lib.hid HA
  have HB := Lib.hid HB
  have P0 : Pl w ((w.alloc (pkC id m off ttl pr a b s)).alloc rpz) (pkC id m off ttl pr a b s) := by
    refine ⟨lies_alloc (heap_alloc_new w _) _, ?_, ((Below.refl _ w).alloc (Nat.le_refl _) _).alloc (by simp) _⟩
    have := heap_alloc_new (w.alloc (pkC id m off ttl pr a b s)) rpz
    simpa using this
  go_enter Try.func16, Try.ntmps16
  go_upto_region 1 with fail
  generalize (w.alloc (pkC id m off ttl pr a b s)).alloc rpz = X at P0 ⊢
  have NX0 : Hid (w.heap.size + 1 < X.heap.size) := lies_lt P0.lr
  have PD := Lib.hid P0.drew
  have PA : Hid (Pl w (X.alloc rpz).drew (pkC id m off ttl pr a b s)) := (P0.alloc rpz).drew
  have LX : Hid ((X.alloc rpz).drew.heap[X.heap.size]? = some rpz) := heap_alloc_new X rpz
  have PF : Hid (∀ o, (X.alloc o).drew.heap[w.heap.size]? = some (pkC id m off ttl pr a b s)) := fun o => lies_alloc P0.lp o
  clear P0
  go_cut [5] from 6 (fun s5 wc => ∃ gx, s5 = .pointer (some ⟨gx, 0, none⟩) ∧ w.heap.size + 1 < gx ∧ wc.heap[gx]? = some (rpC id m off ttl pr A B s) ∧ Pl w wc (pkC id m off ttl pr a b s))
  case first =>
    go_region_held3 (fun w' => w'.cell? ⟨w.heap.size, 0, none⟩ = some (.int .i64 id) ∧ w'.cell? ⟨w.heap.size, 1, none⟩ = some (.bool m) ∧ w'.cell? ⟨w.heap.size, 2, none⟩ = some (.int .i64 off) ∧ w'.cell? ⟨w.heap.size, 3, none⟩ = some (.int .i64 ttl) ∧ w'.cell? ⟨w.heap.size, 4, none⟩ = some (.int .i64 pr) ∧ w'.cell? ⟨w.heap.size, 5, none⟩ = some (.int .u8 a.a.toNat) ∧ w'.cell? ⟨w.heap.size, 6, none⟩ = some (.int .u8 a.b.toNat) ∧ w'.cell? ⟨w.heap.size, 7, none⟩ = some (.int .u8 a.c.toNat) ∧ w'.cell? ⟨w.heap.size, 8, none⟩ = some (.int .u8 a.d.toNat) ∧ w'.cell? ⟨w.heap.size, 9, none⟩ = some (.int .u8 b.a.toNat) ∧ w'.cell? ⟨w.heap.size, 10, none⟩ = some (.int .u8 b.b.toNat) ∧ w'.cell? ⟨w.heap.size, 11, none⟩ = some (.int .u8 b.c.toNat) ∧ w'.cell? ⟨w.heap.size, 12, none⟩ = some (.int .u8 b.d.toNat) ∧ w'.cell? ⟨w.heap.size, 13, none⟩ = some (.string s))
      (first | (with_reducible exact cells14 PD.out.lp) | (with_reducible exact cells14 (PF.out _)) | (with_reducible exact cells14 P1.out.lp) | (with_reducible exact cells14 (P1A.out _)) | (with_reducible exact cells14 P2.out.lp) | (with_reducible exact cells14 (P2A.out _)) | (with_reducible exact cells14 (pl_store LO2.out P2.out NX0.out _ _ _ _ _ _ _ _).2.lp) | (with_reducible exact cells14 (pl_store LO2.out P2.out N1.out _ _ _ _ _ _ _ _).2.lp))
      (first
        | (go_at_call 29; (with_reducible refine (HA.out X.drew).mono ?_); rintro r w1 ⟨rfl, hb⟩
           (have P1 : Hid (Pl w w1 (pkC id m off ttl pr a b s)) := PD.out.below hb)
           (have P1A : Hid (∀ o, (w1.alloc o).heap[w.heap.size]? = some (pkC id m off ttl pr a b s)) := fun o => lies_alloc P1.out.lp o)
           (have N1 : Hid (w.heap.size + 1 < w1.heap.size) := lies_lt P1.out.lr)
           (clear hb))
        | (go_at_call 29; (with_reducible refine (HA.out (X.alloc rpz).drew).mono ?_); rintro r w1 ⟨rfl, hb⟩
           (have P1 : Hid (Pl w w1 (pkC id m off ttl pr a b s)) := PA.out.below hb)
           (have P1A : Hid (∀ o, (w1.alloc o).heap[w.heap.size]? = some (pkC id m off ttl pr a b s)) := fun o => lies_alloc P1.out.lp o)
           (have N1 : Hid (w.heap.size + 1 < w1.heap.size) := lies_lt P1.out.lr)
           (have LO : Hid (w1.heap[X.heap.size]? = some rpz) := lies_below LX.out hb (lies_lt LX.out))
           (clear hb))
        | (go_at_call 29; (with_reducible refine (HB.out w1).mono ?_); rintro r w2 ⟨rfl, hb⟩
           (have LO2 : Hid (w2.heap[X.heap.size]? = some rpz) := lies_below LO.out hb (lies_lt LO.out))
           (have P2 : Hid (Pl w w2 (pkC id m off ttl pr a b s)) := P1.out.below hb)
           (have P2A : Hid (∀ o, (w2.alloc o).heap[w.heap.size]? = some (pkC id m off ttl pr a b s)) := fun o => lies_alloc P2.out.lp o)
           (obtain ⟨o0, o1, o2, o3, o4, o5, o6, o7⟩ := cells8 LO2.out)
           (have f0 := lies_frozen LO2.out 0)
           (have f1 := lies_frozen LO2.out 1)
           (have f2 := lies_frozen LO2.out 2)
           (have f3 := lies_frozen LO2.out 3)
           (have f4 := lies_frozen LO2.out 4)
           (have f5 := lies_frozen LO2.out 5)
           (have f6 := lies_frozen LO2.out 6)
           (have f7 := lies_frozen LO2.out 7)
           (clear hb))
        | (go_at_call 29; (with_reducible refine (HB.out (w1.alloc rpz)).mono ?_); rintro r w2 ⟨rfl, hb⟩
           (have LO2 : Hid (w2.heap[w1.heap.size]? = some rpz) := lies_below (heap_alloc_new w1 rpz) hb (by simp))
           (have P2 : Hid (Pl w w2 (pkC id m off ttl pr a b s)) := (P1.out.alloc rpz).below hb)
           (have P2A : Hid (∀ o, (w2.alloc o).heap[w.heap.size]? = some (pkC id m off ttl pr a b s)) := fun o => lies_alloc P2.out.lp o)
           (obtain ⟨o0, o1, o2, o3, o4, o5, o6, o7⟩ := cells8 LO2.out)
           (have f0 := lies_frozen LO2.out 0)
           (have f1 := lies_frozen LO2.out 1)
           (have f2 := lies_frozen LO2.out 2)
           (have f3 := lies_frozen LO2.out 3)
           (have f4 := lies_frozen LO2.out 4)
           (have f5 := lies_frozen LO2.out 5)
           (have f6 := lies_frozen LO2.out 6)
           (have f7 := lies_frozen LO2.out 7)
           (clear hb))
        | (go_at_call 29; (with_reducible refine (HB.out w1).mono ?_); rintro r w2 ⟨rfl, hb⟩
           (have P2 : Hid (Pl w w2 (pkC id m off ttl pr a b s)) := P1.out.below hb)
           (have P2A : Hid (∀ o, (w2.alloc o).heap[w.heap.size]? = some (pkC id m off ttl pr a b s)) := fun o => lies_alloc P2.out.lp o)
           (clear hb)))
    all_goals
      go_wp2
      go_meet
      case rel =>
        first
        | exact ⟨_, rfl, NX0.out, pl_store LO2.out P2.out NX0.out _ _ _ _ _ _ _ _⟩
        | exact ⟨_, rfl, N1.out, pl_store LO2.out P2.out N1.out _ _ _ _ _ _ _ _⟩
        | exact ⟨_, rfl, lies_lt P2.out.lr, heap_alloc_new _ _, P2.out.alloc _⟩
  case rest =>
    obtain ⟨gx, rfl, NX, LY, PY⟩ := hcut
    clear PD PA LX PF NX0 HA HB
    have v1 : ¬ gx = w.heap.size := by omega
    have v2 : ¬ gx = w.heap.size + 1 := by omega
    obtain ⟨c0, c1, c2, c3, c4, c5, c6, c7, c8, c9, c10, c11, c12, c13⟩ := cells14 PY.lp
    obtain ⟨l0, l1, l2, l3, l4, l5, l6, l7⟩ := cells8 LY
    obtain ⟨q0, q1, q2, q3, q4, q5, q6, q7⟩ := cells8 PY.lr
    have fr0 := lies_frozen PY.lr 0
    have fr1 := lies_frozen PY.lr 1
    have fr2 := lies_frozen PY.lr 2
    have fr3 := lies_frozen PY.lr 3
    have fr4 := lies_frozen PY.lr 4
    have fr5 := lies_frozen PY.lr 5
    have fr6 := lies_frozen PY.lr 6
    have fr7 := lies_frozen PY.lr 7
    have g5 := lies_frozen LY 5
    have g6 := lies_frozen LY 6
    have PY := Lib.hid PY; have LY := Lib.hid LY
    go_wp2
    (try simp only [Exit.inBlock, Exit.then])
    have LR : ((wc.setCell ⟨gx, 5, none⟩ (.string ⟨#[]⟩)).setCell ⟨gx, 6, none⟩ (.string ⟨#[]⟩)).heap[w.heap.size + 1]? = some rpz := (Below.heap_setCell _ _ _ _ (by show w.heap.size + 1 ≠ gx; omega)).trans ((Below.heap_setCell _ _ _ _ (by show w.heap.size + 1 ≠ gx; omega)).trans PY.out.lr)
    have LB : Below w.heap.size w ((wc.setCell ⟨gx, 5, none⟩ (.string ⟨#[]⟩)).setCell ⟨gx, 6, none⟩ (.string ⟨#[]⟩)) := (PY.out.lb.setCell (show w.heap.size ≤ (⟨gx, 5, none⟩ : Addr).block from by show w.heap.size ≤ gx; omega) _).setCell (show w.heap.size ≤ (⟨gx, 6, none⟩ : Addr).block from by show w.heap.size ≤ gx; omega) _
    obtain ⟨k0, k1, k2, k3, k4, k5, k6, k7, E8⟩ := read_8 (y0 := .int .i64 id) (y1 := .bool m) (y2 := .int .i64 off) (y3 := .int .i64 ttl) (y4 := .int .i64 pr) (y5 := .string ⟨#[]⟩) (y6 := .string ⟨#[]⟩) (y7 := .string s) LR
    refine bodyPost_ret (by simp [results, Try.results16, go_sem, k0, k1, k2, k3, k4, k5, k6, k7]; try rfl) rfl ?_
    exact ⟨rfl, below_8 LB (Nat.le_succ _) _ _ _ _ _ _ _ _⟩

end Go.Proofs.Ytgdjcoodjdckkaa
/- Contract of cut: a packet as so many parts. -/
set_option maxRecDepth 100000
namespace Go.Proofs.Ytgdjcoodjdckkaa
open Go.RowKit Go.Proofs.PitotFrag Go.Proofs.PitotIp
open Go.Proofs.Ytgdjcoodjdckkaa.Bi (lies_lt lies_cell lies_frozen lies_alloc lies_set)

def bl (l : List UInt8) : ByteArray := ⟨l.toArray⟩
theorem bl_size (l : List UInt8) : (bl l).size = l.length := by show l.toArray.size = _; simp
theorem bl_list (l : List UInt8) : (bl l).data.toList = l := by simp [bl]
theorem bl_of (s : ByteArray) : bl s.data.toList = s := rfl
theorem bl_extract (l : List UInt8) (i j : Nat) : (bl l).extract i j = bl ((l.drop i).take (j - i)) := by
  apply ByteArray.ext
  rw [ByteArray.data_extract, ← Array.toList_inj]
  simp [bl, List.take_drop]
  

/-- The parts of a packet: C of R bytes, and what is left. -/
def partAt (p : Pk) (R k : Nat) : Pk := { p with m := true, off := (k * (R / 8) : Nat), s := bl (piece p.s.data.toList R k) }
def restAt (p : Pk) (R k : Nat) : Pk := { p with off := (k * (R / 8) : Nat), s := bl (p.s.data.toList.drop (k * R)) }
def cutP (p : Pk) (C R : Nat) : List Pk := (List.range C).map (partAt p R) ++ [restAt p R C]
theorem cutP_length (p : Pk) (C R : Nat) : (cutP p C R).length = C + 1 := by simp [cutP]

theorem Try.info34 : (Try.prog.info? 34).map (fun i => (i.zero, i.size, i.bytes)) = some (some pk0, 14, 64) := by kernel_rfl

theorem make_packets (c : Nat) (hc : c ≤ 1000000) : ∃ M : Array Value, M.size = c * 14 ∧ ∀ w, (Instr.makeSlice 57 (.int .i64 0) (.int .i64 c)).run Try.prog w = .ok (.slice (some ⟨w.heap.size, 0, none⟩) 0 c) (w.alloc (.cells M 34)) := by
  obtain ⟨i, hi, hz0, hz1, hz2⟩ := info_parts Try.info34
  refine ⟨madeCells pk0.cells (c * i.size), by rw [size_madeCells, hz1], fun w => ?_⟩
  have hr := run_make (P := Try.prog) w 57 34 i _ Try.underlying57 hi hz0 .i64 .i64 0 c (Int.le_refl _) (by omega) (by rw [hz2]; omega) (by omega)
  simpa using hr

theorem new2 (w : World) (o o' : Obj) : ((w.alloc o).alloc o').heap[w.heap.size + 1]? = some o' := by
  have := heap_alloc_new (w.alloc o) o'
  rwa [show (w.alloc o).heap.size = w.heap.size + 1 by simp] at this
theorem parts_take (p : Pk) (C R k : Nat) (hk : k < C) : ((List.range C).map (partAt p R)).take (k + 1) = ((List.range C).map (partAt p R)).take k ++ [partAt p R k] := by
  rw [List.take_succ_eq_append_getElem (by simpa using hk)]
  simp
theorem drop_piece (l : List UInt8) (R k : Nat) : (l.drop (k * R)).take R = piece l R k := rfl
theorem mul_lt {k C R n : Nat} (hk : k < C) (h : C * R ≤ n) : k * R + R ≤ n := by
  have : (k + 1) * R ≤ C * R := Nat.mul_le_mul_right _ hk
  rw [Nat.add_mul] at this
  omega

set_option maxHeartbeats 4000000 in
theorem cut_any (p : Pk) (C R : Nat) (hR : 24 ≤ R) (hR2 : R ≤ 1479) (hC : C * R ≤ p.s.size) (hs : p.s.size ≤ 65515) (hoff : p.off = 0) (w : World) :
    Calls Try.prog 33 #[p.val, .int .i64 (C + 1 : Nat), .int .i64 R] w fun e w' => ∃ g cap, e = .returned (.slice (some ⟨g, 0, none⟩) (C + 1) cap) ∧ w'.ownsRow w.heap.size 34 14 (.slice (some ⟨g, 0, none⟩) (C + 1) cap) (C + 1) (flatP (cutP p C R)) ∧ Below w.heap.size w w' := by
  obtain ⟨M, hM, HM⟩ := make_packets (C + 1) (by have : C * 24 ≤ C * R := Nat.mul_le_mul_left _ hR; omega)
  obtain ⟨i0, hi, hz0, hz1, hz2⟩ := info_parts Try.info34
  have hC2 : C ≤ 65515 := by have : C * 24 ≤ C * R := Nat.mul_le_mul_left _ hR; omega
  obtain ⟨id, m, off, ttl, pr, a, b, s⟩ := p
  simp only at hoff hs hC
  subst hoff
  obtain ⟨l, rfl⟩ : ∃ l, s = bl l := ⟨s.data.toList, rfl⟩
  have Hlen : Hid ((bl l).size = l.length) := bl_size l
  rw [Hlen.out] at hC hs
  obtain ⟨LS, HLS⟩ : ∃ LS, Hid (LS = cutP ⟨id, m, 0, ttl, pr, a, b, bl l⟩ C R) := ⟨_, rfl⟩
  rw [← HLS.out]
  obtain ⟨PS, HPS⟩ : ∃ PS, Hid (PS = (List.range C).map (partAt ⟨id, m, 0, ttl, pr, a, b, bl l⟩ R)) := ⟨_, rfl⟩
  have Hend : Hid (LS = PS ++ [⟨id, m, (C * (R / 8) : Nat), ttl, pr, a, b, bl (l.drop (C * R))⟩]) := by show _ = _; rw [HLS.out, HPS.out]; simp [cutP, restAt, bl_list]
  have HPl : Hid (PS.length = C) := by show _ = _; rw [HPS.out]; simp
  have Hst : Hid (∀ k, k < C → PS.take (k + 1) = PS.take k ++ [⟨id, true, (k * (R / 8) : Nat), ttl, pr, a, b, bl ((l.drop (k * R)).take R)⟩]) := by
    show ∀ k, _
    intro k hk
    rw [HPS.out, parts_take _ _ _ _ hk]; simp [partAt, piece, bl_list]
  clear HLS HPS
  have HMO : Hid ((((w.alloc (pkC id m 0 ttl pr a b (bl l))).alloc (.cells M 34)).alloc (pkC id m 0 ttl pr a b (bl l))).ownsRow w.heap.size 34 14 (.slice (some ⟨w.heap.size + 1, 0, none⟩) 0 (C + 1)) 0 []) := by
    show World.ownsRow _ _ _ _ _ _ _
    have := (World.ownsRow_made (base := w.heap.size) (e := 34) (size := 14) (w.alloc (pkC id m 0 ttl pr a b (bl l))) M (C + 1) (by simp) (by unfold maxLen; omega) hM).alloc (pkC id m 0 ttl pr a b (bl l))
    simpa using this
  have kb : Hid (Below w.heap.size w (((w.alloc (pkC id m 0 ttl pr a b (bl l))).alloc (.cells M 34)).alloc (pkC id m 0 ttl pr a b (bl l)))) := by
    have k1 := (Below.refl w.heap.size w).alloc (Nat.le_refl _) (pkC id m 0 ttl pr a b (bl l))
    have k2 := k1.alloc k1.size (.cells M 34)
    exact k2.alloc k2.size _
  have L8 : Hid ((((w.alloc (pkC id m 0 ttl pr a b (bl l))).alloc (.cells M 34)).alloc (pkC id m 0 ttl pr a b (bl l))).heap[w.heap.size + 1 + 1]? = some (pkC id m 0 ttl pr a b (bl l))) := by
    have := heap_alloc_new ((w.alloc (pkC id m 0 ttl pr a b (bl l))).alloc (.cells M 34)) (pkC id m 0 ttl pr a b (bl l))
    rw [show ((w.alloc (pkC id m 0 ttl pr a b (bl l))).alloc (.cells M 34)).heap.size = w.heap.size + 1 + 1 by simp] at this
    exact this
  clear hM
  rw [show ((C + 1 : Nat) : Int) = (C : Int) + 1 by omega] at HM ⊢
  go_enter Try.func33, Try.ntmps33
  go_wp2
  refine wp_scope_jumps 0 (fun a' w' => ∃ (g cap : Nat) (u9 u10 u11 u12 u13 u14 u15 u16 u17 u18 u19 u20 u21 u22 u23 u24 u25 u26 u27 u28 u29 u30 u31 u32 u33 u34 u35 u36 u37 u38 u39 : Value) , a' = { tmps := #[pk id m 0 ttl pr a b (bl l), .int .i64 (C + 1), .int .i64 R, .pointer (some ⟨w.heap.size, 0, none⟩), undef, undef, .slice none 0 0, .slice (some ⟨g, 0, none⟩) C cap, .pointer (some ⟨w.heap.size + 1 + 1, 0, none⟩), u9, u10, u11, u12, u13, u14, u15, u16, u17, u18, u19, u20, u21, u22, u23, u24, u25, u26, u27, u28, u29, u30, u31, u32, u33, u34, u35, u36, u37, u38, u39, undef, undef, undef, undef], defers := [] } ∧ w'.ownsRow w.heap.size 34 14 (.slice (some ⟨g, 0, none⟩) C cap) C (flatP PS) ∧ w'.heap[w.heap.size + 1 + 1]? = some (pkC id m (C * (R / 8) : Nat) ttl pr a b (bl (l.drop (C * R)))) ∧ g ≠ w.heap.size + 1 + 1 ∧ Below w.heap.size w w') (fun _ _ => 0) rfl ?_ ?_
  · go_wp2
    go_loopw [7] (fun v7 wr => ∃ (k g cap : Nat), k ≤ C ∧ v7 = .slice (some ⟨g, 0, none⟩) k cap ∧ wr.ownsRow w.heap.size 34 14 (.slice (some ⟨g, 0, none⟩) k cap) k (flatP (PS.take k)) ∧ wr.heap[w.heap.size + 1 + 1]? = some (pkC id m (k * (R / 8) : Nat) ttl pr a b (bl (l.drop (k * R)))) ∧ g ≠ w.heap.size + 1 + 1 ∧ Below w.heap.size w wr) (fun v7 _ => C - Bi.sliceLen v7)
    case atStart =>
      refine ⟨0, w.heap.size + 1, C + 1, Nat.zero_le _, rfl, HMO.out, ?_, by omega, kb.out⟩
      have := L8.out
      simpa using this
    case round =>
      obtain ⟨k, g, cap, hk, rfl, hown, hL, hne, hb⟩ := hrel
      clear HMO kb L8 HM
      by_cases hkC : k = C
      · subst hkC
        rw [List.take_of_length_le (by rw [HPl.out]; omega)] at hown
        go_wp2
        go_step3
        refine (show (0 : Nat) = 0 ∧ _ from ⟨rfl, ?_⟩)
        exact ⟨g, cap, _, _, _, _, _, _, _, _, _, _, _, _, _, _, _, _, _, _, _, _, _, _, _, _, _, _, _, _, _, _, _, rfl, hown, hL, hne, hb⟩
      · have hk2 : k < C := by omega
        have hk3 : ¬ (k : Int) = C := by omega
        obtain ⟨O, hO⟩ : ∃ O, Hid (O = k * (R / 8)) := ⟨_, rfl⟩
        obtain ⟨D, hD⟩ : ∃ D, Hid (D = bl (l.drop (k * R))) := ⟨_, rfl⟩
        rw [← hO.out, ← hD.out] at hL
        obtain ⟨X, hX⟩ : ∃ X, D.extract 0 R = X := ⟨_, rfl⟩
        obtain ⟨Y, hY⟩ : ∃ Y, D.extract R D.size = Y := ⟨_, rfl⟩
        have m1 := mul_lt hk2 hC
        have d0 : D.size = l.length - k * R := by rw [hD.out, bl_size]; simp
        have d1 : R ≤ D.size := by omega
        have d2 : D.size ≤ 65515 := by omega
        have o1 : O ≤ 65515 := by
          have : k * (R / 8) ≤ k * R := Nat.mul_le_mul_left _ (by omega)
          rw [hO.out]; omega
        have HX : Hid (X = bl ((l.drop (k * R)).take R)) := by show _ = _; rw [← hX, hD.out, bl_extract]; simp
        have HY : Hid (Y = bl (l.drop ((k + 1) * R))) := by
          show _ = _
          rw [← hY, hD.out, bl_extract, bl_size, List.drop_drop, Nat.add_mul, Nat.one_mul, List.take_of_length_le (by simp only [List.length_drop]; omega)]
        clear d0 m1
        obtain ⟨c0, c1, c2, c3, c4, c5, c6, c7, c8, c9, c10, c11, c12, c13⟩ := cells14 hL
        have f2 := lies_frozen hL 2
        have f13 := lies_frozen hL 13
        have hlt := lies_lt hL
        have hne2 : ¬ wr.heap.size = w.heap.size + 1 + 1 := by omega
        have HL := Lib.hid hL; clear hL
        have hbs := hb.size
        have Hone := Lib.hid (Pk.enc_one ⟨id, true, O, ttl, pr, a, b, X⟩)
        clear c0 c1 c3 c4 c5 c6 c7 c8 c9 c10 c11 c12
        obtain ⟨c0, c1, c2, c3, c4, c5, c6, c7, c8, c9, c10, c11, c12, c13⟩ := cells14 HL.out
        go_wp2_with (at_builtin; refine wpList_append_lies _ rfl _ _ 57 (by rfl) w.heap.size 34 i0 pk0 14 64 Try.underlying57 hi hz0 hz1 hz2 rfl (by decide) _ _ _ (by rfl) ((hown.alloc _).alloc _) ⟨wr.heap.size + 1, 0, none⟩ 1 1 (Pk.enc ⟨id, true, O, ttl, pr, a, b, X⟩) (by rfl) rfl (World.news_of_block (new2 wr _ _)) Hone.out (by omega) (by unfold maxLen; omega) (by omega) (by simp; omega) (wr.heap.size + 1 + 1) (by simp) ?_; intro gg cap2 w2 hown2 hgrow2 hat2 hlt2
                     (have L2 : w2.heap[w.heap.size + 1 + 1]? = some (pkC id m O ttl pr a b D) := (hgrow2.block _ (by simp; omega) (by intro e; injection e with e; exact hne e.symm)).trans (lies_alloc (lies_alloc HL.out _) _))
                     (clear c0 c1 c2 c3 c4 c5 c6 c7 c8 c9 c10 c11 c12 c13 f2 f13)
                     (have c2 : w2.cell? ⟨w.heap.size + 1 + 1, 2, none⟩ = some (.int .i64 O) := lies_cell L2 2)
                     (have c13 : w2.cell? ⟨w.heap.size + 1 + 1, 13, none⟩ = some (.string D) := lies_cell L2 13)
                     (have f2 := lies_frozen L2 2)
                     (have f13 := lies_frozen L2 13)
                     (have L2 := Lib.hid L2))
        have hb2 : Below w.heap.size w w2 := ((hb.alloc hbs _).alloc (by simp; omega) _).grown hgrow2 (by simp; omega) (fun j hj => (hown.lt j hj).1)
        have hgne : gg ≠ w.heap.size + 1 + 1 := by
          rcases hat2 with e | e
          · have e : g = gg := by simpa [Value.ownBlock] using e
            rw [← e]; exact hne
          · omega
        go_roundw
        case rel =>
          refine ⟨k + 1, gg, cap2, by omega, rfl, ?_, ?_, hgne, (hb2.setCell (p := ⟨w.heap.size + 1 + 1, 2, none⟩) (by show w.heap.size ≤ w.heap.size + 1 + 1; omega) _).setCell (p := ⟨w.heap.size + 1 + 1, 13, none⟩) (by show w.heap.size ≤ w.heap.size + 1 + 1; omega) _⟩
          · rw [Hst.out k hk2, flatP_snoc, ← hO.out, ← HX.out]
            exact (hown2.kept (Bi.grown_trans (Bi.grown_set _ 2 _) (Bi.grown_set _ 13 _)) (.inr (by intro e; injection e with e; exact hgne e)))
          · have e1 : (((k + 1) * (R / 8) : Nat) : Int) = (O : Int) + (R : Int) / 8 := by
              have := hO.out
              rw [Nat.add_mul, Nat.one_mul]
              omega
            rw [e1, ← HY.out]
            exact lies_set (lies_set L2.out 2 _) 13 _
        case measure => simp only [Bi.sliceLen]; omega
  · rintro a' w' ⟨g, cap, u9, u10, u11, u12, u13, u14, u15, u16, u17, u18, u19, u20, u21, u22, u23, u24, u25, u26, u27, u28, u29, u30, u31, u32, u33, u34, u35, u36, u37, u38, u39, rfl, hown, L, hne, hb⟩
    have hbs := hb.size
    have Hone := Lib.hid (Pk.enc_one ⟨id, m, (C * (R / 8) : Nat), ttl, pr, a, b, bl (l.drop (C * R))⟩)
    obtain ⟨O, hO⟩ : ∃ O, Hid (O = C * (R / 8)) := ⟨_, rfl⟩
    obtain ⟨D, hD⟩ : ∃ D, Hid (D = bl (l.drop (C * R))) := ⟨_, rfl⟩
    rw [← hO.out, ← hD.out] at L Hone Hend
    obtain ⟨c0, c1, c2, c3, c4, c5, c6, c7, c8, c9, c10, c11, c12, c13⟩ := cells14 L
    have L := Lib.hid L
    go_wp2_with (at_builtin; refine wpList_append_lies _ rfl _ _ 57 (by rfl) w.heap.size 34 i0 pk0 14 64 Try.underlying57 hi hz0 hz1 hz2 rfl (by decide) _ _ _ (by rfl) (hown.alloc _) ⟨w'.heap.size, 0, none⟩ 1 1 (Pk.enc ⟨id, m, O, ttl, pr, a, b, D⟩) (by rfl) rfl (World.news_of_block (heap_alloc_new w' _)) Hone.out (by omega) (by unfold maxLen; omega) (by omega) (by simp; omega) _ rfl ?_; intro gg cap2 w2 hown2 hgrow2 hat2 hlt2)
    simp only [Exit.jump]
    go_returns
    refine ⟨gg, cap2, rfl, ?_, (hb.alloc hbs _).grown hgrow2 (by simp; omega) (fun j hj => (hown.lt j hj).1)⟩
    rw [Hend.out, flatP_snoc]
    exact hown2
end Go.Proofs.Ytgdjcoodjdckkaa
