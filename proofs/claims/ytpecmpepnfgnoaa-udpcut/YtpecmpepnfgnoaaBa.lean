/- Ends of a datagram, as they are handed on and in memory; small facts on memory, on what a Writer holds, on bytes as lists. -/
import Derived.Test.YtpecmpepnfgnoaaBiWy
import Derived.Test.YtpecmpepnfgnoaaBiRd
import Derived.Test.YtpecmpepnfgnoaaBiRef
import Derived.Test.YtpecmpepnfgnoaaBiOnes
import Derived.Test.YtpecmpepnfgnoaaUdMath
import Derived.Deep.RegionHeld3
import Derived.Deep.Cut
import Derived.Handy
import Derived.IntWalk
import Derived.Laws.IdiomStrings
namespace Go.Proofs.Ytpecmpepnfgnoaa
open Go.RowKit Go.Proofs.PitotIp
open Go.Proofs.PitotAddr (hi lo)
open Go.Proofs.Ytpecmpepnfgnoaa.Bi (WrAt putStep u16_any text_any lies_lt lies_cell lies_frozen lies_alloc RdAt rtext_ok gather_list num_4)

/-- Ends, as they are handed on; in memory; the document's; in memory. -/
abbrev en (a b : Q4) (f t : Int) : Value :=
  .agg #[.int .u8 a.a.toNat, .int .u8 a.b.toNat, .int .u8 a.c.toNat, .int .u8 a.d.toNat, .int .u8 b.a.toNat, .int .u8 b.b.toNat, .int .u8 b.c.toNat, .int .u8 b.d.toNat, .int .i64 f, .int .i64 t]
abbrev enC (a b : Q4) (f t : Int) : Obj :=
  .cells #[.int .u8 a.a.toNat, .int .u8 a.b.toNat, .int .u8 a.c.toNat, .int .u8 a.d.toNat, .int .u8 b.a.toNat, .int .u8 b.b.toNat, .int .u8 b.c.toNat, .int .u8 b.d.toNat, .int .i64 f, .int .i64 t] 25
abbrev en0 : Value := .agg #[.int .u8 0, .int .u8 0, .int .u8 0, .int .u8 0, .int .u8 0, .int .u8 0, .int .u8 0, .int .u8 0, .int .i64 0, .int .i64 0]
abbrev enz : Obj := .cells #[.int .u8 0, .int .u8 0, .int .u8 0, .int .u8 0, .int .u8 0, .int .u8 0, .int .u8 0, .int .u8 0, .int .i64 0, .int .i64 0] 25
abbrev re (a b : ByteArray) (f t : Int) : Value := .agg #[.string a, .string b, .int .i64 f, .int .i64 t]
abbrev reC (a b : ByteArray) (f t : Int) : Obj := .cells #[.string a, .string b, .int .i64 f, .int .i64 t] 32
abbrev re0 : Value := .agg #[.string ⟨#[]⟩, .string ⟨#[]⟩, .int .i64 0, .int .i64 0]
abbrev rez : Obj := .cells #[.string ⟨#[]⟩, .string ⟨#[]⟩, .int .i64 0, .int .i64 0] 32
/-- An address of IP, as it is handed on; in memory. -/
abbrev ip4 (q : Q4) : Value := .agg #[.int .u8 q.a.toNat, .int .u8 q.b.toNat, .int .u8 q.c.toNat, .int .u8 q.d.toNat]
abbrev ip4C (q : Q4) : Obj := .cells #[.int .u8 q.a.toNat, .int .u8 q.b.toNat, .int .u8 q.c.toNat, .int .u8 q.d.toNat] 23

theorem cells25 : Try.prog.cellsOf 25 = 10 := by kernel_rfl
theorem cells32 : Try.prog.cellsOf 32 = 4 := by kernel_rfl

section
variable {w w' : World} {g : Nat} {t : TypeId}
theorem lies_grown {cs : Array Value} {b : Nat} (h : w.heap[g]? = some (.cells cs t)) (hg : w.grownBy w' (some b)) (hne : g ≠ b) : w'.heap[g]? = some (.cells cs t) :=
  (hg.block g (lies_lt h) (by simpa using hne)).trans h
theorem lies_below {cs : Array Value} {n : Nat} (h : w.heap[g]? = some (.cells cs t)) (hb : Below n w w') (hl : g < n) : w'.heap[g]? = some (.cells cs t) := (hb.block g hl).trans h
theorem cells10 {x0 x1 x2 x3 x4 x5 x6 x7 x8 x9 : Value} (h : w.heap[g]? = some (.cells #[x0, x1, x2, x3, x4, x5, x6, x7, x8, x9] t)) :
    (w.cell? ⟨g, 0, none⟩ = some x0) ∧ (w.cell? ⟨g, 1, none⟩ = some x1) ∧ (w.cell? ⟨g, 2, none⟩ = some x2) ∧ (w.cell? ⟨g, 3, none⟩ = some x3) ∧ (w.cell? ⟨g, 4, none⟩ = some x4) ∧ (w.cell? ⟨g, 5, none⟩ = some x5) ∧ (w.cell? ⟨g, 6, none⟩ = some x6) ∧ (w.cell? ⟨g, 7, none⟩ = some x7) ∧ (w.cell? ⟨g, 8, none⟩ = some x8) ∧ (w.cell? ⟨g, 9, none⟩ = some x9) :=
  ⟨lies_cell h 0, lies_cell h 1, lies_cell h 2, lies_cell h 3, lies_cell h 4, lies_cell h 5, lies_cell h 6, lies_cell h 7, lies_cell h 8, lies_cell h 9⟩
theorem cells4 {x0 x1 x2 x3 : Value} (h : w.heap[g]? = some (.cells #[x0, x1, x2, x3] t)) :
    (w.cell? ⟨g, 0, none⟩ = some x0) ∧ (w.cell? ⟨g, 1, none⟩ = some x1) ∧ (w.cell? ⟨g, 2, none⟩ = some x2) ∧ (w.cell? ⟨g, 3, none⟩ = some x3) :=
  ⟨lies_cell h 0, lies_cell h 1, lies_cell h 2, lies_cell h 3⟩
end

theorem ba_ext {s : ByteArray} {l : List UInt8} (h : s.data.toList = l) : s = ⟨l.toArray⟩ := by
  apply ByteArray.ext
  rw [← Array.toList_inj, h]
theorem extract_list (s : ByteArray) (i j : Nat) : (s.extract i j).data.toList = (s.data.toList.take j).drop i := by
  simp [ByteArray.data_extract, List.drop_take]
theorem size_toList (s : ByteArray) : s.size = s.data.toList.length := by simp

/-- Text, U16 at a Writer of which it is known what was written. -/
theorem text_step (K K' : List UInt8) (s : ByteArray) (hK : K' = K ++ s.data.toList) (h1 : K.length ≤ 900000) (h2 : s.size ≤ 1000000) (b n : Nat) (w : World) (h : WrAt w b n (some K)) :
    Calls Try.prog 28 #[.pointer (some ⟨b, 0, none⟩), .string s] w fun e w' => e = .returned (.tuple #[]) ∧ WrAt w' b (n + 1) (some K') ∧ w.grownBy w' (some b) := by
  refine (text_any b n (some K) s w h (fun l e => by cases e; omega) h2).mono fun e w' ⟨he, hw, hg⟩ => ⟨he, ?_, hg⟩
  rw [hK]; exact hw
theorem be2 (n : Nat) : PitotMath.be 2 n = [hi n, lo n] := by rw [Bi.be_cons 1 n, Bi.be_cons 0 n]; simp [PitotMath.be, lo, hi]
theorem fits16 (v : Nat) (hv : v < 65536) : Bi.fitsB (v : Int) (8 * ((2 : Nat) : Int)) = true := by
  unfold Bi.fitsB
  rw [decide_eq_true_eq]
  have e2 : (8 * ((2 : Nat) : Int)).toNat = 16 := rfl
  rw [e2]
  omega

theorem u16_step (K K' : List UInt8) (v : Nat) (hv : v < 65536) (hK : K' = K ++ [hi v, lo v]) (h1 : K.length ≤ 900000) (b n : Nat) (w : World) (h : WrAt w b n (some K)) :
    Calls Try.prog 29 #[.pointer (some ⟨b, 0, none⟩), .int .i64 v] w fun e w' => e = .returned (.tuple #[]) ∧ WrAt w' b (n + 1) (some K') ∧ w.grownBy w' (some b) := by
  have e1 : putStep (some K) 2 (v : Int) = some K' := by
    unfold putStep
    rw [if_pos (fits16 v hv), hK, ← be2]
    simp
  have h1 := u16_any b n (some K) v w h (fun l e => by cases e; omega)
  rw [e1] at h1
  exact h1

/-- Four bytes of memory as a string. -/
theorem conv_four (X : World) (g o : Nat) (q : Q4) (h0 : X.cell? ⟨g, o, none⟩ = some (.int .u8 q.a.toNat)) (h1 : X.cell? ⟨g, o + 1, none⟩ = some (.int .u8 q.b.toNat)) (h2 : X.cell? ⟨g, o + 2, none⟩ = some (.int .u8 q.c.toNat)) (h3 : X.cell? ⟨g, o + 3, none⟩ = some (.int .u8 q.d.toNat)) :
    (convert 42 9 (.slice (some ⟨g, o, none⟩) 4 4)).run Try.prog X = .ok (.string ⟨#[q.a, q.b, q.c, q.d]⟩) X := by
  refine run_convert_bytes_back (P := Try.prog) X 42 9 5 ⟨g, o, none⟩ 4 [q.a, q.b, q.c, q.d] Try.underlying42 Try.underlying5 Try.underlying9 (fun j hj => ?_)
  have e : (⟨g, o, none⟩ : Addr).add j = ⟨g, o + j, none⟩ := by unfold Addr.add; split <;> simp_all
  rw [e]
  have hj' : j < 4 := hj
  have : j = 0 ∨ j = 1 ∨ j = 2 ∨ j = 3 := by omega
  rcases this with rfl | rfl | rfl | rfl
  · exact h0
  · exact h1
  · exact h2
  · exact h3

theorem wr_new {X : World} {b : Nat} (h : X.heap[b]? = some (.cells #[.pointer none, .string ⟨#[]⟩, .bool false] 53)) : WrAt X b 0 (some []) :=
  ⟨none, ⟨#[]⟩, [], h, rfl, by simp, rfl⟩

theorem RdAt.alloc {w : World} {r : Nat} {l : List UInt8} {e : Int} (h : RdAt w r l e) (o : Obj) : RdAt (w.alloc o) r l e := lies_alloc h o
theorem RdAt.below {w w' : World} {r n : Nat} {l : List UInt8} {e : Int} (h : RdAt w r l e) (hb : Below n w w') (hn : r < n) : RdAt w' r l e := lies_below h hb hn
theorem RdAt.lt {w : World} {r : Nat} {l : List UInt8} {e : Int} (h : RdAt w r l e) : r < w.heap.size := lies_lt (w := w) h

/-- Addresses, and ends, are compared. -/
theorem eq4 (n : Nat) (a b c d a' b' c' d' : Int) (w : World) :
    (Go.Op.equalIn (n + 2) 23 (.agg #[.int .u8 a, .int .u8 b, .int .u8 c, .int .u8 d]) (.agg #[.int .u8 a', .int .u8 b', .int .u8 c', .int .u8 d'])).run Try.prog w =
      .ok (a == a' && b == b' && c == c' && d == d') w := by
  obtain ⟨i, hi, hz0, hz1, hz2⟩ := info_parts (show (Try.prog.info? 5).map (fun i => (i.zero, i.size, i.bytes)) = some (some (.int .u8 0), 1, 1) by kernel_rfl)
  have hc : Try.prog.cellsOf 5 = 1 := by kernel_rfl
  rw [run_equalIn_array w (n + 1) _ _ Try.underlying23 hi, hc]
  have hE : ∀ (x y : Int) (w : World), (Go.Op.equalIn (n + 1) 5 (.int .u8 x) (.int .u8 y)).run Try.prog w = .ok (x == y) w := fun x y w => run_equalIn_int w n 5 .u8 .u8 x y Try.underlying5
  simp [Go.Op.eqItems, List.range, List.range.loop, part, hE]
  by_cases h1 : a = a' <;> simp [h1]
  by_cases h2 : b = b' <;> simp [h2]
  by_cases h3 : c = c' <;> simp [h3]
  by_cases h4 : d = d' <;> simp [h4]

theorem same9 (q : Q4) (w : World) : (Go.Op.equalIn 9999 23 (.agg #[.int .u8 q.a.toNat, .int .u8 q.b.toNat, .int .u8 q.c.toNat, .int .u8 q.d.toNat]) (.agg #[.int .u8 q.a.toNat, .int .u8 q.b.toNat, .int .u8 q.c.toNat, .int .u8 q.d.toNat])).run Try.prog w = .ok true w := by
  rw [eq4 9997]; simp
theorem zero9 (w : World) : (Go.Op.equalIn 9999 23 (.agg #[.int .u8 0, .int .u8 0, .int .u8 0, .int .u8 0]) (.agg #[.int .u8 0, .int .u8 0, .int .u8 0, .int .u8 0])).run Try.prog w = .ok true w := by
  rw [eq4 9997]; rfl

set_option maxHeartbeats 400000 in
theorem ru16_ok (r : Nat) (x y : UInt8) (b : List UInt8) (w : World) (h : RdAt w r (x :: y :: b) 0) (hl : b.length ≤ 1000000) :
    Calls Try.prog 23 #[.pointer (some ⟨r, 0, none⟩)] w fun e w' => e = .returned (.int .i64 (PitotAddr.num x y : Nat)) ∧ RdAt w' r b 0 ∧ w.grownBy w' (some r) := by
  have hq : PitotMath.num [x, y] = PitotAddr.num x y := by simp [PitotMath.num, PitotAddr.num]
  have h4 := num_4 [x, y] (by simp)
  rw [hq] at h4
  have HQ := Lib.hid hq
  obtain ⟨q, Hq⟩ : ∃ q, Hid (q = PitotAddr.num x y) := ⟨_, rfl⟩
  rw [← Hq.out] at h4 ⊢
  clear hq
  go_enter Try.func23, Try.ntmps23
  go_wp2_with (first
    | (go_at_call 35; refine (rtext_ok r [x, y] b 2 _ h rfl (by simp; omega)).mono ?_; rintro e w1 ⟨rfl, h1, hg1⟩)
    | (go_at_call 34; refine (gather_list [x, y] w1 (by simp)).mono ?_; rintro e w' ⟨rfl, rfl⟩; rw [HQ.out, ← Hq.out]))
  go_returns
  exact ⟨Bi.ret_int (by first | rfl | (rw [IntWalk.wrap64_in _ (by omega)])), h1, hg1⟩
end Go.Proofs.Ytpecmpepnfgnoaa
