/- Merged: BiWt, BiWb, Co, Cj, Ls, Pa. -/
import Derived.Test.YtdphapjeohkbjaaM1
import Derived.BigRegion
import Derived.Handy
import Derived.Test.YtdphapjeohkbjaaProg
import Derived.Below
import Derived.Lib.Hide
import Derived.ProofKit
import Derived.OpenShut
import Derived.WideShapes
import Derived.Deep.Slices
import Derived.Deep.Fields
import Derived.WalkKit
set_option linter.unusedVariables false
/- The program's Writer in memory; contracts of Text, fail, Bits. -/
namespace Go.Proofs.Ytdphapjeohkbjaa.Bi
open Go.RowKit Go.Proofs.PitotMath

section
variable {w w' : World} {g : Nat} {t : TypeId} {cs : Array Value}

theorem lies_lt (h : w.heap[g]? = some (.cells cs t)) : g < w.heap.size := by
  rcases Nat.lt_or_ge g w.heap.size with h1 | h1
  · exact h1
  · rw [Array.getElem?_eq_none h1] at h; cases h
theorem lies_cell (h : w.heap[g]? = some (.cells cs t)) (i : Nat) : w.cell? ⟨g, i, none⟩ = cs[i]? := by simp [World.cell?, h]
theorem lies_frozen (h : w.heap[g]? = some (.cells cs t)) (i : Nat) : w.frozen? ⟨g, i, none⟩ = false := by simp [World.frozen?, h]
theorem lies_set (h : w.heap[g]? = some (.cells cs t)) (i : Nat) (u : Value) : (w.setCell ⟨g, i, none⟩ u).heap[g]? = some (.cells (cs.setIfInBounds i u) t) := by
  simp [World.setCell, Array.getElem?_modify, h]
theorem lies_alloc (h : w.heap[g]? = some (.cells cs t)) (o : Obj) : (w.alloc o).heap[g]? = some (.cells cs t) := (Below.heap_alloc w o g (lies_lt h)).trans h
end

theorem new_at {w : World} {o : Obj} {k : Nat} (hk : w.heap.size = k) : (w.alloc o).drew.heap[k]? = some o := by
  subst hk; exact heap_alloc_new w o

/-- Pieces that are chained, the newest one first. -/
def Chain (w : World) (b : Nat) : Option Addr → List ByteArray → Prop
  | p, [] => p = none
  | p, t :: ts => ∃ c q, p = some ⟨c, 0, none⟩ ∧ c ≠ b ∧ w.heap[c]? = some (.cells #[.string t, .pointer q] 75) ∧ Chain w b q ts

theorem Chain.grown {w w' : World} {b : Nat} (hg : w.grownBy w' (some b)) : ∀ {ts : List ByteArray} {p : Option Addr}, Chain w b p ts → Chain w' b p ts
  | [], _, h => h
  | _ :: _, _, ⟨c, q, h1, h2, h3, h4⟩ => ⟨c, q, h1, h2, (hg.block c (lies_lt h3) (by simpa using h2)).trans h3, Chain.grown hg h4⟩

/-- What pieces are together, the eldest one first. -/
def flat : List ByteArray → List UInt8
  | [] => []
  | t :: ts => flat ts ++ t.data.toList

/-- The Writer in block b: none: something was wrong; some l: l was written, in no more than n pieces and what is last. -/
def WrAt (w : World) (b n : Nat) : Option (List UInt8) → Prop
  | none => w.heap[b]? = some (.cells #[.pointer none, .string ⟨#[]⟩, .bool true] 46)
  | some l => ∃ p last ts, w.heap[b]? = some (.cells #[.pointer p, .string last, .bool false] 46) ∧ Chain w b p ts ∧ ts.length ≤ n ∧ l = flat ts ++ last.data.toList

theorem grown_set {w : World} (b i : Nat) (u : Value) : w.grownBy (w.setCell ⟨b, i, none⟩ u) (some b) :=
  ⟨rfl, rfl, rfl, by simp [World.setCell], fun k _ hk => Below.heap_setCell w _ u k (by intro e; exact hk (by rw [e]))⟩

theorem grown_trans {a b c : World} {r : Option Nat} (h : a.grownBy b r) (k : b.grownBy c r) : a.grownBy c r :=
  ⟨k.os.trans h.os, k.tape.trans h.tape, k.output.trans h.output, Nat.le_trans h.size k.size, fun i hi hr => (k.block i (Nat.lt_of_lt_of_le hi h.size) hr).trans (h.block i hi hr)⟩

theorem grown_alloc {w : World} {r : Option Nat} (o : Obj) : w.grownBy (w.alloc o) r := World.grownBy_alloc w o r

theorem grown_drew {a w : World} {r : Option Nat} (h : a.grownBy w r) : a.grownBy w.drew r := ⟨h.os, h.tape, h.output, h.size, h.block⟩

set_option maxHeartbeats 400000 in
theorem text_wrong (b : Nat) (s : ByteArray) (w : World) (h : w.heap[b]? = some (.cells #[.pointer none, .string ⟨#[]⟩, .bool true] 46)) :
    Calls Try.prog 28 #[.pointer (some ⟨b, 0, none⟩), .string s] w fun e w' => e = .returned (.tuple #[]) ∧ w = w' := by
  have c2 : w.cell? ⟨b, 2, none⟩ = some (.bool true) := lies_cell h 2
  have H := Lib.hid h; clear h
  go_enter Try.func28, Try.ntmps28
  go_wp2
  go_returns
  exact ⟨rfl, rfl⟩

set_option maxHeartbeats 400000 in
theorem text_nil (s : ByteArray) (w : World) :
    Calls Try.prog 28 #[.pointer none, .string s] w fun e w' => e = .returned (.tuple #[]) ∧ w = w' := by
  go_enter Try.func28, Try.ntmps28
  go_wp2
  go_returns
  exact ⟨rfl, rfl⟩

set_option maxHeartbeats 400000 in
theorem text_small (b : Nat) (s last : ByteArray) (p : Option Addr) (w : World) (h : w.heap[b]? = some (.cells #[.pointer p, .string last, .bool false] 46)) (hs : last.size + s.size ≤ 64) :
    Calls Try.prog 28 #[.pointer (some ⟨b, 0, none⟩), .string s] w fun e w' => e = .returned (.tuple #[]) ∧ w' = w.setCell ⟨b, 1, none⟩ (.string (last ++ s)) := by
  have c0 : w.cell? ⟨b, 0, none⟩ = some (.pointer p) := lies_cell h 0
  have c1 : w.cell? ⟨b, 1, none⟩ = some (.string last) := lies_cell h 1
  have c2 : w.cell? ⟨b, 2, none⟩ = some (.bool false) := lies_cell h 2
  have f1 : w.frozen? ⟨b, 1, none⟩ = false := lies_frozen h 1
  have H := Lib.hid h; clear h
  go_enter Try.func28, Try.ntmps28
  go_wp2
  go_returns
  exact ⟨rfl, rfl⟩

set_option maxHeartbeats 400000 in
theorem text_big (b : Nat) (s last : ByteArray) (p : Option Addr) (w : World) (h : w.heap[b]? = some (.cells #[.pointer p, .string last, .bool false] 46)) (hs : 64 < last.size + s.size) (h1 : last.size ≤ 1000000) (h2 : s.size ≤ 1000000) :
    Calls Try.prog 28 #[.pointer (some ⟨b, 0, none⟩), .string s] w fun e w' => e = .returned (.tuple #[]) ∧
      w'.heap[b]? = some (.cells #[.pointer (some ⟨w.heap.size, 0, none⟩), .string s, .bool false] 46) ∧ w'.heap[w.heap.size]? = some (.cells #[.string last, .pointer p] 75) ∧ w.grownBy w' (some b) := by
  have c0 : w.cell? ⟨b, 0, none⟩ = some (.pointer p) := lies_cell h 0
  have c1 : w.cell? ⟨b, 1, none⟩ = some (.string last) := lies_cell h 1
  have c2 : w.cell? ⟨b, 2, none⟩ = some (.bool false) := lies_cell h 2
  have f1 : w.frozen? ⟨b, 1, none⟩ = false := lies_frozen h 1
  have f0 : w.frozen? ⟨b, 0, none⟩ = false := lies_frozen h 0
  have hlt := lies_lt h
  have H := Lib.hid h; clear h
  go_enter Try.func28, Try.ntmps28
  go_wp2
  go_region
  go_wp2
  go_returns
  have hz : (({ data := #[] } : ByteArray) ++ s) = s := by
    apply ByteArray.ext
    simp
  have H1 := lies_set (lies_set (lies_set H.out 0 (.pointer (some ⟨w.heap.size, 0, none⟩))) 1 (.string ⟨#[]⟩)) 1 (.string (({ data := #[] } : ByteArray) ++ s))
  have H2 := lies_alloc H1 (.cells #[.string last, .pointer p] 75)
  rw [hz] at H2
  refine ⟨rfl, ?_, ?_, ?_⟩
  · rw [hz]; exact H2
  · exact new_at (by simp)
  · exact grown_drew (grown_trans (grown_trans (grown_trans (grown_set b 0 _) (grown_set b 1 _)) (grown_set b 1 _)) (grown_alloc _))

theorem flat_bd {ts : List ByteArray} {last : ByteArray} {l : List UInt8} (h : l = flat ts ++ last.data.toList) : last.size ≤ l.length := by
  rw [h, List.length_append]; show last.data.size ≤ _; simp

/-- Text puts bytes behind, unless something was wrong. -/
theorem text_any (b n : Nat) (st : Option (List UInt8)) (s : ByteArray) (w : World) (h : WrAt w b n st) (h1 : ∀ l, st = some l → l.length ≤ 1000000) (h2 : s.size ≤ 1000000) :
    Calls Try.prog 28 #[.pointer (some ⟨b, 0, none⟩), .string s] w fun e w' => e = .returned (.tuple #[]) ∧ WrAt w' b (n + 1) (st.map (· ++ s.data.toList)) ∧ w.grownBy w' (some b) := by
  match st, h with
  | none, h => exact (text_wrong b s w h).mono fun e w' ⟨he, hw⟩ => by subst hw; exact ⟨he, h, World.grownBy.refl w _⟩
  | some l, ⟨p, last, ts, hb, hc, hn, hl⟩ =>
    have hll := h1 l rfl
    have hbd := flat_bd hl
    by_cases hs : last.size + s.size ≤ 64
    · refine (text_small b s last p w hb hs).mono fun e w' ⟨he, hw⟩ => ?_
      subst hw
      have hg : w.grownBy (w.setCell ⟨b, 1, none⟩ (.string (last ++ s))) (some b) := grown_set b 1 _
      refine ⟨he, ⟨p, last ++ s, ts, lies_set hb 1 _, Chain.grown hg hc, by omega, ?_⟩, hg⟩
      rw [hl]; simp
    · refine (text_big b s last p w hb (by omega) (by omega) h2).mono fun e w' ⟨he, hb', hp', hg⟩ => ?_
      refine ⟨he, ⟨_, s, last :: ts, hb', ⟨w.heap.size, p, rfl, by have := lies_lt hb; omega, hp', Chain.grown hg hc⟩, by simp; omega, ?_⟩, hg⟩
      rw [hl]; rfl

set_option maxHeartbeats 400000 in
theorem fail_any (b n : Nat) (l : List UInt8) (w : World) (h : WrAt w b n (some l)) :
    Calls Try.prog 81 #[.pointer (some ⟨b, 0, none⟩)] w fun e w' => e = .returned (.tuple #[]) ∧ WrAt w' b n none ∧ w.grownBy w' (some b) := by
  obtain ⟨p, last, ts, hb, hc, hn, hl⟩ := h
  have c0 : w.cell? ⟨b, 0, none⟩ = some (.pointer p) := lies_cell hb 0
  have c1 : w.cell? ⟨b, 1, none⟩ = some (.string last) := lies_cell hb 1
  have c2 : w.cell? ⟨b, 2, none⟩ = some (.bool false) := lies_cell hb 2
  have f0 : w.frozen? ⟨b, 0, none⟩ = false := lies_frozen hb 0
  have f1 : w.frozen? ⟨b, 1, none⟩ = false := lies_frozen hb 1
  have f2 : w.frozen? ⟨b, 2, none⟩ = false := lies_frozen hb 2
  have H := Lib.hid hb; clear hb hl hc hn
  go_enter Try.func81, Try.ntmps81
  go_wp2
  go_returns
  refine ⟨rfl, ?_, grown_trans (grown_trans (grown_set b 0 _) (grown_set b 1 _)) (grown_set b 2 _)⟩
  exact lies_set (lies_set (lies_set H.out 0 (.pointer none)) 1 (.string ⟨#[]⟩)) 2 (.bool true)
end Go.Proofs.Ytdphapjeohkbjaa.Bi
/- Contracts of the program's Writer: Bits, U8, U16, U32. -/
namespace Go.Proofs.Ytdphapjeohkbjaa.Bi
open Go.RowKit Go.Proofs.PitotMath

/-- Numbers, each so many bits wide, one behind the other; none: one of them does not fit. -/
def packGo : List Int → List Int → Nat → Option Nat
  | [], _, a => some a
  | _ :: _, [], a => some a
  | x :: xs, n :: ns, a => if fitsB n x = true then packGo xs ns (a * 2 ^ x.toNat + n.toNat) else none

/-- The bytes that numbers of these widths are; none: they may not be. -/
def bitsOf (xs ns : List Int) : Option (List UInt8) :=
  if (togRes xs).2 = true ∧ xs.length = ns.length then (packGo xs ns 0).map (be (togRes xs).1.toNat) else none

def bitsStep (st : Option (List UInt8)) (xs ns : List Int) : Option (List UInt8) := st.bind fun l => (bitsOf xs ns).map (l ++ ·)

theorem together_eq (A : Option Addr) (cap : Nat) (xs : List Int) (w : World) (hx : IntsAt w A xs) (hl : xs.length ≤ 1000000) (n : Nat) (hn : n = xs.length) (r : Int) (ok : Bool) (hr : togRes xs = (r, ok)) :
    Calls Try.prog 80 #[.slice A n cap] w fun e w' => e = .returned (.tuple #[.int .i64 r, .bool ok]) ∧ w = w' := by
  subst hn
  have h := together_any A cap xs w hx hl
  rw [hr] at h
  exact h

theorem tog_ok {xs : List Int} (h : (togRes xs).2 = true) : ∃ (tot : Int) (m : Nat), togGo xs 0 = some tot ∧ tot = 8 * m ∧ (m = 1 ∨ m = 2 ∨ m = 4) ∧ togRes xs = ((m : Int), true) := by
  cases ht : togGo xs 0 with
  | none => rw [togRes_none ht] at h; simp at h
  | some tot =>
    rw [togRes_some ht] at h
    have h' : okSum tot = true := h
    simp only [okSum, Bool.or_eq_true, beq_iff_eq] at h'
    rcases h' with (rfl | rfl) | rfl
    · exact ⟨8, 1, rfl, rfl, by simp, by rw [togRes_some ht]; rfl⟩
    · exact ⟨16, 2, rfl, rfl, by simp, by rw [togRes_some ht]; rfl⟩
    · exact ⟨32, 4, rfl, rfl, by simp, by rw [togRes_some ht]; rfl⟩

theorem Chain.keep {w w' : World} {b : Nat} (hk : ∀ k, k < w.heap.size → w'.heap[k]? = w.heap[k]?) : ∀ {ts : List ByteArray} {p : Option Addr}, Chain w b p ts → Chain w' b p ts
  | [], _, h => h
  | _ :: _, _, ⟨c, q, h1, h2, h3, h4⟩ => ⟨c, q, h1, h2, (hk c (lies_lt h3)).trans h3, Chain.keep hk h4⟩

theorem WrAt.keep {w w' : World} {b n : Nat} {st : Option (List UInt8)} (h : WrAt w b n st) (hk : ∀ k, k < w.heap.size → w'.heap[k]? = w.heap[k]?) : WrAt w' b n st := by
  match st, h with
  | none, h => exact (hk b (lies_lt (w := w) h)).trans h
  | some l, ⟨p, last, ts, hb, hc, hn, hl⟩ => exact ⟨p, last, ts, (hk b (lies_lt hb)).trans hb, Chain.keep hk hc, hn, hl⟩

theorem WrAt.below {w w' : World} {b n : Nat} {st : Option (List UInt8)} (h : WrAt w b n st) (hb : Below w.heap.size w w') : WrAt w' b n st := h.keep hb.block

theorem WrAt.more {w : World} {b n m : Nat} {st : Option (List UInt8)} (h : WrAt w b n st) (hm : n ≤ m) : WrAt w b m st := by
  match st, h with
  | none, h => exact h
  | some l, ⟨p, last, ts, hb, hc, hn, hl⟩ => exact ⟨p, last, ts, hb, hc, Nat.le_trans hn hm, hl⟩

theorem grown_of_below {w w' : World} {r : Option Nat} (h : Below w.heap.size w w') : w.grownBy w' r := ⟨h.os, h.tape, h.output, h.size, fun k hk _ => h.block k hk⟩

theorem WrAt.cells {w : World} {b n : Nat} {l : List UInt8} (h : WrAt w b n (some l)) : w.cell? ⟨b, 2, none⟩ = some (.bool false) := by
  obtain ⟨p, last, ts, hb, _⟩ := h
  exact lies_cell hb 2

set_option maxHeartbeats 400000 in
theorem bits_nil (v1 v2 : Value) (w : World) :
    Calls Try.prog 57 #[.pointer none, v1, v2] w fun e w' => e = .returned (.tuple #[]) ∧ w = w' := by
  go_enter Try.func57, Try.ntmps57
  go_wp2
  go_returns
  exact ⟨rfl, rfl⟩

set_option maxHeartbeats 400000 in
theorem bits_wrong (b n : Nat) (v1 v2 : Value) (w : World) (h : WrAt w b n none) :
    Calls Try.prog 57 #[.pointer (some ⟨b, 0, none⟩), v1, v2] w fun e w' => e = .returned (.tuple #[]) ∧ w = w' := by
  have c2 : w.cell? ⟨b, 2, none⟩ = some (.bool true) := lies_cell h 2
  clear h
  go_enter Try.func57, Try.ntmps57
  go_wp2
  go_returns
  exact ⟨rfl, rfl⟩

set_option maxHeartbeats 400000 in
theorem bits_bad1 (b n : Nat) (l : List UInt8) (A B : Option Addr) (ca cb : Nat) (xs ns : List Int) (w : World) (h : WrAt w b n (some l)) (hx : IntsAt w A xs) (hl : xs.length ≤ 1000000) (hbad : (togRes xs).2 = false) :
    Calls Try.prog 57 #[.pointer (some ⟨b, 0, none⟩), .slice A xs.length ca, .slice B ns.length cb] w fun e w' => e = .returned (.tuple #[]) ∧ WrAt w' b n none ∧ w.grownBy w' (some b) := by
  have c2 := h.cells
  have hR : Hid (togRes xs = ((togRes xs).1, false)) := by show _ = _; rw [← hbad]
  have HB := Lib.hid hbad; clear hbad
  obtain ⟨r, hr⟩ : ∃ r, Hid (togRes xs = (r, false)) := ⟨_, hR⟩
  clear hR
  go_enter Try.func57, Try.ntmps57
  go_wp2_with (first
    | (go_at_call 80; refine (together_eq _ _ xs _ hx hl _ rfl r false hr.out).mono ?_; rintro e w' ⟨rfl, rfl⟩)
    | (go_at_call 81; refine (fail_any b n l _ h).mono ?_; rintro e w' ⟨rfl, hw1, hw2⟩))
  go_returns
  exact ⟨rfl, hw1, hw2⟩

set_option maxHeartbeats 400000 in
theorem bits_bad2 (b n : Nat) (l : List UInt8) (A B : Option Addr) (ca cb : Nat) (xs ns : List Int) (w : World) (h : WrAt w b n (some l)) (hx : IntsAt w A xs) (hl : xs.length ≤ 1000000) (hok : (togRes xs).2 = true) (hne : xs.length ≠ ns.length) :
    Calls Try.prog 57 #[.pointer (some ⟨b, 0, none⟩), .slice A xs.length ca, .slice B ns.length cb] w fun e w' => e = .returned (.tuple #[]) ∧ WrAt w' b n none ∧ w.grownBy w' (some b) := by
  have c2 := h.cells
  obtain ⟨tot, m, ht, hm, hm3, hr0⟩ := tog_ok hok
  have hr := Lib.hid hr0
  have hd : ((xs.length : Int) != (ns.length : Int)) = true := by simp; omega
  clear ht hm hm3 hr0 hok
  go_enter Try.func57, Try.ntmps57
  go_wp2_with (first
    | (go_at_call 80; refine (together_eq _ _ xs _ hx hl _ rfl m true hr.out).mono ?_; rintro e w' ⟨rfl, rfl⟩)
    | (go_at_call 81; refine (fail_any b n l _ h).mono ?_; rintro e w' ⟨rfl, hw1, hw2⟩))
  go_returns
  exact ⟨rfl, hw1, hw2⟩

theorem pack_cons {xs ns : List Int} {k : Nat} (h1 : k < xs.length) (h2 : k < ns.length) (a : Nat) :
    packGo (xs.drop k) (ns.drop k) a = if fitsB ns[k] xs[k] = true then packGo (xs.drop (k + 1)) (ns.drop (k + 1)) (a * 2 ^ xs[k].toNat + ns[k].toNat) else none := by
  rw [List.drop_eq_getElem_cons h1, List.drop_eq_getElem_cons h2]; rfl

theorem shl_or (a : Nat) (x v S : Int) (ha : a < 2 ^ S.toNat) (hS : 0 ≤ S) (hx : 1 ≤ x) (hSx : x ≤ 32 - S) (hv : fitsB v x = true) :
    bits .or .u32 (IntKind.u32.wrap ((a : Int) * 2 ^ x.toNat)) (IntKind.u32.wrap v) = ((a * 2 ^ x.toNat + v.toNat : Nat) : Int) ∧ a * 2 ^ x.toNat + v.toNat < 2 ^ (S + x).toNat := by
  unfold fitsB at hv
  have hv' := of_decide_eq_true hv
  obtain ⟨v, rfl⟩ := Int.eq_ofNat_of_zero_le hv'.1
  obtain ⟨x, rfl⟩ := Int.eq_ofNat_of_zero_le (show 0 ≤ x by omega)
  obtain ⟨S, rfl⟩ := Int.eq_ofNat_of_zero_le hS
  have hv2 : v < 2 ^ x := by have := hv'.2; simp at this; exact_mod_cast this
  simp only [Int.toNat_natCast] at ha ⊢
  have hsx : (((S : Int) + (x : Int))).toNat = S + x := by omega
  rw [hsx]
  have h2 : a * 2 ^ x + v < 2 ^ (S + x) := by
    rw [Nat.pow_add]
    have : (a + 1) * 2 ^ x ≤ 2 ^ S * 2 ^ x := Nat.mul_le_mul_right _ ha
    rw [Nat.add_mul] at this
    omega
  have h3 : 2 ^ (S + x) ≤ 2 ^ 32 := Nat.pow_le_pow_right (by omega) (by omega)
  have e1 : ((a : Int) * 2 ^ x) = ((a * 2 ^ x : Nat) : Int) := by simp
  have h4 : a * 2 ^ x < 4294967296 := by omega
  have h5 : v < 4294967296 := by omega
  rw [e1, IntWalk.u32_in _ (by omega), IntWalk.u32_in _ (by omega), u32_or_nat _ _ h4 h5]
  refine ⟨?_, h2⟩
  rw [Nat.mul_comm a, ← Nat.two_pow_add_eq_or_of_lt hv2 a]

theorem togGo_at {xs : List Int} {k : Nat} {S tot : Int} (hk : k < xs.length) (h : togGo (xs.drop k) S = some tot) : 1 ≤ xs[k] ∧ xs[k] ≤ 32 - S ∧ togGo (xs.drop (k + 1)) (S + xs[k]) = some tot := by
  rw [tog_cons hk] at h
  split at h
  · cases h
  · exact ⟨by omega, by omega, h⟩

theorem togGo_end {S tot : Int} (h : togGo [] S = some tot) : S = tot := by simpa [togGo] using h

set_option maxHeartbeats 1000000 in
theorem bits_loop (b n : Nat) (l : List UInt8) (A B : Option Addr) (ca cb : Nat) (xs ns : List Int) (w : World) (h : WrAt w b n (some l)) (hx : IntsAt w A xs) (hy : IntsAt w B ns) (hl : xs.length ≤ 1000000) (hll : l.length ≤ 900000)
    (hok : (togRes xs).2 = true) (heq : xs.length = ns.length) :
    Calls Try.prog 57 #[.pointer (some ⟨b, 0, none⟩), .slice A xs.length ca, .slice B ns.length cb] w fun e w' => e = .returned (.tuple #[]) ∧ WrAt w' b (n + 1) ((bitsOf xs ns).map (l ++ ·)) ∧ w.grownBy w' (some b) := by
  have c2 := h.cells
  obtain ⟨tot, m, ht0, hm0, hm3, hr0⟩ := tog_ok hok
  have hr := Lib.hid hr0
  have ht := Lib.hid ht0
  have hm := Lib.hid hm0
  have hm4 : m ≤ 4 := by omega
  have HB : Hid (bitsOf xs ns = (packGo xs ns 0).map (be m)) := by
    show _ = _
    unfold bitsOf
    rw [if_pos ⟨hok, heq⟩, hr0]; rfl
  have HE := Lib.hid heq
  obtain ⟨q, Hq⟩ : ∃ q, Hid (q = ns.length) := ⟨_, rfl⟩
  have Hq' : Hid (q = xs.length) := Hq.out.trans heq.symm
  rw [← Hq.out, ← Hq'.out]
  rw [← Hq'.out] at hl
  clear ht0 hm0 hm3 hr0 hok heq
  go_enter Try.func57, Try.ntmps57
  go_wp2_with (go_at_call 80; refine (together_eq _ _ xs _ hx (by rw [← Hq'.out]; exact hl) _ Hq'.out m true hr.out).mono ?_; rintro e w' ⟨rfl, rfl⟩)
  go_loop [8, 37] (fun v8 v37 => ∃ (k a : Nat) (S : Int), k ≤ q ∧ v37 = .int .i64 k ∧ v8 = .int .u32 a ∧ 0 ≤ S ∧ Hid (a < 2 ^ S.toNat) ∧ Hid (togGo (xs.drop k) S = some tot) ∧ Hid (packGo (xs.drop k) (ns.drop k) a = packGo xs ns 0)) (fun _ v37 => q - (intOf v37).toNat)
  case atStart => exact ⟨0, 0, 0, Nat.zero_le _, rfl, rfl, by omega, by show (0 : Nat) < 2 ^ 0; omega, ht, rfl⟩
  case round =>
    obtain ⟨k, a, S, hk, rfl, rfl, hS0, ha, htk, hpk⟩ := hrel
    by_cases hlt : k < q
    · have hk1 : k < xs.length := by rw [← Hq'.out]; exact hlt
      have hk2 : k < ns.length := by rw [← Hq.out]; exact hlt
      obtain ⟨bx, ox, rfl, hbx, hcx⟩ := hx.get hk1
      obtain ⟨bn, on, rfl, hbn, hcn⟩ := hy.get hk2
      obtain ⟨hx1, hx2, htk'⟩ := togGo_at hk1 htk.out
      have hps := pack_cons hk1 hk2 a
      rw [hpk.out] at hps
      obtain ⟨x, Hx⟩ : ∃ x, Hid (x = xs[k]) := ⟨xs[k], rfl⟩
      obtain ⟨v, Hv⟩ : ∃ v, Hid (v = ns[k]) := ⟨ns[k], rfl⟩
      rw [← Hx.out] at hcx hx1 hx2 htk' hps
      rw [← Hv.out] at hcn hps
      have HPS := Lib.hid hps; clear hps
      have HTK := Lib.hid htk'; clear htk'
      cases hfit : fitsB v x with
      | false =>
        go_wp2_with (first
          | (go_at_call 82; refine (has_any _ _ _ (by omega) (by omega)).mono ?_; rintro e w' ⟨rfl, rfl⟩; rw [hfit])
          | (go_at_call 81; refine (fail_any b n l _ h).mono ?_; rintro e w' ⟨rfl, hw1, hw2⟩))
        go_returns
        refine ⟨rfl, ?_, hw2⟩
        rw [HB.out, HPS.out, hfit]
        exact hw1
      | true =>
        have hso := shl_or a x v S ha.out hS0 hx1 hx2 hfit
        have HSO := Lib.hid hso; clear hso
        go_wp2_with (go_at_call 82; refine (has_any _ _ _ (by omega) (by omega)).mono ?_; rintro e w' ⟨rfl, rfl⟩; rw [hfit])
        go_round
        case rel => exact ⟨k + 1, a * 2 ^ x.toNat + v.toNat, S + x, by omega, by go_num, val_int HSO.out.1, by omega, HSO.out.2, HTK, by show _ = _; rw [HPS.out, hfit]; rfl⟩
        case measure => simp [intOf]; omega
    · have hkx : xs.drop k = [] := List.drop_of_length_le (by rw [← Hq'.out]; omega)
      have hS : S = tot := togGo_end (by have := htk.out; rwa [hkx] at this)
      have hpn : packGo xs ns 0 = some a := by rw [← hpk.out, hkx]; rfl
      have HP := Lib.hid hpn; clear hpn
      have ha4 : a < 4294967296 := by
        have h1 := ha.out
        have h2 : 2 ^ S.toNat ≤ 2 ^ 32 := Nat.pow_le_pow_right (by omega) (by have := hm.out; omega)
        omega
      clear hS hkx
      go_wp2_with (first
        | (go_at_call 83; refine (spread_any a m _ hm4 ha4).mono ?_; rintro e w1 ⟨rfl, hb1⟩)
        | (go_at_call 28; refine (text_any b n (some l) _ w1 (h.below hb1) (fun l' e => by cases e; omega) (by show (be m a).toArray.size ≤ _; simp [be_length]; omega)).mono ?_; rintro e w2 ⟨rfl, hw1, hw2⟩))
      go_returns
      refine ⟨rfl, ?_, grown_trans (grown_of_below hb1) hw2⟩
      rw [HB.out, HP.out]
      exact hw1

/-- Bits puts numbers behind, unless something was, or is, wrong. -/
theorem bits_any (b n : Nat) (st : Option (List UInt8)) (A B : Option Addr) (ca cb : Nat) (xs ns : List Int) (w : World) (h : WrAt w b n st) (hx : IntsAt w A xs) (hy : IntsAt w B ns) (hl : xs.length ≤ 1000000) (hll : ∀ l, st = some l → l.length ≤ 900000) :
    Calls Try.prog 57 #[.pointer (some ⟨b, 0, none⟩), .slice A xs.length ca, .slice B ns.length cb] w fun e w' => e = .returned (.tuple #[]) ∧ WrAt w' b (n + 1) (bitsStep st xs ns) ∧ w.grownBy w' (some b) := by
  match st, h with
  | none, h => exact (bits_wrong b n _ _ w h).mono fun e w' ⟨he, hw⟩ => by subst hw; exact ⟨he, h, World.grownBy.refl w _⟩
  | some l, h =>
    cases hok : (togRes xs).2 with
    | false =>
      refine (bits_bad1 b n l A B ca cb xs ns w h hx hl hok).mono fun e w' ⟨he, hw, hg⟩ => ⟨he, ?_, hg⟩
      have : bitsStep (some l) xs ns = none := by simp [bitsStep, bitsOf, hok]
      rw [this]; exact hw
    | true =>
      by_cases heq : xs.length = ns.length
      · exact bits_loop b n l A B ca cb xs ns w h hx hy hl (hll l rfl) hok heq
      · refine (bits_bad2 b n l A B ca cb xs ns w h hx hl hok heq).mono fun e w' ⟨he, hw, hg⟩ => ⟨he, ?_, hg⟩
        have : bitsStep (some l) xs ns = none := by simp [bitsStep, bitsOf, heq]
        rw [this]; exact hw

/-- A number in so many bytes, put behind. -/
def putStep (st : Option (List UInt8)) (m : Nat) (v : Int) : Option (List UInt8) := if fitsB v (8 * m) = true then st.map (· ++ be m v.toNat) else none

theorem ints_one {w : World} (x : Int) (k : Nat) (hk : w.heap[k]? = some (.cells #[.int .i64 x] 3)) : IntsAt w (some ⟨k, 0, none⟩) [x] := by
  intro _
  refine ⟨k, 0, rfl, lies_lt hk, fun i hi => ?_⟩
  obtain rfl : i = 0 := by simp at hi; omega
  exact lies_cell hk 0

theorem tog_one (m : Nat) (hm : m = 1 ∨ m = 2 ∨ m = 4) : togRes [(8 * m : Int)] = ((m : Int), true) := by
  rcases hm with rfl | rfl | rfl <;> rfl

theorem bitsStep_one (st : Option (List UInt8)) (m : Nat) (v : Int) (hm : m = 1 ∨ m = 2 ∨ m = 4) : bitsStep st [(8 * m : Int)] [v] = putStep st m v := by
  unfold bitsStep bitsOf putStep
  rw [tog_one m hm]
  simp only [List.length_cons, List.length_nil, and_self, if_true, packGo]
  cases st with
  | none => simp
  | some l => split <;> simp

theorem put_core (b n : Nat) (st : Option (List UInt8)) (m : Nat) (x v : Int) (w : World) (hm : m = 1 ∨ m = 2 ∨ m = 4) (hx : x = 8 * m) (h : WrAt w b n st) (hll : ∀ l, st = some l → l.length ≤ 900000) :
    Calls Try.prog 57 #[.pointer (some ⟨b, 0, none⟩), .slice (some ⟨w.heap.size, 0, none⟩) 1 1, .slice (some ⟨w.heap.size + 1, 0, none⟩) 1 1] ((w.alloc (.cells #[.int .i64 x] 3)).alloc (.cells #[.int .i64 v] 3))
      fun e w' => e = .returned (.tuple #[]) ∧ WrAt w' b (n + 1) (putStep st m v) ∧ w.grownBy w' (some b) := by
  subst hx
  have hb : Below w.heap.size w ((w.alloc (.cells #[.int .i64 (8 * m)] 3)).alloc (.cells #[.int .i64 v] 3)) := ((Below.refl _ _).alloc (Nat.le_refl _) _).alloc (by simp) _
  have hx : IntsAt ((w.alloc (.cells #[.int .i64 (8 * m)] 3)).alloc (.cells #[.int .i64 v] 3)) (some ⟨w.heap.size, 0, none⟩) [(8 * m : Int)] := ints_one _ _ (lies_alloc (heap_alloc_new w _) _)
  have hy : IntsAt ((w.alloc (.cells #[.int .i64 (8 * m)] 3)).alloc (.cells #[.int .i64 v] 3)) (some ⟨w.heap.size + 1, 0, none⟩) [v] := ints_one _ _ (by have := heap_alloc_new (w.alloc (.cells #[.int .i64 (8 * m)] 3)) (.cells #[.int .i64 v] 3); simpa using this)
  have h1 := bits_any b n st _ _ 1 1 _ _ _ (h.below hb) hx hy (by simp) hll
  rw [bitsStep_one st m v hm] at h1
  exact h1.mono fun e w' ⟨he, hw, hg⟩ => ⟨he, hw, grown_trans (grown_of_below hb) hg⟩

set_option maxHeartbeats 400000 in
theorem u16_any (b n : Nat) (st : Option (List UInt8)) (v : Int) (w : World) (h : WrAt w b n st) (hll : ∀ l, st = some l → l.length ≤ 900000) :
    Calls Try.prog 29 #[.pointer (some ⟨b, 0, none⟩), .int .i64 v] w fun e w' => e = .returned (.tuple #[]) ∧ WrAt w' b (n + 1) (putStep st 2 v) ∧ w.grownBy w' (some b) := by
  have HL := Lib.hid hll; clear hll
  go_enter Try.func29, Try.ntmps29
  go_wp2_with (go_at_call 57; refine (put_core b n st 2 16 v w (by simp) rfl h HL.out).mono ?_; rintro e w' ⟨rfl, h1, h2⟩)
  go_returns
  exact ⟨rfl, h1, h2⟩

set_option maxHeartbeats 400000 in
theorem u32_any (b n : Nat) (st : Option (List UInt8)) (v : Int) (w : World) (h : WrAt w b n st) (hll : ∀ l, st = some l → l.length ≤ 900000) :
    Calls Try.prog 31 #[.pointer (some ⟨b, 0, none⟩), .int .i64 v] w fun e w' => e = .returned (.tuple #[]) ∧ WrAt w' b (n + 1) (putStep st 4 v) ∧ w.grownBy w' (some b) := by
  have HL := Lib.hid hll; clear hll
  go_enter Try.func31, Try.ntmps31
  go_wp2_with (go_at_call 57; refine (put_core b n st 4 32 v w (by simp) rfl h HL.out).mono ?_; rintro e w' ⟨rfl, h1, h2⟩)
  go_returns
  exact ⟨rfl, h1, h2⟩

end Go.Proofs.Ytdphapjeohkbjaa.Bi
/- A network that comes in is opened: what it is. -/
set_option maxRecDepth 100000
namespace Go.Proofs.Ytdphapjeohkbjaa
open Go.RowKit Go.ChangeShapes Go.WideShapes Go.Deep

theorem cell_lt {w : World} {a : Addr} {v : Value} (h : w.cell? a = some v) : a.block < w.heap.size := by
  rcases Nat.lt_or_ge a.block w.heap.size with h1 | h1
  · exact h1
  · simp [World.cell?, Array.getElem?_eq_none h1] at h
theorem list_of {α : Type} {P : Nat → α → Prop} : ∀ (n : Nat), (∀ i, i < n → ∃ t, P i t) → ∃ l : List α, l.length = n ∧ ∀ i (h : i < l.length), P i l[i]
  | 0, _ => ⟨[], rfl, fun i h => by simp at h⟩
  | n + 1, h => by
    obtain ⟨l, hl, hp⟩ := list_of n (fun i hi => h i (by omega))
    obtain ⟨t, ht⟩ := h n (by omega)
    refine ⟨l ++ [t], by simp [hl], fun i hi => ?_⟩
    by_cases hin : i < l.length
    · rw [List.getElem_append_left hin]; exact hp i hin
    · have : i = n := by simp at hi; omega
      subst this
      rw [List.getElem_append_right (by omega)]
      simpa [hl] using ht
/-- Ints as they lie in memory. -/
def IntsAt (w : World) (A : Option Addr) (xs : List Int) : Prop :=
  xs ≠ [] → ∃ b off, A = some ⟨b, off, none⟩ ∧ b < w.heap.size ∧ ∀ i (h : i < xs.length), w.cell? ⟨b, off + i, none⟩ = some (.int .i64 xs[i])
theorem IntsAt.get {w : World} {A : Option Addr} {xs : List Int} (h : IntsAt w A xs) {k : Nat} (hk : k < xs.length) :
    ∃ b off, A = some ⟨b, off, none⟩ ∧ b < w.heap.size ∧ w.cell? ⟨b, off + k, none⟩ = some (.int .i64 xs[k]) := by
  obtain ⟨b, off, h1, h2, h3⟩ := h (by intro e; subst e; simp at hk)
  exact ⟨b, off, h1, h2, h3 k hk⟩
theorem IntsAt.below {w w' : World} {A : Option Addr} {xs : List Int} (h : IntsAt w A xs) (hb : Below w.heap.size w w') : IntsAt w' A xs := fun hne => by
  obtain ⟨b, off, h1, h2, h3⟩ := h hne
  exact ⟨b, off, h1, Nat.lt_of_lt_of_le h2 hb.size, fun i hi => (hb.cell (p := ⟨b, off + i, none⟩) h2).trans (h3 i hi)⟩
section
variable {H : Type} {enc : TypeId × Value → H} {P : Program} {w : World} {base : Nat} {spare : Nat → Bool} {held : Bool}
/-- A list of ints that comes in. -/
theorem ints_open {t e : TypeId} {fuel : Nat} {v : Value} {x : DataW H × List MemPlace} (ht : P.underlying t = some (.slice e)) (he : P.underlying e = some (.int .i64)) (hc : P.cellsOf e = 1)
    (h : DataW.trod enc P w base spare held fuel t [v] = some x) : ∃ A cap xs, v = .slice A xs.length cap ∧ IntsAt w A xs ∧ xs.length ≤ maxLen ∧ ∀ n ∈ xs, (Lit.int .i64 n).wf = true := by
  rcases open_ints ht he hc h with ⟨hcs, _⟩ | ⟨a, len, cap, zs, hcs, _, hl, hm, hz, _, hcell, hwf⟩
  · refine ⟨none, 0, [], ?_, fun h => absurd rfl h, by simp, fun n h => by simp at h⟩
    simpa using hcs
  · have hlz : len ≤ zs.length := by rw [hz]; split <;> omega
    refine ⟨some a, cap, zs.take len, ?_, ?_, by simp; omega, fun n hn => hwf n (List.mem_of_mem_take hn)⟩
    · rw [List.length_take, Nat.min_eq_left hlz]; simpa using hcs
    · intro hne
      have hpos : 0 < zs.length := by
        rcases Nat.eq_zero_or_pos zs.length with h0 | h0
        · rw [List.length_eq_zero_iff] at h0; subst h0; simp at hne
        · exact h0
      obtain ⟨b, off, rfl, hc'⟩ := ints_at hcell hpos
      refine ⟨b, off, rfl, cell_lt (hc' 0 hpos), fun i hi => ?_⟩
      have hi' : i < zs.length := by simp at hi; omega
      rw [hc' i hi', List.getElem_take]
      simp [List.getD, hi']
theorem add_add' (b off i j : Nat) : ((⟨b, off, none⟩ : Addr).add i).add j = ⟨b, off + i + j, none⟩ := by
  unfold Addr.add
  by_cases hi : i = 0 <;> by_cases hj : j = 0 <;> simp [hi, hj]
end

structure Wn where
  part : Int
  beg : Int
  long : Int

abbrev Wn.enc (x : Wn) : List Value := [.int .i64 x.part, .int .i64 x.beg, .int .i64 x.long]
theorem Wn.enc_length (x : Wn) : x.enc.length = 3 := rfl
abbrev Wn.val (x : Wn) : Value := .agg #[.int .i64 x.part, .int .i64 x.beg, .int .i64 x.long]

def Wn.Ok (x : Wn) : Prop := (Lit.int .i64 x.part).wf = true ∧ (Lit.int .i64 x.beg).wf = true ∧ (Lit.int .i64 x.long).wf = true

def WnAt (w : World) (b o : Nat) (x : Wn) : Prop := w.cell? ⟨b, o, none⟩ = some (.int .i64 x.part) ∧ w.cell? ⟨b, o + 1, none⟩ = some (.int .i64 x.beg) ∧ w.cell? ⟨b, o + 2, none⟩ = some (.int .i64 x.long)

theorem WnAt.of_cells {w w' : World} {b o : Nat} {x : Wn} (h : WnAt w b o x) (hc : ∀ k, w'.cell? ⟨b, k, none⟩ = w.cell? ⟨b, k, none⟩) : WnAt w' b o x := by
  obtain ⟨h0, h1, h2⟩ := h
  exact ⟨(hc _).trans h0, (hc _).trans h1, (hc _).trans h2⟩

theorem WnAt.below {w w' : World} {b o B : Nat} {x : Wn} (h : WnAt w b o x) (hb : Below B w w') (hlt : b < B) : WnAt w' b o x := h.of_cells fun _ => hb.cell hlt

def WnsAt (w : World) (A : Option Addr) (l : List Wn) : Prop :=
  l ≠ [] → ∃ b off, A = some ⟨b, off, none⟩ ∧ b < w.heap.size ∧ ∀ i (h : i < l.length), WnAt w b (off + i * 3) l[i]

theorem WnsAt.get {w : World} {A : Option Addr} {l : List Wn} (h : WnsAt w A l) {k : Nat} (hk : k < l.length) : ∃ b off, A = some ⟨b, off, none⟩ ∧ b < w.heap.size ∧ WnAt w b (off + k * 3) l[k] := by
  obtain ⟨b, off, h1, h2, h3⟩ := h (fun e => by subst e; simp at hk)
  exact ⟨b, off, h1, h2, h3 k hk⟩

theorem WnsAt.below {w w' : World} {A : Option Addr} {l : List Wn} (h : WnsAt w A l) (hb : Below w.heap.size w w') : WnsAt w' A l := fun hne => by
  obtain ⟨b, off, h1, h2, h3⟩ := h hne
  exact ⟨b, off, h1, Nat.lt_of_lt_of_le h2 hb.size, fun i hi => (h3 i hi).below hb h2⟩

section
variable {H : Type} {enc : TypeId × Value → H} {w W : World} {base b0 : Nat} {spare : Nat → Bool} {held : Bool} {r : Reach}

theorem Wn_cells {fuel : Nat} {l : List Value} {x : DataW H × List MemPlace} (h : DataW.trod enc Try.prog W b0 spare held fuel 54 l = some x) :
    ∃ o : Wn, l = o.enc ∧ o.Ok := by
  have cT : Try.prog.cellsOf 54 = 3 := by kernel_rfl
  have c3 : Try.prog.cellsOf 3 = 1 := by kernel_rfl
  obtain ⟨ys, n', _, _, hlen, hyl, hf⟩ := DataW.trod_struct Try.underlying54 h
  rw [cT] at hlen
  match l, hlen with
  | [x0, x1, x2], _ =>
    match ys, hyl with
    | [y0, y1, y2], _ =>
      have f0 : DataW.trod enc Try.prog W b0 spare held n' 3 ((([x0, x1, x2] : List Value).drop 0).take (Try.prog.cellsOf 3)) = some y0 := hf 0 _ rfl
      rw [c3] at f0
      have f0 : DataW.trod enc Try.prog W b0 spare held n' 3 [x0] = some y0 := f0
      have f1 : DataW.trod enc Try.prog W b0 spare held n' 3 ((([x0, x1, x2] : List Value).drop 1).take (Try.prog.cellsOf 3)) = some y1 := hf 1 _ rfl
      rw [c3] at f1
      have f1 : DataW.trod enc Try.prog W b0 spare held n' 3 [x1] = some y1 := f1
      have f2 : DataW.trod enc Try.prog W b0 spare held n' 3 ((([x0, x1, x2] : List Value).drop 2).take (Try.prog.cellsOf 3)) = some y2 := hf 2 _ rfl
      rw [c3] at f2
      have f2 : DataW.trod enc Try.prog W b0 spare held n' 3 [x2] = some y2 := f2
      obtain ⟨v0, e0, _, w0⟩ := DataW.trod_int Try.underlying3 f0
      obtain ⟨v1, e1, _, w1⟩ := DataW.trod_int Try.underlying3 f1
      obtain ⟨v2, e2, _, w2⟩ := DataW.trod_int Try.underlying3 f2
      simp only [List.cons.injEq, and_true] at e0 e1 e2
      subst e0 e1 e2
      exact ⟨⟨v0, v1, v2⟩, rfl, ⟨w0, w1, w2⟩⟩

theorem Wns_open {fuel : Nat} {v : Value} {x : DataW H × List MemPlace} (h : DataW.trod enc Try.prog w base spare held fuel 23 [v] = some x) :
    ∃ Ad cap l, v = .slice Ad (List.length l) cap ∧ WnsAt w Ad l ∧ l.length ≤ maxLen ∧ ∀ o ∈ l, o.Ok := by
  have hC : Try.prog.cellsOf 54 = 3 := by kernel_rfl
  rcases open_slice Try.underlying23 h with ⟨hcs, _⟩ | ⟨a, len, cap, m, n, D, Pl, hcs, _, hl, hm, hmm, _, hall⟩
  · exact ⟨none, 0, [], by simpa using hcs, fun h => absurd rfl h, by simp, fun p h => by simp at h⟩
  · have hlm : len ≤ m := by rw [hmm]; split <;> omega
    have each : ∀ i, i < len → ∃ t : Wn, t.Ok ∧ ∃ b off, a = ⟨b, off, none⟩ ∧ b < w.heap.size ∧ WnAt w b (off + i * 3) t := by
      intro i hi
      obtain ⟨cs, hcell, htr⟩ := hall i (by omega)
      rw [hC] at hcell
      obtain ⟨_, hlen, hat⟩ := World.cells?_some hcell
      obtain ⟨p, rfl, hps⟩ := Wn_cells htr
      obtain ⟨b, off, spot⟩ := a
      have hspot : spot = none := by
        obtain ⟨cs0, hcell0, htr0⟩ := hall 0 (by omega)
        rw [hC] at hcell0
        obtain ⟨_, hlen0, hat0⟩ := World.cells?_some hcell0
        have q0 := hat0 0 (by omega)
        rw [List.getElem?_eq_getElem (by omega)] at q0
        simpa [Addr.add] using World.cell?_spot q0
      subst hspot
      have hk : ∀ k (hk : k < 3), w.cell? ⟨b, off + i * 3 + k, none⟩ = some (p.enc[k]'(by rw [Wn.enc_length]; exact hk)) := fun k hk => by
        have h1 := hat k (by omega)
        rw [List.getElem?_eq_getElem (by rw [Wn.enc_length]; exact hk)] at h1
        rw [add_add'] at h1
        exact h1
      exact ⟨p, hps, b, off, rfl, cell_lt (hk 0 (by omega)), hk 0 (by omega), hk 1 (by omega), hk 2 (by omega)⟩
    obtain ⟨l, hll, hlp⟩ := list_of len each
    refine ⟨some a, cap, l, by rw [hll]; simpa using hcs, fun hne => ?_, by omega, fun p hp => ?_⟩
    · have hpos : 0 < l.length := List.length_pos_iff.2 hne
      obtain ⟨_, b, off, rfl, hb, _⟩ := hlp 0 hpos
      refine ⟨b, off, rfl, hb, fun i hi => ?_⟩
      obtain ⟨_, b', off', e, _, hit⟩ := hlp i hi
      cases e
      exact hit
    · obtain ⟨i, hi, rfl⟩ := List.getElem_of_mem hp
      exact (hlp i hi).1

end

structure Vx where
  id : Int
  host : Int
  bag : Int
  smax : Int
  high : Bool
  subs : Int
  skew : Int
  toA : Option Addr
  toc : Nat
  to : List Int

abbrev Vx.enc (x : Vx) : List Value := [.int .i64 x.id, .int .i64 x.host, .int .i64 x.bag, .int .i64 x.smax, .bool x.high, .int .i64 x.subs, .int .i64 x.skew, .slice x.toA x.to.length x.toc]
theorem Vx.enc_length (x : Vx) : x.enc.length = 8 := rfl
abbrev Vx.val (x : Vx) : Value := .agg #[.int .i64 x.id, .int .i64 x.host, .int .i64 x.bag, .int .i64 x.smax, .bool x.high, .int .i64 x.subs, .int .i64 x.skew, .slice x.toA x.to.length x.toc]

def Vx.Ok (x : Vx) : Prop := (Lit.int .i64 x.id).wf = true ∧ (Lit.int .i64 x.host).wf = true ∧ (Lit.int .i64 x.bag).wf = true ∧ (Lit.int .i64 x.smax).wf = true ∧ (Lit.int .i64 x.subs).wf = true ∧ (Lit.int .i64 x.skew).wf = true ∧ x.to.length ≤ maxLen ∧ (∀ n ∈ x.to, (Lit.int .i64 n).wf = true)

def Vx.Held (w : World) (x : Vx) : Prop := IntsAt w x.toA x.to

def VxAt (w : World) (b o : Nat) (x : Vx) : Prop := w.cell? ⟨b, o, none⟩ = some (.int .i64 x.id) ∧ w.cell? ⟨b, o + 1, none⟩ = some (.int .i64 x.host) ∧ w.cell? ⟨b, o + 2, none⟩ = some (.int .i64 x.bag) ∧ w.cell? ⟨b, o + 3, none⟩ = some (.int .i64 x.smax) ∧ w.cell? ⟨b, o + 4, none⟩ = some (.bool x.high) ∧ w.cell? ⟨b, o + 5, none⟩ = some (.int .i64 x.subs) ∧ w.cell? ⟨b, o + 6, none⟩ = some (.int .i64 x.skew) ∧ w.cell? ⟨b, o + 7, none⟩ = some (.slice x.toA x.to.length x.toc)

theorem VxAt.of_cells {w w' : World} {b o : Nat} {x : Vx} (h : VxAt w b o x) (hc : ∀ k, w'.cell? ⟨b, k, none⟩ = w.cell? ⟨b, k, none⟩) : VxAt w' b o x := by
  obtain ⟨h0, h1, h2, h3, h4, h5, h6, h7⟩ := h
  exact ⟨(hc _).trans h0, (hc _).trans h1, (hc _).trans h2, (hc _).trans h3, (hc _).trans h4, (hc _).trans h5, (hc _).trans h6, (hc _).trans h7⟩

theorem VxAt.below {w w' : World} {b o B : Nat} {x : Vx} (h : VxAt w b o x) (hb : Below B w w') (hlt : b < B) : VxAt w' b o x := h.of_cells fun _ => hb.cell hlt

theorem Vx.Held.below {w w' : World} {x : Vx} (h : x.Held w) (hb : Below w.heap.size w w') : x.Held w' := by
  have h0 := h
  exact IntsAt.below h0 hb

def VxsAt (w : World) (A : Option Addr) (l : List Vx) : Prop :=
  l ≠ [] → ∃ b off, A = some ⟨b, off, none⟩ ∧ b < w.heap.size ∧ ∀ i (h : i < l.length), VxAt w b (off + i * 8) l[i] ∧ l[i].Held w

theorem VxsAt.get {w : World} {A : Option Addr} {l : List Vx} (h : VxsAt w A l) {k : Nat} (hk : k < l.length) : ∃ b off, A = some ⟨b, off, none⟩ ∧ b < w.heap.size ∧ VxAt w b (off + k * 8) l[k] ∧ l[k].Held w := by
  obtain ⟨b, off, h1, h2, h3⟩ := h (fun e => by subst e; simp at hk)
  exact ⟨b, off, h1, h2, h3 k hk⟩

theorem VxsAt.below {w w' : World} {A : Option Addr} {l : List Vx} (h : VxsAt w A l) (hb : Below w.heap.size w w') : VxsAt w' A l := fun hne => by
  obtain ⟨b, off, h1, h2, h3⟩ := h hne
  exact ⟨b, off, h1, Nat.lt_of_lt_of_le h2 hb.size, fun i hi => ⟨(h3 i hi).1.below hb h2, (h3 i hi).2.below hb⟩⟩

section
variable {H : Type} {enc : TypeId × Value → H} {w W : World} {base b0 : Nat} {spare : Nat → Bool} {held : Bool} {r : Reach}

theorem Vx_cells {fuel : Nat} {l : List Value} {x : DataW H × List MemPlace} (h : DataW.trod enc Try.prog W b0 spare held fuel 34 l = some x) :
    ∃ o : Vx, l = o.enc ∧ o.Ok ∧ o.Held W := by
  have cT : Try.prog.cellsOf 34 = 8 := by kernel_rfl
  have c3 : Try.prog.cellsOf 3 = 1 := by kernel_rfl
  have c4 : Try.prog.cellsOf 4 = 1 := by kernel_rfl
  have c22 : Try.prog.cellsOf 22 = 1 := by kernel_rfl
  obtain ⟨ys, n', _, _, hlen, hyl, hf⟩ := DataW.trod_struct Try.underlying34 h
  rw [cT] at hlen
  match l, hlen with
  | [x0, x1, x2, x3, x4, x5, x6, x7], _ =>
    match ys, hyl with
    | [y0, y1, y2, y3, y4, y5, y6, y7], _ =>
      have f0 : DataW.trod enc Try.prog W b0 spare held n' 3 ((([x0, x1, x2, x3, x4, x5, x6, x7] : List Value).drop 0).take (Try.prog.cellsOf 3)) = some y0 := hf 0 _ rfl
      rw [c3] at f0
      have f0 : DataW.trod enc Try.prog W b0 spare held n' 3 [x0] = some y0 := f0
      have f1 : DataW.trod enc Try.prog W b0 spare held n' 3 ((([x0, x1, x2, x3, x4, x5, x6, x7] : List Value).drop 1).take (Try.prog.cellsOf 3)) = some y1 := hf 1 _ rfl
      rw [c3] at f1
      have f1 : DataW.trod enc Try.prog W b0 spare held n' 3 [x1] = some y1 := f1
      have f2 : DataW.trod enc Try.prog W b0 spare held n' 3 ((([x0, x1, x2, x3, x4, x5, x6, x7] : List Value).drop 2).take (Try.prog.cellsOf 3)) = some y2 := hf 2 _ rfl
      rw [c3] at f2
      have f2 : DataW.trod enc Try.prog W b0 spare held n' 3 [x2] = some y2 := f2
      have f3 : DataW.trod enc Try.prog W b0 spare held n' 3 ((([x0, x1, x2, x3, x4, x5, x6, x7] : List Value).drop 3).take (Try.prog.cellsOf 3)) = some y3 := hf 3 _ rfl
      rw [c3] at f3
      have f3 : DataW.trod enc Try.prog W b0 spare held n' 3 [x3] = some y3 := f3
      have f4 : DataW.trod enc Try.prog W b0 spare held n' 4 ((([x0, x1, x2, x3, x4, x5, x6, x7] : List Value).drop 4).take (Try.prog.cellsOf 4)) = some y4 := hf 4 _ rfl
      rw [c4] at f4
      have f4 : DataW.trod enc Try.prog W b0 spare held n' 4 [x4] = some y4 := f4
      have f5 : DataW.trod enc Try.prog W b0 spare held n' 3 ((([x0, x1, x2, x3, x4, x5, x6, x7] : List Value).drop 5).take (Try.prog.cellsOf 3)) = some y5 := hf 5 _ rfl
      rw [c3] at f5
      have f5 : DataW.trod enc Try.prog W b0 spare held n' 3 [x5] = some y5 := f5
      have f6 : DataW.trod enc Try.prog W b0 spare held n' 3 ((([x0, x1, x2, x3, x4, x5, x6, x7] : List Value).drop 6).take (Try.prog.cellsOf 3)) = some y6 := hf 6 _ rfl
      rw [c3] at f6
      have f6 : DataW.trod enc Try.prog W b0 spare held n' 3 [x6] = some y6 := f6
      have f7 : DataW.trod enc Try.prog W b0 spare held n' 22 ((([x0, x1, x2, x3, x4, x5, x6, x7] : List Value).drop 7).take (Try.prog.cellsOf 22)) = some y7 := hf 7 _ rfl
      rw [c22] at f7
      have f7 : DataW.trod enc Try.prog W b0 spare held n' 22 [x7] = some y7 := f7
      obtain ⟨v0, e0, _, w0⟩ := DataW.trod_int Try.underlying3 f0
      obtain ⟨v1, e1, _, w1⟩ := DataW.trod_int Try.underlying3 f1
      obtain ⟨v2, e2, _, w2⟩ := DataW.trod_int Try.underlying3 f2
      obtain ⟨v3, e3, _, w3⟩ := DataW.trod_int Try.underlying3 f3
      obtain ⟨v4, e4, _⟩ := DataW.trod_bool Try.underlying4 f4
      obtain ⟨v5, e5, _, w5⟩ := DataW.trod_int Try.underlying3 f5
      obtain ⟨v6, e6, _, w6⟩ := DataW.trod_int Try.underlying3 f6
      obtain ⟨A7, k7, v7, e7, i7, l7, w7⟩ := ints_open Try.underlying22 Try.underlying3 (by kernel_rfl) f7
      simp only [List.cons.injEq, and_true] at e0 e1 e2 e3 e4 e5 e6
      subst e0 e1 e2 e3 e4 e5 e6 e7
      exact ⟨⟨v0, v1, v2, v3, v4, v5, v6, A7, k7, v7⟩, rfl, ⟨w0, w1, w2, w3, w5, w6, l7, w7⟩, i7⟩

theorem Vxs_open {fuel : Nat} {v : Value} {x : DataW H × List MemPlace} (h : DataW.trod enc Try.prog w base spare held fuel 24 [v] = some x) :
    ∃ Ad cap l, v = .slice Ad (List.length l) cap ∧ VxsAt w Ad l ∧ l.length ≤ maxLen ∧ ∀ o ∈ l, o.Ok := by
  have hC : Try.prog.cellsOf 34 = 8 := by kernel_rfl
  rcases open_slice Try.underlying24 h with ⟨hcs, _⟩ | ⟨a, len, cap, m, n, D, Pl, hcs, _, hl, hm, hmm, _, hall⟩
  · exact ⟨none, 0, [], by simpa using hcs, fun h => absurd rfl h, by simp, fun p h => by simp at h⟩
  · have hlm : len ≤ m := by rw [hmm]; split <;> omega
    have each : ∀ i, i < len → ∃ t : Vx, t.Ok ∧ ∃ b off, a = ⟨b, off, none⟩ ∧ b < w.heap.size ∧ VxAt w b (off + i * 8) t ∧ t.Held w := by
      intro i hi
      obtain ⟨cs, hcell, htr⟩ := hall i (by omega)
      rw [hC] at hcell
      obtain ⟨_, hlen, hat⟩ := World.cells?_some hcell
      obtain ⟨p, rfl, hps, hph⟩ := Vx_cells htr
      obtain ⟨b, off, spot⟩ := a
      have hspot : spot = none := by
        obtain ⟨cs0, hcell0, htr0⟩ := hall 0 (by omega)
        rw [hC] at hcell0
        obtain ⟨_, hlen0, hat0⟩ := World.cells?_some hcell0
        have q0 := hat0 0 (by omega)
        rw [List.getElem?_eq_getElem (by omega)] at q0
        simpa [Addr.add] using World.cell?_spot q0
      subst hspot
      have hk : ∀ k (hk : k < 8), w.cell? ⟨b, off + i * 8 + k, none⟩ = some (p.enc[k]'(by rw [Vx.enc_length]; exact hk)) := fun k hk => by
        have h1 := hat k (by omega)
        rw [List.getElem?_eq_getElem (by rw [Vx.enc_length]; exact hk)] at h1
        rw [add_add'] at h1
        exact h1
      exact ⟨p, hps, b, off, rfl, cell_lt (hk 0 (by omega)), ⟨hk 0 (by omega), hk 1 (by omega), hk 2 (by omega), hk 3 (by omega), hk 4 (by omega), hk 5 (by omega), hk 6 (by omega), hk 7 (by omega)⟩, hph⟩
    obtain ⟨l, hll, hlp⟩ := list_of len each
    refine ⟨some a, cap, l, by rw [hll]; simpa using hcs, fun hne => ?_, by omega, fun p hp => ?_⟩
    · have hpos : 0 < l.length := List.length_pos_iff.2 hne
      obtain ⟨_, b, off, rfl, hb, _⟩ := hlp 0 hpos
      refine ⟨b, off, rfl, hb, fun i hi => ?_⟩
      obtain ⟨_, b', off', e, _, hit⟩ := hlp i hi
      cases e
      exact hit
    · obtain ⟨i, hi, rfl⟩ := List.getElem_of_mem hp
      exact (hlp i hi).1

theorem Vx_open {fuel : Nat} {v : Value} {x : DataW H × List MemPlace} (hok : Value.okWide Try.prog w r base 34 v) (h : DataW.trod enc Try.prog W b0 spare held fuel 34 v.cells.toList = some x) :
    ∃ o : Vx, v = o.val ∧ o.Ok ∧ o.Held W := by
  have hv : ∃ cs : Array Value, v = .agg cs := by
    simp only [Value.okWide, Try.underlying34] at hok
    obtain ⟨cs, h1, _⟩ := hok
    exact ⟨cs, h1⟩
  obtain ⟨cs, rfl⟩ := hv
  obtain ⟨l⟩ := cs
  have h : DataW.trod enc Try.prog W b0 spare held fuel 34 l = some x := by simpa [Value.cells] using h
  obtain ⟨o, rfl, h2, h3⟩ := Vx_cells h
  exact ⟨o, rfl, h2, h3⟩

end

structure Px where
  id : Int
  host : Int
  part : Int
  kind : Int
  out : Bool
  vl : Int
  sub : Int
  udp : Int
  size : Int
  depth : Int
  fresh : Int

abbrev Px.enc (x : Px) : List Value := [.int .i64 x.id, .int .i64 x.host, .int .i64 x.part, .int .i64 x.kind, .bool x.out, .int .i64 x.vl, .int .i64 x.sub, .int .i64 x.udp, .int .i64 x.size, .int .i64 x.depth, .int .i64 x.fresh]
theorem Px.enc_length (x : Px) : x.enc.length = 11 := rfl
abbrev Px.val (x : Px) : Value := .agg #[.int .i64 x.id, .int .i64 x.host, .int .i64 x.part, .int .i64 x.kind, .bool x.out, .int .i64 x.vl, .int .i64 x.sub, .int .i64 x.udp, .int .i64 x.size, .int .i64 x.depth, .int .i64 x.fresh]

def Px.Ok (x : Px) : Prop := (Lit.int .i64 x.id).wf = true ∧ (Lit.int .i64 x.host).wf = true ∧ (Lit.int .i64 x.part).wf = true ∧ (Lit.int .i64 x.kind).wf = true ∧ (Lit.int .i64 x.vl).wf = true ∧ (Lit.int .i64 x.sub).wf = true ∧ (Lit.int .i64 x.udp).wf = true ∧ (Lit.int .i64 x.size).wf = true ∧ (Lit.int .i64 x.depth).wf = true ∧ (Lit.int .i64 x.fresh).wf = true

def PxAt (w : World) (b o : Nat) (x : Px) : Prop := w.cell? ⟨b, o, none⟩ = some (.int .i64 x.id) ∧ w.cell? ⟨b, o + 1, none⟩ = some (.int .i64 x.host) ∧ w.cell? ⟨b, o + 2, none⟩ = some (.int .i64 x.part) ∧ w.cell? ⟨b, o + 3, none⟩ = some (.int .i64 x.kind) ∧ w.cell? ⟨b, o + 4, none⟩ = some (.bool x.out) ∧ w.cell? ⟨b, o + 5, none⟩ = some (.int .i64 x.vl) ∧ w.cell? ⟨b, o + 6, none⟩ = some (.int .i64 x.sub) ∧ w.cell? ⟨b, o + 7, none⟩ = some (.int .i64 x.udp) ∧ w.cell? ⟨b, o + 8, none⟩ = some (.int .i64 x.size) ∧ w.cell? ⟨b, o + 9, none⟩ = some (.int .i64 x.depth) ∧ w.cell? ⟨b, o + 10, none⟩ = some (.int .i64 x.fresh)

theorem PxAt.of_cells {w w' : World} {b o : Nat} {x : Px} (h : PxAt w b o x) (hc : ∀ k, w'.cell? ⟨b, k, none⟩ = w.cell? ⟨b, k, none⟩) : PxAt w' b o x := by
  obtain ⟨h0, h1, h2, h3, h4, h5, h6, h7, h8, h9, h10⟩ := h
  exact ⟨(hc _).trans h0, (hc _).trans h1, (hc _).trans h2, (hc _).trans h3, (hc _).trans h4, (hc _).trans h5, (hc _).trans h6, (hc _).trans h7, (hc _).trans h8, (hc _).trans h9, (hc _).trans h10⟩

theorem PxAt.below {w w' : World} {b o B : Nat} {x : Px} (h : PxAt w b o x) (hb : Below B w w') (hlt : b < B) : PxAt w' b o x := h.of_cells fun _ => hb.cell hlt

def PxsAt (w : World) (A : Option Addr) (l : List Px) : Prop :=
  l ≠ [] → ∃ b off, A = some ⟨b, off, none⟩ ∧ b < w.heap.size ∧ ∀ i (h : i < l.length), PxAt w b (off + i * 11) l[i]

theorem PxsAt.get {w : World} {A : Option Addr} {l : List Px} (h : PxsAt w A l) {k : Nat} (hk : k < l.length) : ∃ b off, A = some ⟨b, off, none⟩ ∧ b < w.heap.size ∧ PxAt w b (off + k * 11) l[k] := by
  obtain ⟨b, off, h1, h2, h3⟩ := h (fun e => by subst e; simp at hk)
  exact ⟨b, off, h1, h2, h3 k hk⟩

theorem PxsAt.below {w w' : World} {A : Option Addr} {l : List Px} (h : PxsAt w A l) (hb : Below w.heap.size w w') : PxsAt w' A l := fun hne => by
  obtain ⟨b, off, h1, h2, h3⟩ := h hne
  exact ⟨b, off, h1, Nat.lt_of_lt_of_le h2 hb.size, fun i hi => (h3 i hi).below hb h2⟩

section
variable {H : Type} {enc : TypeId × Value → H} {w W : World} {base b0 : Nat} {spare : Nat → Bool} {held : Bool} {r : Reach}

theorem Px_cells {fuel : Nat} {l : List Value} {x : DataW H × List MemPlace} (h : DataW.trod enc Try.prog W b0 spare held fuel 41 l = some x) :
    ∃ o : Px, l = o.enc ∧ o.Ok := by
  have cT : Try.prog.cellsOf 41 = 11 := by kernel_rfl
  have c3 : Try.prog.cellsOf 3 = 1 := by kernel_rfl
  have c4 : Try.prog.cellsOf 4 = 1 := by kernel_rfl
  obtain ⟨ys, n', _, _, hlen, hyl, hf⟩ := DataW.trod_struct Try.underlying41 h
  rw [cT] at hlen
  match l, hlen with
  | [x0, x1, x2, x3, x4, x5, x6, x7, x8, x9, x10], _ =>
    match ys, hyl with
    | [y0, y1, y2, y3, y4, y5, y6, y7, y8, y9, y10], _ =>
      have f0 : DataW.trod enc Try.prog W b0 spare held n' 3 ((([x0, x1, x2, x3, x4, x5, x6, x7, x8, x9, x10] : List Value).drop 0).take (Try.prog.cellsOf 3)) = some y0 := hf 0 _ rfl
      rw [c3] at f0
      have f0 : DataW.trod enc Try.prog W b0 spare held n' 3 [x0] = some y0 := f0
      have f1 : DataW.trod enc Try.prog W b0 spare held n' 3 ((([x0, x1, x2, x3, x4, x5, x6, x7, x8, x9, x10] : List Value).drop 1).take (Try.prog.cellsOf 3)) = some y1 := hf 1 _ rfl
      rw [c3] at f1
      have f1 : DataW.trod enc Try.prog W b0 spare held n' 3 [x1] = some y1 := f1
      have f2 : DataW.trod enc Try.prog W b0 spare held n' 3 ((([x0, x1, x2, x3, x4, x5, x6, x7, x8, x9, x10] : List Value).drop 2).take (Try.prog.cellsOf 3)) = some y2 := hf 2 _ rfl
      rw [c3] at f2
      have f2 : DataW.trod enc Try.prog W b0 spare held n' 3 [x2] = some y2 := f2
      have f3 : DataW.trod enc Try.prog W b0 spare held n' 3 ((([x0, x1, x2, x3, x4, x5, x6, x7, x8, x9, x10] : List Value).drop 3).take (Try.prog.cellsOf 3)) = some y3 := hf 3 _ rfl
      rw [c3] at f3
      have f3 : DataW.trod enc Try.prog W b0 spare held n' 3 [x3] = some y3 := f3
      have f4 : DataW.trod enc Try.prog W b0 spare held n' 4 ((([x0, x1, x2, x3, x4, x5, x6, x7, x8, x9, x10] : List Value).drop 4).take (Try.prog.cellsOf 4)) = some y4 := hf 4 _ rfl
      rw [c4] at f4
      have f4 : DataW.trod enc Try.prog W b0 spare held n' 4 [x4] = some y4 := f4
      have f5 : DataW.trod enc Try.prog W b0 spare held n' 3 ((([x0, x1, x2, x3, x4, x5, x6, x7, x8, x9, x10] : List Value).drop 5).take (Try.prog.cellsOf 3)) = some y5 := hf 5 _ rfl
      rw [c3] at f5
      have f5 : DataW.trod enc Try.prog W b0 spare held n' 3 [x5] = some y5 := f5
      have f6 : DataW.trod enc Try.prog W b0 spare held n' 3 ((([x0, x1, x2, x3, x4, x5, x6, x7, x8, x9, x10] : List Value).drop 6).take (Try.prog.cellsOf 3)) = some y6 := hf 6 _ rfl
      rw [c3] at f6
      have f6 : DataW.trod enc Try.prog W b0 spare held n' 3 [x6] = some y6 := f6
      have f7 : DataW.trod enc Try.prog W b0 spare held n' 3 ((([x0, x1, x2, x3, x4, x5, x6, x7, x8, x9, x10] : List Value).drop 7).take (Try.prog.cellsOf 3)) = some y7 := hf 7 _ rfl
      rw [c3] at f7
      have f7 : DataW.trod enc Try.prog W b0 spare held n' 3 [x7] = some y7 := f7
      have f8 : DataW.trod enc Try.prog W b0 spare held n' 3 ((([x0, x1, x2, x3, x4, x5, x6, x7, x8, x9, x10] : List Value).drop 8).take (Try.prog.cellsOf 3)) = some y8 := hf 8 _ rfl
      rw [c3] at f8
      have f8 : DataW.trod enc Try.prog W b0 spare held n' 3 [x8] = some y8 := f8
      have f9 : DataW.trod enc Try.prog W b0 spare held n' 3 ((([x0, x1, x2, x3, x4, x5, x6, x7, x8, x9, x10] : List Value).drop 9).take (Try.prog.cellsOf 3)) = some y9 := hf 9 _ rfl
      rw [c3] at f9
      have f9 : DataW.trod enc Try.prog W b0 spare held n' 3 [x9] = some y9 := f9
      have f10 : DataW.trod enc Try.prog W b0 spare held n' 3 ((([x0, x1, x2, x3, x4, x5, x6, x7, x8, x9, x10] : List Value).drop 10).take (Try.prog.cellsOf 3)) = some y10 := hf 10 _ rfl
      rw [c3] at f10
      have f10 : DataW.trod enc Try.prog W b0 spare held n' 3 [x10] = some y10 := f10
      obtain ⟨v0, e0, _, w0⟩ := DataW.trod_int Try.underlying3 f0
      obtain ⟨v1, e1, _, w1⟩ := DataW.trod_int Try.underlying3 f1
      obtain ⟨v2, e2, _, w2⟩ := DataW.trod_int Try.underlying3 f2
      obtain ⟨v3, e3, _, w3⟩ := DataW.trod_int Try.underlying3 f3
      obtain ⟨v4, e4, _⟩ := DataW.trod_bool Try.underlying4 f4
      obtain ⟨v5, e5, _, w5⟩ := DataW.trod_int Try.underlying3 f5
      obtain ⟨v6, e6, _, w6⟩ := DataW.trod_int Try.underlying3 f6
      obtain ⟨v7, e7, _, w7⟩ := DataW.trod_int Try.underlying3 f7
      obtain ⟨v8, e8, _, w8⟩ := DataW.trod_int Try.underlying3 f8
      obtain ⟨v9, e9, _, w9⟩ := DataW.trod_int Try.underlying3 f9
      obtain ⟨v10, e10, _, w10⟩ := DataW.trod_int Try.underlying3 f10
      simp only [List.cons.injEq, and_true] at e0 e1 e2 e3 e4 e5 e6 e7 e8 e9 e10
      subst e0 e1 e2 e3 e4 e5 e6 e7 e8 e9 e10
      exact ⟨⟨v0, v1, v2, v3, v4, v5, v6, v7, v8, v9, v10⟩, rfl, ⟨w0, w1, w2, w3, w5, w6, w7, w8, w9, w10⟩⟩

theorem Pxs_open {fuel : Nat} {v : Value} {x : DataW H × List MemPlace} (h : DataW.trod enc Try.prog w base spare held fuel 25 [v] = some x) :
    ∃ Ad cap l, v = .slice Ad (List.length l) cap ∧ PxsAt w Ad l ∧ l.length ≤ maxLen ∧ ∀ o ∈ l, o.Ok := by
  have hC : Try.prog.cellsOf 41 = 11 := by kernel_rfl
  rcases open_slice Try.underlying25 h with ⟨hcs, _⟩ | ⟨a, len, cap, m, n, D, Pl, hcs, _, hl, hm, hmm, _, hall⟩
  · exact ⟨none, 0, [], by simpa using hcs, fun h => absurd rfl h, by simp, fun p h => by simp at h⟩
  · have hlm : len ≤ m := by rw [hmm]; split <;> omega
    have each : ∀ i, i < len → ∃ t : Px, t.Ok ∧ ∃ b off, a = ⟨b, off, none⟩ ∧ b < w.heap.size ∧ PxAt w b (off + i * 11) t := by
      intro i hi
      obtain ⟨cs, hcell, htr⟩ := hall i (by omega)
      rw [hC] at hcell
      obtain ⟨_, hlen, hat⟩ := World.cells?_some hcell
      obtain ⟨p, rfl, hps⟩ := Px_cells htr
      obtain ⟨b, off, spot⟩ := a
      have hspot : spot = none := by
        obtain ⟨cs0, hcell0, htr0⟩ := hall 0 (by omega)
        rw [hC] at hcell0
        obtain ⟨_, hlen0, hat0⟩ := World.cells?_some hcell0
        have q0 := hat0 0 (by omega)
        rw [List.getElem?_eq_getElem (by omega)] at q0
        simpa [Addr.add] using World.cell?_spot q0
      subst hspot
      have hk : ∀ k (hk : k < 11), w.cell? ⟨b, off + i * 11 + k, none⟩ = some (p.enc[k]'(by rw [Px.enc_length]; exact hk)) := fun k hk => by
        have h1 := hat k (by omega)
        rw [List.getElem?_eq_getElem (by rw [Px.enc_length]; exact hk)] at h1
        rw [add_add'] at h1
        exact h1
      exact ⟨p, hps, b, off, rfl, cell_lt (hk 0 (by omega)), hk 0 (by omega), hk 1 (by omega), hk 2 (by omega), hk 3 (by omega), hk 4 (by omega), hk 5 (by omega), hk 6 (by omega), hk 7 (by omega), hk 8 (by omega), hk 9 (by omega), hk 10 (by omega)⟩
    obtain ⟨l, hll, hlp⟩ := list_of len each
    refine ⟨some a, cap, l, by rw [hll]; simpa using hcs, fun hne => ?_, by omega, fun p hp => ?_⟩
    · have hpos : 0 < l.length := List.length_pos_iff.2 hne
      obtain ⟨_, b, off, rfl, hb, _⟩ := hlp 0 hpos
      refine ⟨b, off, rfl, hb, fun i hi => ?_⟩
      obtain ⟨_, b', off', e, _, hit⟩ := hlp i hi
      cases e
      exact hit
    · obtain ⟨i, hi, rfl⟩ := List.getElem_of_mem hp
      exact (hlp i hi).1

end

structure Cx where
  hosts : Int
  partsA : Option Addr
  partsc : Nat
  parts : List Int
  major : Int
  winsA : Option Addr
  winsc : Nat
  wins : List Wn
  vlsA : Option Addr
  vlsc : Nat
  vls : List Vx
  portsA : Option Addr
  portsc : Nat
  ports : List Px

abbrev Cx.enc (x : Cx) : List Value := [.int .i64 x.hosts, .slice x.partsA x.parts.length x.partsc, .int .i64 x.major, .slice x.winsA x.wins.length x.winsc, .slice x.vlsA x.vls.length x.vlsc, .slice x.portsA x.ports.length x.portsc]
theorem Cx.enc_length (x : Cx) : x.enc.length = 6 := rfl
abbrev Cx.val (x : Cx) : Value := .agg #[.int .i64 x.hosts, .slice x.partsA x.parts.length x.partsc, .int .i64 x.major, .slice x.winsA x.wins.length x.winsc, .slice x.vlsA x.vls.length x.vlsc, .slice x.portsA x.ports.length x.portsc]

def Cx.Ok (x : Cx) : Prop := (Lit.int .i64 x.hosts).wf = true ∧ x.parts.length ≤ maxLen ∧ (∀ n ∈ x.parts, (Lit.int .i64 n).wf = true) ∧ (Lit.int .i64 x.major).wf = true ∧ x.wins.length ≤ maxLen ∧ (∀ y ∈ x.wins, y.Ok) ∧ x.vls.length ≤ maxLen ∧ (∀ y ∈ x.vls, y.Ok) ∧ x.ports.length ≤ maxLen ∧ (∀ y ∈ x.ports, y.Ok)

def Cx.Held (w : World) (x : Cx) : Prop := IntsAt w x.partsA x.parts ∧ WnsAt w x.winsA x.wins ∧ VxsAt w x.vlsA x.vls ∧ PxsAt w x.portsA x.ports

def CxAt (w : World) (b o : Nat) (x : Cx) : Prop := w.cell? ⟨b, o, none⟩ = some (.int .i64 x.hosts) ∧ w.cell? ⟨b, o + 1, none⟩ = some (.slice x.partsA x.parts.length x.partsc) ∧ w.cell? ⟨b, o + 2, none⟩ = some (.int .i64 x.major) ∧ w.cell? ⟨b, o + 3, none⟩ = some (.slice x.winsA x.wins.length x.winsc) ∧ w.cell? ⟨b, o + 4, none⟩ = some (.slice x.vlsA x.vls.length x.vlsc) ∧ w.cell? ⟨b, o + 5, none⟩ = some (.slice x.portsA x.ports.length x.portsc)

theorem CxAt.of_cells {w w' : World} {b o : Nat} {x : Cx} (h : CxAt w b o x) (hc : ∀ k, w'.cell? ⟨b, k, none⟩ = w.cell? ⟨b, k, none⟩) : CxAt w' b o x := by
  obtain ⟨h0, h1, h2, h3, h4, h5⟩ := h
  exact ⟨(hc _).trans h0, (hc _).trans h1, (hc _).trans h2, (hc _).trans h3, (hc _).trans h4, (hc _).trans h5⟩

theorem CxAt.below {w w' : World} {b o B : Nat} {x : Cx} (h : CxAt w b o x) (hb : Below B w w') (hlt : b < B) : CxAt w' b o x := h.of_cells fun _ => hb.cell hlt

theorem Cx.Held.below {w w' : World} {x : Cx} (h : x.Held w) (hb : Below w.heap.size w w') : x.Held w' := by
  obtain ⟨h0, h1, h2, h3⟩ := h
  exact ⟨IntsAt.below h0 hb, WnsAt.below h1 hb, VxsAt.below h2 hb, PxsAt.below h3 hb⟩

def CxsAt (w : World) (A : Option Addr) (l : List Cx) : Prop :=
  l ≠ [] → ∃ b off, A = some ⟨b, off, none⟩ ∧ b < w.heap.size ∧ ∀ i (h : i < l.length), CxAt w b (off + i * 6) l[i] ∧ l[i].Held w

theorem CxsAt.get {w : World} {A : Option Addr} {l : List Cx} (h : CxsAt w A l) {k : Nat} (hk : k < l.length) : ∃ b off, A = some ⟨b, off, none⟩ ∧ b < w.heap.size ∧ CxAt w b (off + k * 6) l[k] ∧ l[k].Held w := by
  obtain ⟨b, off, h1, h2, h3⟩ := h (fun e => by subst e; simp at hk)
  exact ⟨b, off, h1, h2, h3 k hk⟩

theorem CxsAt.below {w w' : World} {A : Option Addr} {l : List Cx} (h : CxsAt w A l) (hb : Below w.heap.size w w') : CxsAt w' A l := fun hne => by
  obtain ⟨b, off, h1, h2, h3⟩ := h hne
  exact ⟨b, off, h1, Nat.lt_of_lt_of_le h2 hb.size, fun i hi => ⟨(h3 i hi).1.below hb h2, (h3 i hi).2.below hb⟩⟩

section
variable {H : Type} {enc : TypeId × Value → H} {w W : World} {base b0 : Nat} {spare : Nat → Bool} {held : Bool} {r : Reach}

theorem Cx_cells {fuel : Nat} {l : List Value} {x : DataW H × List MemPlace} (h : DataW.trod enc Try.prog W b0 spare held fuel 27 l = some x) :
    ∃ o : Cx, l = o.enc ∧ o.Ok ∧ o.Held W := by
  have cT : Try.prog.cellsOf 27 = 6 := by kernel_rfl
  have c3 : Try.prog.cellsOf 3 = 1 := by kernel_rfl
  have c22 : Try.prog.cellsOf 22 = 1 := by kernel_rfl
  have c23 : Try.prog.cellsOf 23 = 1 := by kernel_rfl
  have c24 : Try.prog.cellsOf 24 = 1 := by kernel_rfl
  have c25 : Try.prog.cellsOf 25 = 1 := by kernel_rfl
  obtain ⟨ys, n', _, _, hlen, hyl, hf⟩ := DataW.trod_struct Try.underlying27 h
  rw [cT] at hlen
  match l, hlen with
  | [x0, x1, x2, x3, x4, x5], _ =>
    match ys, hyl with
    | [y0, y1, y2, y3, y4, y5], _ =>
      have f0 : DataW.trod enc Try.prog W b0 spare held n' 3 ((([x0, x1, x2, x3, x4, x5] : List Value).drop 0).take (Try.prog.cellsOf 3)) = some y0 := hf 0 _ rfl
      rw [c3] at f0
      have f0 : DataW.trod enc Try.prog W b0 spare held n' 3 [x0] = some y0 := f0
      have f1 : DataW.trod enc Try.prog W b0 spare held n' 22 ((([x0, x1, x2, x3, x4, x5] : List Value).drop 1).take (Try.prog.cellsOf 22)) = some y1 := hf 1 _ rfl
      rw [c22] at f1
      have f1 : DataW.trod enc Try.prog W b0 spare held n' 22 [x1] = some y1 := f1
      have f2 : DataW.trod enc Try.prog W b0 spare held n' 3 ((([x0, x1, x2, x3, x4, x5] : List Value).drop 2).take (Try.prog.cellsOf 3)) = some y2 := hf 2 _ rfl
      rw [c3] at f2
      have f2 : DataW.trod enc Try.prog W b0 spare held n' 3 [x2] = some y2 := f2
      have f3 : DataW.trod enc Try.prog W b0 spare held n' 23 ((([x0, x1, x2, x3, x4, x5] : List Value).drop 3).take (Try.prog.cellsOf 23)) = some y3 := hf 3 _ rfl
      rw [c23] at f3
      have f3 : DataW.trod enc Try.prog W b0 spare held n' 23 [x3] = some y3 := f3
      have f4 : DataW.trod enc Try.prog W b0 spare held n' 24 ((([x0, x1, x2, x3, x4, x5] : List Value).drop 4).take (Try.prog.cellsOf 24)) = some y4 := hf 4 _ rfl
      rw [c24] at f4
      have f4 : DataW.trod enc Try.prog W b0 spare held n' 24 [x4] = some y4 := f4
      have f5 : DataW.trod enc Try.prog W b0 spare held n' 25 ((([x0, x1, x2, x3, x4, x5] : List Value).drop 5).take (Try.prog.cellsOf 25)) = some y5 := hf 5 _ rfl
      rw [c25] at f5
      have f5 : DataW.trod enc Try.prog W b0 spare held n' 25 [x5] = some y5 := f5
      obtain ⟨v0, e0, _, w0⟩ := DataW.trod_int Try.underlying3 f0
      obtain ⟨A1, k1, v1, e1, i1, l1, w1⟩ := ints_open Try.underlying22 Try.underlying3 (by kernel_rfl) f1
      obtain ⟨v2, e2, _, w2⟩ := DataW.trod_int Try.underlying3 f2
      obtain ⟨A3, k3, v3, e3, i3, l3, w3⟩ := Wns_open f3
      obtain ⟨A4, k4, v4, e4, i4, l4, w4⟩ := Vxs_open f4
      obtain ⟨A5, k5, v5, e5, i5, l5, w5⟩ := Pxs_open f5
      simp only [List.cons.injEq, and_true] at e0 e2
      subst e0 e1 e2 e3 e4 e5
      exact ⟨⟨v0, A1, k1, v1, v2, A3, k3, v3, A4, k4, v4, A5, k5, v5⟩, rfl, ⟨w0, l1, w1, w2, l3, w3, l4, w4, l5, w5⟩, ⟨i1, i3, i4, i5⟩⟩

theorem Cx_open {fuel : Nat} {v : Value} {x : DataW H × List MemPlace} (hok : Value.okWide Try.prog w r base 27 v) (h : DataW.trod enc Try.prog W b0 spare held fuel 27 v.cells.toList = some x) :
    ∃ o : Cx, v = o.val ∧ o.Ok ∧ o.Held W := by
  have hv : ∃ cs : Array Value, v = .agg cs := by
    simp only [Value.okWide, Try.underlying27] at hok
    obtain ⟨cs, h1, _⟩ := hok
    exact ⟨cs, h1⟩
  obtain ⟨cs, rfl⟩ := hv
  obtain ⟨l⟩ := cs
  have h : DataW.trod enc Try.prog W b0 spare held fuel 27 l = some x := by simpa [Value.cells] using h
  obtain ⟨o, rfl, h2, h3⟩ := Cx_cells h
  exact ⟨o, rfl, h2, h3⟩

end
abbrev Wn.pl (x : Wn) : PitotConf.Win := ⟨x.part, x.beg, x.long⟩
abbrev Vx.pl (x : Vx) : PitotConf.Vl := ⟨x.id, x.host, x.bag, x.smax, x.high, x.subs, x.skew, x.to⟩
abbrev Px.pl (x : Px) : PitotConf.Prt := ⟨x.id, x.host, x.part, x.kind, x.out, x.vl, x.sub, x.udp, x.size, x.depth, x.fresh⟩
/-- The network, in plain words. -/
def Cx.pl (c : Cx) : PitotConf.Cf := ⟨c.hosts, c.parts, c.major, c.wins.map Wn.pl, c.vls.map Vx.pl, c.ports.map Px.pl⟩
end Go.Proofs.Ytdphapjeohkbjaa
/- The document's small questions about a network. -/
set_option maxRecDepth 100000
namespace Go.Proofs.Ytdphapjeohkbjaa
open Go.RowKit

abbrev Cx.obj (c : Cx) : Obj := .cells #[.int .i64 c.hosts, .slice c.partsA c.parts.length c.partsc, .int .i64 c.major, .slice c.winsA c.wins.length c.winsc, .slice c.vlsA c.vls.length c.vlsc, .slice c.portsA c.ports.length c.portsc] 27
theorem host_any (c : Cx) (n : Int) (w : World) : Calls Try.prog 45 #[c.val, .int .i64 n] w fun e w' => e = .returned (.bool (PitotConf.isHost c.hosts n)) ∧ Below w.heap.size w w' := by
  have kb : Hid (Below w.heap.size w (w.alloc c.obj)) := (Below.refl _ w).alloc (Nat.le_refl _) _
  obtain ⟨R, HR⟩ : ∃ R, Hid (R = PitotConf.isHost c.hosts n) := ⟨_, rfl⟩
  rw [← HR.out]
  by_cases h1 : 0 ≤ n
  · have e1 : decide (0 ≤ n) = true := decide_eq_true h1
    by_cases h2 : n < c.hosts
    · have e2 : decide (n < c.hosts) = true := decide_eq_true h2
      have HC : Hid (R = true) := by show _ = _; rw [HR.out, PitotConf.isHost, e1, e2]; rfl
      go_enter Try.func45, Try.ntmps45
      go_wp2
      go_returns
      rw [HC.out]
      exact ⟨rfl, kb.out⟩
    · have e2 : decide (n < c.hosts) = false := decide_eq_false h2
      have HC : Hid (R = false) := by show _ = _; rw [HR.out, PitotConf.isHost, e1, e2]; rfl
      go_enter Try.func45, Try.ntmps45
      go_wp2
      go_returns
      rw [HC.out]
      exact ⟨rfl, kb.out⟩
  · have e1 : decide (0 ≤ n) = false := decide_eq_false h1
    have HC : Hid (R = false) := by show _ = _; rw [HR.out, PitotConf.isHost, e1]; rfl
    go_enter Try.func45, Try.ntmps45
    go_wp2
    go_returns
    rw [HC.out]
    exact ⟨rfl, kb.out⟩
/-- Is there such a partition? -/
def isPart (parts : List Int) (n : Int) : Bool := decide (0 ≤ n) && decide (n < (parts.length : Int))
theorem part_any (c : Cx) (n : Int) (w : World) : Calls Try.prog 66 #[c.val, .int .i64 n] w fun e w' => e = .returned (.bool (isPart c.parts n)) ∧ Below w.heap.size w w' := by
  have kb : Hid (Below w.heap.size w (w.alloc c.obj)) := (Below.refl _ w).alloc (Nat.le_refl _) _
  obtain ⟨R, HR⟩ : ∃ R, Hid (R = isPart c.parts n) := ⟨_, rfl⟩
  rw [← HR.out]
  by_cases h1 : 0 ≤ n
  · have e1 : decide (0 ≤ n) = true := decide_eq_true h1
    by_cases h2 : n < (c.parts.length : Int)
    · have e2 : decide (n < (c.parts.length : Int)) = true := decide_eq_true h2
      have HC : Hid (R = true) := by show _ = _; rw [HR.out, isPart, e1, e2]; rfl
      go_enter Try.func66, Try.ntmps66
      go_wp2
      go_returns
      rw [HC.out]
      exact ⟨rfl, kb.out⟩
    · have e2 : decide (n < (c.parts.length : Int)) = false := decide_eq_false h2
      have HC : Hid (R = false) := by show _ = _; rw [HR.out, isPart, e1, e2]; rfl
      go_enter Try.func66, Try.ntmps66
      go_wp2
      go_returns
      rw [HC.out]
      exact ⟨rfl, kb.out⟩
  · have e1 : decide (0 ≤ n) = false := decide_eq_false h1
    have HC : Hid (R = false) := by show _ = _; rw [HR.out, isPart, e1]; rfl
    go_enter Try.func66, Try.ntmps66
    go_wp2
    go_returns
    rw [HC.out]
    exact ⟨rfl, kb.out⟩
set_option maxHeartbeats 1000000 in
theorem has_any (A : Option Addr) (cap : Nat) (l : List Int) (n : Int) (w : World) (hx : IntsAt w A l) (hl : l.length ≤ maxLen) : Calls Try.prog 68 #[.slice A l.length cap, .int .i64 n] w fun e w' => e = .returned (.bool (l.contains n)) ∧ w = w' := by
  unfold maxLen at hl
  obtain ⟨m, Hm⟩ : ∃ m, Hid (l.length = m) := ⟨_, rfl⟩
  obtain ⟨R, HR⟩ : ∃ R, Hid (l.contains n = R) := ⟨_, rfl⟩
  rw [HR.out]
  rw [Hm.out] at hl ⊢
  have HX := Lib.hid hx; clear hx
  go_enter Try.func68, Try.ntmps68
  go_wp2
  go_loop [5] (fun v5 => ∃ k : Nat, k ≤ m ∧ v5 = .int .i64 k ∧ Hid ((l.drop k).contains n = R)) (fun v5 => m - (intOf v5).toNat)
  case atStart => exact ⟨0, Nat.zero_le _, rfl, HR.out⟩
  case round =>
    obtain ⟨k, hk, rfl, ht⟩ := hrel
    by_cases hkm : k < m
    · have hkl : k < l.length := by rw [Hm.out]; exact hkm
      have e1 : decide ((k : Int) < (m : Int)) = true := decide_eq_true (by omega)
      have e1' : decide (k < m) = true := decide_eq_true hkm
      obtain ⟨b, off, rfl, hb, hc⟩ := HX.out.get hkl
      have hd : (l.drop k).contains n = ((n == l[k]) || (l.drop (k + 1)).contains n) := by rw [List.drop_eq_getElem_cons hkl, List.contains_cons]
      generalize l[k] = x at hc hd
      by_cases e : x = n
      · have e2 : (x == n) = true := by simpa using e
        have HT : Hid (R = true) := by show _ = _; rw [← ht.out, hd, e]; simp
        clear hd e
        go_wp2
        go_returns
        rw [HT.out]
        exact ⟨rfl, rfl⟩
      · have e2 : (x == n) = false := by simpa using e
        have HT : Hid ((l.drop (k + 1)).contains n = R) := by
          show _ = _
          rw [← ht.out, hd, show (n == x) = false by simpa using fun h => e h.symm]; rfl
        clear hd e
        go_wp2
        go_round
        case rel => exact ⟨k + 1, by omega, by go_num, HT⟩
        case measure => simp [intOf]; omega
    · have e1 : decide ((k : Int) < (m : Int)) = false := decide_eq_false (by omega)
      have e1' : decide (k < m) = false := decide_eq_false hkm
      have HT : Hid (R = false) := by show _ = _; rw [← ht.out, List.drop_of_length_le (by rw [Hm.out]; omega)]; rfl
      go_wp2
      go_returns
      rw [HT.out]
      exact ⟨rfl, rfl⟩
set_option maxHeartbeats 2000000 in
theorem jitter_any (c : Cx) (h : Int) (w : World) (hc : c.Held w) (hl : c.vls.length ≤ 400) (hs : ∀ v ∈ c.vls, 0 ≤ v.smax ∧ v.smax ≤ 10000) : Calls Try.prog 49 #[c.val, .int .i64 h] w fun e w' => e = .returned (.int .i64 (PitotConf.jitter (c.vls.map Vx.pl) h)) ∧ Below w.heap.size w w' := by
  have kb : Hid (Below w.heap.size w (w.alloc c.obj)) := (Below.refl _ w).alloc (Nat.le_refl _) _
  have HV : Hid (VxsAt w c.vlsA c.vls) := hc.2.2.1
  obtain ⟨R, HR⟩ : ∃ R, Hid (PitotConf.jitter (c.vls.map Vx.pl) h = R) := ⟨_, rfl⟩
  rw [HR.out]
  have HS := Lib.hid hs
  clear hc hs
  obtain ⟨hosts, pA, pc, parts, major, wA, wc, wins, vA, vc, vls, qA, qc, ports⟩ := c
  simp only at HV HR HS hl ⊢
  obtain ⟨m, Hm⟩ : ∃ m, Hid (vls.length = m) := ⟨_, rfl⟩
  show Calls Try.prog 49 #[.agg #[.int .i64 hosts, .slice pA parts.length pc, .int .i64 major, .slice wA wins.length wc, .slice vA vls.length vc, .slice qA ports.length qc], .int .i64 h] w _
  rw [Hm.out] at hl ⊢
  have kb : Hid (Below w.heap.size w (w.alloc (.cells #[.int .i64 hosts, .slice pA parts.length pc, .int .i64 major, .slice wA wins.length wc, .slice vA m vc, .slice qA ports.length qc] 27))) := (Below.refl _ w).alloc (Nat.le_refl _) _
  go_enter Try.func49, Try.ntmps49
  go_wp2
  go_loop [5, 6] (fun v5 v6 => ∃ k : Nat, k ≤ m ∧ v6 = .int .i64 k ∧ v5 = .int .i64 (PitotConf.jitter ((vls.take k).map Vx.pl) h)) (fun _ v6 => m - (intOf v6).toNat)
  case atStart => exact ⟨0, Nat.zero_le _, rfl, rfl⟩
  case round =>
    obtain ⟨k, hk, rfl, rfl⟩ := hrel
    have hjl := PitotConf.jitter_le (l := (vls.take k).map Vx.pl) (fun v hv => by obtain ⟨u, hu, rfl⟩ := List.mem_map.1 hv; exact (HS.out u (List.mem_of_mem_take hu)).2) (fun v hv => by obtain ⟨u, hu, rfl⟩ := List.mem_map.1 hv; exact (HS.out u (List.mem_of_mem_take hu)).1) h
    have hlt : ((vls.take k).map Vx.pl).length ≤ 400 := by rw [List.length_map, List.length_take]; omega
    by_cases hkm : k < m
    · have hkl : k < vls.length := by rw [Hm.out]; exact hkm
      have e1 : decide ((k : Int) < (m : Int)) = true := decide_eq_true (by omega)
      have e1' : decide (k < m) = true := decide_eq_true hkm
      obtain ⟨b, off, rfl, hb, hat, _⟩ := HV.out.get hkl
      have hst : (vls.take (k + 1)).map Vx.pl = (vls.take k).map Vx.pl ++ [vls[k].pl] := by rw [List.take_succ_eq_append_getElem hkl, List.map_append]; rfl
      have hj := PitotConf.jitter_snoc ((vls.take k).map Vx.pl) vls[k].pl h
      rw [← hst] at hj
      have hsx := HS.out _ (List.getElem_mem hkl)
      generalize vls[k] = x at hat hj hsx
      have hat := hat.below kb.out hb
      obtain ⟨a0, a1, a2, a3, a4, a5, a6, a7⟩ := hat
      have HJ := Lib.hid hj
      clear hst hj
      obtain ⟨J, HJJ⟩ : ∃ J, Hid (PitotConf.jitter ((vls.take k).map Vx.pl) h = J) := ⟨_, rfl⟩
      rw [HJJ.out] at hjl ⊢
      by_cases e : x.host = h
      · have e2 : (x.host == h) = true := by simpa using e
        have HT : Hid (PitotConf.jitter ((vls.take (k + 1)).map Vx.pl) h = J + x.smax + 20) := by show _ = _; rw [HJ.out, if_pos e, HJJ.out]
        clear e
        go_wp2
        go_round
        case rel => exact ⟨k + 1, by omega, by go_num, by rw [HT.out]⟩
        case measure => simp [intOf]; omega
      · have e2 : (x.host == h) = false := by simpa using e
        have HT : Hid (PitotConf.jitter ((vls.take (k + 1)).map Vx.pl) h = J) := by show _ = _; rw [HJ.out, if_neg e, HJJ.out]
        clear e
        go_wp2
        go_round
        case rel => exact ⟨k + 1, by omega, by go_num, by rw [HT.out]⟩
        case measure => simp [intOf]; omega
    · have e1 : decide ((k : Int) < (m : Int)) = false := decide_eq_false (by omega)
      have e1' : decide (k < m) = false := decide_eq_false hkm
      have HT : Hid (PitotConf.jitter ((vls.take k).map Vx.pl) h = R) := by show _ = _; rw [List.take_of_length_le (by rw [Hm.out]; omega), HR.out]
      rw [HT.out]
      go_wp2
      go_returns
      exact ⟨rfl, kb.out⟩
end Go.Proofs.Ytdphapjeohkbjaa
/- Blocks of cells: read, stored into. -/
namespace Go.Proofs.Ytdphapjeohkbjaa
open Go.RowKit
section
variable {w w' : World} {g : Nat} {t : TypeId} {cs : Array Value}
theorem lies_lt (h : w.heap[g]? = some (.cells cs t)) : g < w.heap.size := by
  rcases Nat.lt_or_ge g w.heap.size with h1 | h1
  · exact h1
  · rw [Array.getElem?_eq_none h1] at h; cases h
theorem lies_cell (h : w.heap[g]? = some (.cells cs t)) (i : Nat) : w.cell? ⟨g, i, none⟩ = cs[i]? := by simp [World.cell?, h]
theorem lies_frozen (h : w.heap[g]? = some (.cells cs t)) (i : Nat) : w.frozen? ⟨g, i, none⟩ = false := by simp [World.frozen?, h]
theorem lies_set (h : w.heap[g]? = some (.cells cs t)) (i : Nat) (u : Value) : (w.setCell ⟨g, i, none⟩ u).heap[g]? = some (.cells (cs.setIfInBounds i u) t) := by
  simp [World.setCell, Array.getElem?_modify, h]
theorem lies_alloc (h : w.heap[g]? = some (.cells cs t)) (o : Obj) : (w.alloc o).heap[g]? = some (.cells cs t) := (Below.heap_alloc w o g (lies_lt h)).trans h
theorem lies_below {n : Nat} (h : w.heap[g]? = some (.cells cs t)) (hb : Below n w w') (hl : g < n) : w'.heap[g]? = some (.cells cs t) := (hb.block g hl).trans h
end
theorem cells_3 {w : World} {g : Nat} {t : TypeId} {x0 x1 x2 : Value} (h : w.heap[g]? = some (.cells #[x0, x1, x2] t)) : w.cell? ⟨g, 0, none⟩ = some x0 ∧ w.cell? ⟨g, 1, none⟩ = some x1 ∧ w.cell? ⟨g, 2, none⟩ = some x2 :=
  ⟨lies_cell h 0, lies_cell h 1, lies_cell h 2⟩
theorem read_3 {W : World} {g : Nat} {x0 x1 x2 y0 y1 y2 : Value} {t : TypeId} (h : W.heap[g]? = some (.cells #[x0, x1, x2] t)) :
    (W.setCell ⟨g, 0, none⟩ y0).cell? ⟨g, 0, none⟩ = some y0 ∧ ((W.setCell ⟨g, 0, none⟩ y0).setCell ⟨g, 1, none⟩ y1).cell? ⟨g, 1, none⟩ = some y1 ∧ (((W.setCell ⟨g, 0, none⟩ y0).setCell ⟨g, 1, none⟩ y1).setCell ⟨g, 2, none⟩ y2).cell? ⟨g, 2, none⟩ = some y2 ∧
    (((W.setCell ⟨g, 0, none⟩ y0).setCell ⟨g, 1, none⟩ y1).setCell ⟨g, 2, none⟩ y2).heap[g]? = some (.cells #[y0, y1, y2] t) := by
  have h0 : (W.setCell ⟨g, 0, none⟩ y0).heap[g]? = some (.cells #[y0, x1, x2] t) := lies_set h 0 _
  have h1 : ((W.setCell ⟨g, 0, none⟩ y0).setCell ⟨g, 1, none⟩ y1).heap[g]? = some (.cells #[y0, y1, x2] t) := lies_set h0 1 _
  have h2 : (((W.setCell ⟨g, 0, none⟩ y0).setCell ⟨g, 1, none⟩ y1).setCell ⟨g, 2, none⟩ y2).heap[g]? = some (.cells #[y0, y1, y2] t) := lies_set h1 2 _
  exact ⟨lies_cell h0 0, lies_cell h1 1, lies_cell h2 2, h2⟩
theorem below_3 {B g : Nat} {A X : World} (h : Below B A X) (hg : B ≤ g) (y0 y1 y2 : Value) : Below B A (((X.setCell ⟨g, 0, none⟩ y0).setCell ⟨g, 1, none⟩ y1).setCell ⟨g, 2, none⟩ y2) := by
  have e : ∀ {Y : World} (k : Nat) (v : Value), Below B A Y → Below B A (Y.setCell ⟨g, k, none⟩ v) := fun {Y} k v hY => hY.setCell (show B ≤ (⟨g, k, none⟩ : Addr).block from hg) v
  exact e _ _ (e _ _ (e _ _ (h)))
theorem cells_6 {w : World} {g : Nat} {t : TypeId} {x0 x1 x2 x3 x4 x5 : Value} (h : w.heap[g]? = some (.cells #[x0, x1, x2, x3, x4, x5] t)) : w.cell? ⟨g, 0, none⟩ = some x0 ∧ w.cell? ⟨g, 1, none⟩ = some x1 ∧ w.cell? ⟨g, 2, none⟩ = some x2 ∧ w.cell? ⟨g, 3, none⟩ = some x3 ∧ w.cell? ⟨g, 4, none⟩ = some x4 ∧ w.cell? ⟨g, 5, none⟩ = some x5 :=
  ⟨lies_cell h 0, lies_cell h 1, lies_cell h 2, lies_cell h 3, lies_cell h 4, lies_cell h 5⟩
theorem read_6 {W : World} {g : Nat} {x0 x1 x2 x3 x4 x5 y0 y1 y2 y3 y4 y5 : Value} {t : TypeId} (h : W.heap[g]? = some (.cells #[x0, x1, x2, x3, x4, x5] t)) :
    (W.setCell ⟨g, 0, none⟩ y0).cell? ⟨g, 0, none⟩ = some y0 ∧ ((W.setCell ⟨g, 0, none⟩ y0).setCell ⟨g, 1, none⟩ y1).cell? ⟨g, 1, none⟩ = some y1 ∧ (((W.setCell ⟨g, 0, none⟩ y0).setCell ⟨g, 1, none⟩ y1).setCell ⟨g, 2, none⟩ y2).cell? ⟨g, 2, none⟩ = some y2 ∧ ((((W.setCell ⟨g, 0, none⟩ y0).setCell ⟨g, 1, none⟩ y1).setCell ⟨g, 2, none⟩ y2).setCell ⟨g, 3, none⟩ y3).cell? ⟨g, 3, none⟩ = some y3 ∧ (((((W.setCell ⟨g, 0, none⟩ y0).setCell ⟨g, 1, none⟩ y1).setCell ⟨g, 2, none⟩ y2).setCell ⟨g, 3, none⟩ y3).setCell ⟨g, 4, none⟩ y4).cell? ⟨g, 4, none⟩ = some y4 ∧ ((((((W.setCell ⟨g, 0, none⟩ y0).setCell ⟨g, 1, none⟩ y1).setCell ⟨g, 2, none⟩ y2).setCell ⟨g, 3, none⟩ y3).setCell ⟨g, 4, none⟩ y4).setCell ⟨g, 5, none⟩ y5).cell? ⟨g, 5, none⟩ = some y5 ∧
    ((((((W.setCell ⟨g, 0, none⟩ y0).setCell ⟨g, 1, none⟩ y1).setCell ⟨g, 2, none⟩ y2).setCell ⟨g, 3, none⟩ y3).setCell ⟨g, 4, none⟩ y4).setCell ⟨g, 5, none⟩ y5).heap[g]? = some (.cells #[y0, y1, y2, y3, y4, y5] t) := by
  have h0 : (W.setCell ⟨g, 0, none⟩ y0).heap[g]? = some (.cells #[y0, x1, x2, x3, x4, x5] t) := lies_set h 0 _
  have h1 : ((W.setCell ⟨g, 0, none⟩ y0).setCell ⟨g, 1, none⟩ y1).heap[g]? = some (.cells #[y0, y1, x2, x3, x4, x5] t) := lies_set h0 1 _
  have h2 : (((W.setCell ⟨g, 0, none⟩ y0).setCell ⟨g, 1, none⟩ y1).setCell ⟨g, 2, none⟩ y2).heap[g]? = some (.cells #[y0, y1, y2, x3, x4, x5] t) := lies_set h1 2 _
  have h3 : ((((W.setCell ⟨g, 0, none⟩ y0).setCell ⟨g, 1, none⟩ y1).setCell ⟨g, 2, none⟩ y2).setCell ⟨g, 3, none⟩ y3).heap[g]? = some (.cells #[y0, y1, y2, y3, x4, x5] t) := lies_set h2 3 _
  have h4 : (((((W.setCell ⟨g, 0, none⟩ y0).setCell ⟨g, 1, none⟩ y1).setCell ⟨g, 2, none⟩ y2).setCell ⟨g, 3, none⟩ y3).setCell ⟨g, 4, none⟩ y4).heap[g]? = some (.cells #[y0, y1, y2, y3, y4, x5] t) := lies_set h3 4 _
  have h5 : ((((((W.setCell ⟨g, 0, none⟩ y0).setCell ⟨g, 1, none⟩ y1).setCell ⟨g, 2, none⟩ y2).setCell ⟨g, 3, none⟩ y3).setCell ⟨g, 4, none⟩ y4).setCell ⟨g, 5, none⟩ y5).heap[g]? = some (.cells #[y0, y1, y2, y3, y4, y5] t) := lies_set h4 5 _
  exact ⟨lies_cell h0 0, lies_cell h1 1, lies_cell h2 2, lies_cell h3 3, lies_cell h4 4, lies_cell h5 5, h5⟩
theorem below_6 {B g : Nat} {A X : World} (h : Below B A X) (hg : B ≤ g) (y0 y1 y2 y3 y4 y5 : Value) : Below B A ((((((X.setCell ⟨g, 0, none⟩ y0).setCell ⟨g, 1, none⟩ y1).setCell ⟨g, 2, none⟩ y2).setCell ⟨g, 3, none⟩ y3).setCell ⟨g, 4, none⟩ y4).setCell ⟨g, 5, none⟩ y5) := by
  have e : ∀ {Y : World} (k : Nat) (v : Value), Below B A Y → Below B A (Y.setCell ⟨g, k, none⟩ v) := fun {Y} k v hY => hY.setCell (show B ≤ (⟨g, k, none⟩ : Addr).block from hg) v
  exact e _ _ (e _ _ (e _ _ (e _ _ (e _ _ (e _ _ (h))))))
theorem cells_8 {w : World} {g : Nat} {t : TypeId} {x0 x1 x2 x3 x4 x5 x6 x7 : Value} (h : w.heap[g]? = some (.cells #[x0, x1, x2, x3, x4, x5, x6, x7] t)) : w.cell? ⟨g, 0, none⟩ = some x0 ∧ w.cell? ⟨g, 1, none⟩ = some x1 ∧ w.cell? ⟨g, 2, none⟩ = some x2 ∧ w.cell? ⟨g, 3, none⟩ = some x3 ∧ w.cell? ⟨g, 4, none⟩ = some x4 ∧ w.cell? ⟨g, 5, none⟩ = some x5 ∧ w.cell? ⟨g, 6, none⟩ = some x6 ∧ w.cell? ⟨g, 7, none⟩ = some x7 :=
  ⟨lies_cell h 0, lies_cell h 1, lies_cell h 2, lies_cell h 3, lies_cell h 4, lies_cell h 5, lies_cell h 6, lies_cell h 7⟩
theorem read_8 {W : World} {g : Nat} {x0 x1 x2 x3 x4 x5 x6 x7 y0 y1 y2 y3 y4 y5 y6 y7 : Value} {t : TypeId} (h : W.heap[g]? = some (.cells #[x0, x1, x2, x3, x4, x5, x6, x7] t)) :
    (W.setCell ⟨g, 0, none⟩ y0).cell? ⟨g, 0, none⟩ = some y0 ∧ ((W.setCell ⟨g, 0, none⟩ y0).setCell ⟨g, 1, none⟩ y1).cell? ⟨g, 1, none⟩ = some y1 ∧ (((W.setCell ⟨g, 0, none⟩ y0).setCell ⟨g, 1, none⟩ y1).setCell ⟨g, 2, none⟩ y2).cell? ⟨g, 2, none⟩ = some y2 ∧ ((((W.setCell ⟨g, 0, none⟩ y0).setCell ⟨g, 1, none⟩ y1).setCell ⟨g, 2, none⟩ y2).setCell ⟨g, 3, none⟩ y3).cell? ⟨g, 3, none⟩ = some y3 ∧ (((((W.setCell ⟨g, 0, none⟩ y0).setCell ⟨g, 1, none⟩ y1).setCell ⟨g, 2, none⟩ y2).setCell ⟨g, 3, none⟩ y3).setCell ⟨g, 4, none⟩ y4).cell? ⟨g, 4, none⟩ = some y4 ∧ ((((((W.setCell ⟨g, 0, none⟩ y0).setCell ⟨g, 1, none⟩ y1).setCell ⟨g, 2, none⟩ y2).setCell ⟨g, 3, none⟩ y3).setCell ⟨g, 4, none⟩ y4).setCell ⟨g, 5, none⟩ y5).cell? ⟨g, 5, none⟩ = some y5 ∧ (((((((W.setCell ⟨g, 0, none⟩ y0).setCell ⟨g, 1, none⟩ y1).setCell ⟨g, 2, none⟩ y2).setCell ⟨g, 3, none⟩ y3).setCell ⟨g, 4, none⟩ y4).setCell ⟨g, 5, none⟩ y5).setCell ⟨g, 6, none⟩ y6).cell? ⟨g, 6, none⟩ = some y6 ∧ ((((((((W.setCell ⟨g, 0, none⟩ y0).setCell ⟨g, 1, none⟩ y1).setCell ⟨g, 2, none⟩ y2).setCell ⟨g, 3, none⟩ y3).setCell ⟨g, 4, none⟩ y4).setCell ⟨g, 5, none⟩ y5).setCell ⟨g, 6, none⟩ y6).setCell ⟨g, 7, none⟩ y7).cell? ⟨g, 7, none⟩ = some y7 ∧
    ((((((((W.setCell ⟨g, 0, none⟩ y0).setCell ⟨g, 1, none⟩ y1).setCell ⟨g, 2, none⟩ y2).setCell ⟨g, 3, none⟩ y3).setCell ⟨g, 4, none⟩ y4).setCell ⟨g, 5, none⟩ y5).setCell ⟨g, 6, none⟩ y6).setCell ⟨g, 7, none⟩ y7).heap[g]? = some (.cells #[y0, y1, y2, y3, y4, y5, y6, y7] t) := by
  have h0 : (W.setCell ⟨g, 0, none⟩ y0).heap[g]? = some (.cells #[y0, x1, x2, x3, x4, x5, x6, x7] t) := lies_set h 0 _
  have h1 : ((W.setCell ⟨g, 0, none⟩ y0).setCell ⟨g, 1, none⟩ y1).heap[g]? = some (.cells #[y0, y1, x2, x3, x4, x5, x6, x7] t) := lies_set h0 1 _
  have h2 : (((W.setCell ⟨g, 0, none⟩ y0).setCell ⟨g, 1, none⟩ y1).setCell ⟨g, 2, none⟩ y2).heap[g]? = some (.cells #[y0, y1, y2, x3, x4, x5, x6, x7] t) := lies_set h1 2 _
  have h3 : ((((W.setCell ⟨g, 0, none⟩ y0).setCell ⟨g, 1, none⟩ y1).setCell ⟨g, 2, none⟩ y2).setCell ⟨g, 3, none⟩ y3).heap[g]? = some (.cells #[y0, y1, y2, y3, x4, x5, x6, x7] t) := lies_set h2 3 _
  have h4 : (((((W.setCell ⟨g, 0, none⟩ y0).setCell ⟨g, 1, none⟩ y1).setCell ⟨g, 2, none⟩ y2).setCell ⟨g, 3, none⟩ y3).setCell ⟨g, 4, none⟩ y4).heap[g]? = some (.cells #[y0, y1, y2, y3, y4, x5, x6, x7] t) := lies_set h3 4 _
  have h5 : ((((((W.setCell ⟨g, 0, none⟩ y0).setCell ⟨g, 1, none⟩ y1).setCell ⟨g, 2, none⟩ y2).setCell ⟨g, 3, none⟩ y3).setCell ⟨g, 4, none⟩ y4).setCell ⟨g, 5, none⟩ y5).heap[g]? = some (.cells #[y0, y1, y2, y3, y4, y5, x6, x7] t) := lies_set h4 5 _
  have h6 : (((((((W.setCell ⟨g, 0, none⟩ y0).setCell ⟨g, 1, none⟩ y1).setCell ⟨g, 2, none⟩ y2).setCell ⟨g, 3, none⟩ y3).setCell ⟨g, 4, none⟩ y4).setCell ⟨g, 5, none⟩ y5).setCell ⟨g, 6, none⟩ y6).heap[g]? = some (.cells #[y0, y1, y2, y3, y4, y5, y6, x7] t) := lies_set h5 6 _
  have h7 : ((((((((W.setCell ⟨g, 0, none⟩ y0).setCell ⟨g, 1, none⟩ y1).setCell ⟨g, 2, none⟩ y2).setCell ⟨g, 3, none⟩ y3).setCell ⟨g, 4, none⟩ y4).setCell ⟨g, 5, none⟩ y5).setCell ⟨g, 6, none⟩ y6).setCell ⟨g, 7, none⟩ y7).heap[g]? = some (.cells #[y0, y1, y2, y3, y4, y5, y6, y7] t) := lies_set h6 7 _
  exact ⟨lies_cell h0 0, lies_cell h1 1, lies_cell h2 2, lies_cell h3 3, lies_cell h4 4, lies_cell h5 5, lies_cell h6 6, lies_cell h7 7, h7⟩
theorem below_8 {B g : Nat} {A X : World} (h : Below B A X) (hg : B ≤ g) (y0 y1 y2 y3 y4 y5 y6 y7 : Value) : Below B A ((((((((X.setCell ⟨g, 0, none⟩ y0).setCell ⟨g, 1, none⟩ y1).setCell ⟨g, 2, none⟩ y2).setCell ⟨g, 3, none⟩ y3).setCell ⟨g, 4, none⟩ y4).setCell ⟨g, 5, none⟩ y5).setCell ⟨g, 6, none⟩ y6).setCell ⟨g, 7, none⟩ y7) := by
  have e : ∀ {Y : World} (k : Nat) (v : Value), Below B A Y → Below B A (Y.setCell ⟨g, k, none⟩ v) := fun {Y} k v hY => hY.setCell (show B ≤ (⟨g, k, none⟩ : Addr).block from hg) v
  exact e _ _ (e _ _ (e _ _ (e _ _ (e _ _ (e _ _ (e _ _ (e _ _ (h))))))))
theorem cells_11 {w : World} {g : Nat} {t : TypeId} {x0 x1 x2 x3 x4 x5 x6 x7 x8 x9 x10 : Value} (h : w.heap[g]? = some (.cells #[x0, x1, x2, x3, x4, x5, x6, x7, x8, x9, x10] t)) : w.cell? ⟨g, 0, none⟩ = some x0 ∧ w.cell? ⟨g, 1, none⟩ = some x1 ∧ w.cell? ⟨g, 2, none⟩ = some x2 ∧ w.cell? ⟨g, 3, none⟩ = some x3 ∧ w.cell? ⟨g, 4, none⟩ = some x4 ∧ w.cell? ⟨g, 5, none⟩ = some x5 ∧ w.cell? ⟨g, 6, none⟩ = some x6 ∧ w.cell? ⟨g, 7, none⟩ = some x7 ∧ w.cell? ⟨g, 8, none⟩ = some x8 ∧ w.cell? ⟨g, 9, none⟩ = some x9 ∧ w.cell? ⟨g, 10, none⟩ = some x10 :=
  ⟨lies_cell h 0, lies_cell h 1, lies_cell h 2, lies_cell h 3, lies_cell h 4, lies_cell h 5, lies_cell h 6, lies_cell h 7, lies_cell h 8, lies_cell h 9, lies_cell h 10⟩
theorem read_11 {W : World} {g : Nat} {x0 x1 x2 x3 x4 x5 x6 x7 x8 x9 x10 y0 y1 y2 y3 y4 y5 y6 y7 y8 y9 y10 : Value} {t : TypeId} (h : W.heap[g]? = some (.cells #[x0, x1, x2, x3, x4, x5, x6, x7, x8, x9, x10] t)) :
    (W.setCell ⟨g, 0, none⟩ y0).cell? ⟨g, 0, none⟩ = some y0 ∧ ((W.setCell ⟨g, 0, none⟩ y0).setCell ⟨g, 1, none⟩ y1).cell? ⟨g, 1, none⟩ = some y1 ∧ (((W.setCell ⟨g, 0, none⟩ y0).setCell ⟨g, 1, none⟩ y1).setCell ⟨g, 2, none⟩ y2).cell? ⟨g, 2, none⟩ = some y2 ∧ ((((W.setCell ⟨g, 0, none⟩ y0).setCell ⟨g, 1, none⟩ y1).setCell ⟨g, 2, none⟩ y2).setCell ⟨g, 3, none⟩ y3).cell? ⟨g, 3, none⟩ = some y3 ∧ (((((W.setCell ⟨g, 0, none⟩ y0).setCell ⟨g, 1, none⟩ y1).setCell ⟨g, 2, none⟩ y2).setCell ⟨g, 3, none⟩ y3).setCell ⟨g, 4, none⟩ y4).cell? ⟨g, 4, none⟩ = some y4 ∧ ((((((W.setCell ⟨g, 0, none⟩ y0).setCell ⟨g, 1, none⟩ y1).setCell ⟨g, 2, none⟩ y2).setCell ⟨g, 3, none⟩ y3).setCell ⟨g, 4, none⟩ y4).setCell ⟨g, 5, none⟩ y5).cell? ⟨g, 5, none⟩ = some y5 ∧ (((((((W.setCell ⟨g, 0, none⟩ y0).setCell ⟨g, 1, none⟩ y1).setCell ⟨g, 2, none⟩ y2).setCell ⟨g, 3, none⟩ y3).setCell ⟨g, 4, none⟩ y4).setCell ⟨g, 5, none⟩ y5).setCell ⟨g, 6, none⟩ y6).cell? ⟨g, 6, none⟩ = some y6 ∧ ((((((((W.setCell ⟨g, 0, none⟩ y0).setCell ⟨g, 1, none⟩ y1).setCell ⟨g, 2, none⟩ y2).setCell ⟨g, 3, none⟩ y3).setCell ⟨g, 4, none⟩ y4).setCell ⟨g, 5, none⟩ y5).setCell ⟨g, 6, none⟩ y6).setCell ⟨g, 7, none⟩ y7).cell? ⟨g, 7, none⟩ = some y7 ∧ (((((((((W.setCell ⟨g, 0, none⟩ y0).setCell ⟨g, 1, none⟩ y1).setCell ⟨g, 2, none⟩ y2).setCell ⟨g, 3, none⟩ y3).setCell ⟨g, 4, none⟩ y4).setCell ⟨g, 5, none⟩ y5).setCell ⟨g, 6, none⟩ y6).setCell ⟨g, 7, none⟩ y7).setCell ⟨g, 8, none⟩ y8).cell? ⟨g, 8, none⟩ = some y8 ∧ ((((((((((W.setCell ⟨g, 0, none⟩ y0).setCell ⟨g, 1, none⟩ y1).setCell ⟨g, 2, none⟩ y2).setCell ⟨g, 3, none⟩ y3).setCell ⟨g, 4, none⟩ y4).setCell ⟨g, 5, none⟩ y5).setCell ⟨g, 6, none⟩ y6).setCell ⟨g, 7, none⟩ y7).setCell ⟨g, 8, none⟩ y8).setCell ⟨g, 9, none⟩ y9).cell? ⟨g, 9, none⟩ = some y9 ∧ (((((((((((W.setCell ⟨g, 0, none⟩ y0).setCell ⟨g, 1, none⟩ y1).setCell ⟨g, 2, none⟩ y2).setCell ⟨g, 3, none⟩ y3).setCell ⟨g, 4, none⟩ y4).setCell ⟨g, 5, none⟩ y5).setCell ⟨g, 6, none⟩ y6).setCell ⟨g, 7, none⟩ y7).setCell ⟨g, 8, none⟩ y8).setCell ⟨g, 9, none⟩ y9).setCell ⟨g, 10, none⟩ y10).cell? ⟨g, 10, none⟩ = some y10 ∧
    (((((((((((W.setCell ⟨g, 0, none⟩ y0).setCell ⟨g, 1, none⟩ y1).setCell ⟨g, 2, none⟩ y2).setCell ⟨g, 3, none⟩ y3).setCell ⟨g, 4, none⟩ y4).setCell ⟨g, 5, none⟩ y5).setCell ⟨g, 6, none⟩ y6).setCell ⟨g, 7, none⟩ y7).setCell ⟨g, 8, none⟩ y8).setCell ⟨g, 9, none⟩ y9).setCell ⟨g, 10, none⟩ y10).heap[g]? = some (.cells #[y0, y1, y2, y3, y4, y5, y6, y7, y8, y9, y10] t) := by
  have h0 : (W.setCell ⟨g, 0, none⟩ y0).heap[g]? = some (.cells #[y0, x1, x2, x3, x4, x5, x6, x7, x8, x9, x10] t) := lies_set h 0 _
  have h1 : ((W.setCell ⟨g, 0, none⟩ y0).setCell ⟨g, 1, none⟩ y1).heap[g]? = some (.cells #[y0, y1, x2, x3, x4, x5, x6, x7, x8, x9, x10] t) := lies_set h0 1 _
  have h2 : (((W.setCell ⟨g, 0, none⟩ y0).setCell ⟨g, 1, none⟩ y1).setCell ⟨g, 2, none⟩ y2).heap[g]? = some (.cells #[y0, y1, y2, x3, x4, x5, x6, x7, x8, x9, x10] t) := lies_set h1 2 _
  have h3 : ((((W.setCell ⟨g, 0, none⟩ y0).setCell ⟨g, 1, none⟩ y1).setCell ⟨g, 2, none⟩ y2).setCell ⟨g, 3, none⟩ y3).heap[g]? = some (.cells #[y0, y1, y2, y3, x4, x5, x6, x7, x8, x9, x10] t) := lies_set h2 3 _
  have h4 : (((((W.setCell ⟨g, 0, none⟩ y0).setCell ⟨g, 1, none⟩ y1).setCell ⟨g, 2, none⟩ y2).setCell ⟨g, 3, none⟩ y3).setCell ⟨g, 4, none⟩ y4).heap[g]? = some (.cells #[y0, y1, y2, y3, y4, x5, x6, x7, x8, x9, x10] t) := lies_set h3 4 _
  have h5 : ((((((W.setCell ⟨g, 0, none⟩ y0).setCell ⟨g, 1, none⟩ y1).setCell ⟨g, 2, none⟩ y2).setCell ⟨g, 3, none⟩ y3).setCell ⟨g, 4, none⟩ y4).setCell ⟨g, 5, none⟩ y5).heap[g]? = some (.cells #[y0, y1, y2, y3, y4, y5, x6, x7, x8, x9, x10] t) := lies_set h4 5 _
  have h6 : (((((((W.setCell ⟨g, 0, none⟩ y0).setCell ⟨g, 1, none⟩ y1).setCell ⟨g, 2, none⟩ y2).setCell ⟨g, 3, none⟩ y3).setCell ⟨g, 4, none⟩ y4).setCell ⟨g, 5, none⟩ y5).setCell ⟨g, 6, none⟩ y6).heap[g]? = some (.cells #[y0, y1, y2, y3, y4, y5, y6, x7, x8, x9, x10] t) := lies_set h5 6 _
  have h7 : ((((((((W.setCell ⟨g, 0, none⟩ y0).setCell ⟨g, 1, none⟩ y1).setCell ⟨g, 2, none⟩ y2).setCell ⟨g, 3, none⟩ y3).setCell ⟨g, 4, none⟩ y4).setCell ⟨g, 5, none⟩ y5).setCell ⟨g, 6, none⟩ y6).setCell ⟨g, 7, none⟩ y7).heap[g]? = some (.cells #[y0, y1, y2, y3, y4, y5, y6, y7, x8, x9, x10] t) := lies_set h6 7 _
  have h8 : (((((((((W.setCell ⟨g, 0, none⟩ y0).setCell ⟨g, 1, none⟩ y1).setCell ⟨g, 2, none⟩ y2).setCell ⟨g, 3, none⟩ y3).setCell ⟨g, 4, none⟩ y4).setCell ⟨g, 5, none⟩ y5).setCell ⟨g, 6, none⟩ y6).setCell ⟨g, 7, none⟩ y7).setCell ⟨g, 8, none⟩ y8).heap[g]? = some (.cells #[y0, y1, y2, y3, y4, y5, y6, y7, y8, x9, x10] t) := lies_set h7 8 _
  have h9 : ((((((((((W.setCell ⟨g, 0, none⟩ y0).setCell ⟨g, 1, none⟩ y1).setCell ⟨g, 2, none⟩ y2).setCell ⟨g, 3, none⟩ y3).setCell ⟨g, 4, none⟩ y4).setCell ⟨g, 5, none⟩ y5).setCell ⟨g, 6, none⟩ y6).setCell ⟨g, 7, none⟩ y7).setCell ⟨g, 8, none⟩ y8).setCell ⟨g, 9, none⟩ y9).heap[g]? = some (.cells #[y0, y1, y2, y3, y4, y5, y6, y7, y8, y9, x10] t) := lies_set h8 9 _
  have h10 : (((((((((((W.setCell ⟨g, 0, none⟩ y0).setCell ⟨g, 1, none⟩ y1).setCell ⟨g, 2, none⟩ y2).setCell ⟨g, 3, none⟩ y3).setCell ⟨g, 4, none⟩ y4).setCell ⟨g, 5, none⟩ y5).setCell ⟨g, 6, none⟩ y6).setCell ⟨g, 7, none⟩ y7).setCell ⟨g, 8, none⟩ y8).setCell ⟨g, 9, none⟩ y9).setCell ⟨g, 10, none⟩ y10).heap[g]? = some (.cells #[y0, y1, y2, y3, y4, y5, y6, y7, y8, y9, y10] t) := lies_set h9 10 _
  exact ⟨lies_cell h0 0, lies_cell h1 1, lies_cell h2 2, lies_cell h3 3, lies_cell h4 4, lies_cell h5 5, lies_cell h6 6, lies_cell h7 7, lies_cell h8 8, lies_cell h9 9, lies_cell h10 10, h10⟩
theorem below_11 {B g : Nat} {A X : World} (h : Below B A X) (hg : B ≤ g) (y0 y1 y2 y3 y4 y5 y6 y7 y8 y9 y10 : Value) : Below B A (((((((((((X.setCell ⟨g, 0, none⟩ y0).setCell ⟨g, 1, none⟩ y1).setCell ⟨g, 2, none⟩ y2).setCell ⟨g, 3, none⟩ y3).setCell ⟨g, 4, none⟩ y4).setCell ⟨g, 5, none⟩ y5).setCell ⟨g, 6, none⟩ y6).setCell ⟨g, 7, none⟩ y7).setCell ⟨g, 8, none⟩ y8).setCell ⟨g, 9, none⟩ y9).setCell ⟨g, 10, none⟩ y10) := by
  have e : ∀ {Y : World} (k : Nat) (v : Value), Below B A Y → Below B A (Y.setCell ⟨g, k, none⟩ v) := fun {Y} k v hY => hY.setCell (show B ≤ (⟨g, k, none⟩ : Addr).block from hg) v
  exact e _ _ (e _ _ (e _ _ (e _ _ (e _ _ (e _ _ (e _ _ (e _ _ (e _ _ (e _ _ (e _ _ (h)))))))))))
end Go.Proofs.Ytdphapjeohkbjaa
/- The program's small questions about a network. -/
set_option maxRecDepth 100000
namespace Go.Proofs.Ytdphapjeohkbjaa
open Go.RowKit

/-- Is a number from one to another one? -/
theorem within_any (n a b : Int) (w : World) : Calls Try.prog 51 #[.int .i64 n, .int .i64 a, .int .i64 b] w fun e w' => e = .returned (.bool (decide (a ≤ n) && decide (n ≤ b))) ∧ w = w' := by
  by_cases h1 : a ≤ n
  · have e1 : decide (a ≤ n) = true := decide_eq_true h1
    by_cases h2 : n ≤ b
    · have e2 : decide (n ≤ b) = true := decide_eq_true h2
      go_enter Try.func51, Try.ntmps51
      go_wp2
      go_returns
      (try rw [e1, e2]); exact ⟨rfl, rfl⟩
    · have e2 : decide (n ≤ b) = false := decide_eq_false h2
      go_enter Try.func51, Try.ntmps51
      go_wp2
      go_returns
      exact ⟨rfl, rfl⟩
  · have e1 : decide (a ≤ n) = false := decide_eq_false h1
    go_enter Try.func51, Try.ntmps51
    go_wp2
    go_returns
    exact ⟨rfl, rfl⟩
theorem isHost_any (hosts major : Int) (pA wA vA qA : Option Addr) (pl pc wl wk vl vc ql qc : Nat) (n : Int) (w : World) (h0 : -9223372036854775807 ≤ hosts) (h1 : hosts ≤ 9223372036854775807) : Calls Try.prog 52 #[.agg #[.int .i64 hosts, .slice pA pl pc, .int .i64 major, .slice wA wl wk, .slice vA vl vc, .slice qA ql qc], .int .i64 n] w fun e w' => e = .returned (.bool (PitotConf.isHost hosts n)) ∧ Below w.heap.size w w' := by
  have kb : Hid (Below w.heap.size w (w.alloc (.cells #[.int .i64 hosts, .slice pA pl pc, .int .i64 major, .slice wA wl wk, .slice vA vl vc, .slice qA ql qc] 27))) := (Below.refl _ w).alloc (Nat.le_refl _) _
  have HW := fun w => within_any n 0 (hosts - 1) w
  have hE : (decide (0 ≤ n) && decide (n ≤ hosts - 1)) = PitotConf.isHost hosts n := by
    rw [PitotConf.isHost]; congr 1; exact decide_eq_decide.2 ⟨fun h => by omega, fun h => by omega⟩
  rw [hE] at HW
  have HW := Lib.hid HW
  clear hE
  go_enter Try.func52, Try.ntmps52
  go_wp2_with (go_at_call 51; (with_reducible refine (HW.out _).mono ?_); rintro e w2 ⟨rfl, rfl⟩)
  go_returns
  exact ⟨rfl, kb.out⟩
theorem isPart_any (hosts major : Int) (pA wA vA qA : Option Addr) (pl pc wl wk vl vc ql qc : Nat) (n : Int) (w : World) (h1 : pl ≤ maxLen) : Calls Try.prog 71 #[.agg #[.int .i64 hosts, .slice pA pl pc, .int .i64 major, .slice wA wl wk, .slice vA vl vc, .slice qA ql qc], .int .i64 n] w fun e w' => e = .returned (.bool (decide (0 ≤ n) && decide (n < (pl : Int)))) ∧ Below w.heap.size w w' := by
  unfold maxLen at h1
  have kb : Hid (Below w.heap.size w (w.alloc (.cells #[.int .i64 hosts, .slice pA pl pc, .int .i64 major, .slice wA wl wk, .slice vA vl vc, .slice qA ql qc] 27))) := (Below.refl _ w).alloc (Nat.le_refl _) _
  have HW := fun w => within_any n 0 ((pl : Int) - 1) w
  have hE : (decide (0 ≤ n) && decide (n ≤ (pl : Int) - 1)) = (decide (0 ≤ n) && decide (n < (pl : Int))) := by
    congr 1; exact decide_eq_decide.2 ⟨fun h => by omega, fun h => by omega⟩
  rw [hE] at HW
  have HW := Lib.hid HW
  clear hE
  go_enter Try.func71, Try.ntmps71
  go_wp2_with (go_at_call 51; (with_reducible refine (HW.out _).mono ?_); rintro e w2 ⟨rfl, rfl⟩)
  go_returns
  exact ⟨rfl, kb.out⟩
theorem judgeHosts_any (hosts major : Int) (pA wA vA qA : Option Addr) (pl pc wl wk vl vc ql qc : Nat) (w : World) : Calls Try.prog 20 #[.agg #[.int .i64 hosts, .slice pA pl pc, .int .i64 major, .slice wA wl wk, .slice vA vl vc, .slice qA ql qc]] w fun e w' => e = .returned (.tuple #[.int .i64 0, .int .i64 (if hosts < 1 ∨ 64 < hosts then 1 else 0)]) ∧ Below w.heap.size w w' := by
  have kb : Hid (Below w.heap.size w (w.alloc (.cells #[.int .i64 hosts, .slice pA pl pc, .int .i64 major, .slice wA wl wk, .slice vA vl vc, .slice qA ql qc] 27))) := (Below.refl _ w).alloc (Nat.le_refl _) _
  have HW := fun w => within_any hosts 1 64 w
  by_cases h : hosts < 1 ∨ 64 < hosts
  · rw [if_pos h]
    have e1 : (decide (1 ≤ hosts) && decide (hosts ≤ 64)) = false := by
      rw [Bool.and_eq_false_iff, decide_eq_false_iff_not, decide_eq_false_iff_not]; omega
    rw [e1] at HW
    have HW := Lib.hid HW
    clear e1 h
    go_enter Try.func20, Try.ntmps20
    go_wp2_with (go_at_call 51; (with_reducible refine (HW.out _).mono ?_); rintro e w2 ⟨rfl, rfl⟩)
    go_returns
    exact ⟨rfl, kb.out⟩
  · rw [if_neg h]
    have e1 : (decide (1 ≤ hosts) && decide (hosts ≤ 64)) = true := by
      rw [Bool.and_eq_true, decide_eq_true_eq, decide_eq_true_eq]; omega
    rw [e1] at HW
    have HW := Lib.hid HW
    clear e1 h
    go_enter Try.func20, Try.ntmps20
    go_wp2_with (go_at_call 51; (with_reducible refine (HW.out _).mono ?_); rintro e w2 ⟨rfl, rfl⟩)
    go_returns
    exact ⟨rfl, kb.out⟩
theorem judgeFrame_any (hosts major : Int) (pA wA vA qA : Option Addr) (pl pc wl wk vl vc ql qc : Nat) (w : World) : Calls Try.prog 22 #[.agg #[.int .i64 hosts, .slice pA pl pc, .int .i64 major, .slice wA wl wk, .slice vA vl vc, .slice qA ql qc]] w fun e w' => e = .returned (.tuple #[.int .i64 0, .int .i64 (if major < 1 ∨ 1073741824 < major then 1 else 0)]) ∧ Below w.heap.size w w' := by
  have kb : Hid (Below w.heap.size w (w.alloc (.cells #[.int .i64 hosts, .slice pA pl pc, .int .i64 major, .slice wA wl wk, .slice vA vl vc, .slice qA ql qc] 27))) := (Below.refl _ w).alloc (Nat.le_refl _) _
  have HW := fun w => within_any major 1 1073741824 w
  by_cases h : major < 1 ∨ 1073741824 < major
  · rw [if_pos h]
    have e1 : (decide (1 ≤ major) && decide (major ≤ 1073741824)) = false := by
      rw [Bool.and_eq_false_iff, decide_eq_false_iff_not, decide_eq_false_iff_not]; omega
    rw [e1] at HW
    have HW := Lib.hid HW
    clear e1 h
    go_enter Try.func22, Try.ntmps22
    go_wp2_with (go_at_call 51; (with_reducible refine (HW.out _).mono ?_); rintro e w2 ⟨rfl, rfl⟩)
    go_returns
    exact ⟨rfl, kb.out⟩
  · rw [if_neg h]
    have e1 : (decide (1 ≤ major) && decide (major ≤ 1073741824)) = true := by
      rw [Bool.and_eq_true, decide_eq_true_eq, decide_eq_true_eq]; omega
    rw [e1] at HW
    have HW := Lib.hid HW
    clear e1 h
    go_enter Try.func22, Try.ntmps22
    go_wp2_with (go_at_call 51; (with_reducible refine (HW.out _).mono ?_); rintro e w2 ⟨rfl, rfl⟩)
    go_returns
    exact ⟨rfl, kb.out⟩
end Go.Proofs.Ytdphapjeohkbjaa
