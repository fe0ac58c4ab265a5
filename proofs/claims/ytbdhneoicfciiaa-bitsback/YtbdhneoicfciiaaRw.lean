/- Contracts of the document's Writer: Put, Text, Bits, Bytes. -/
import Derived.Test.YtbdhneoicfciiaaRef
import Derived.Deep.RegionHeld3
namespace Go.Proofs.Ytbdhneoicfciiaa
open Go.RowKit Go.Proofs.PitotMath

/-- The document's Writer in block r. -/
def PlAt (w : World) (r : Nat) : Option (List UInt8) → Prop
  | none => ∃ s, w.heap[r]? = some (.cells #[.string s, .bool true] 31)
  | some l => w.heap[r]? = some (.cells #[.string ⟨l.toArray⟩, .bool false] 31)

theorem PlAt.keep {w w' : World} {r : Nat} {st : Option (List UInt8)} (h : PlAt w r st) (hk : ∀ k, k < w.heap.size → w'.heap[k]? = w.heap[k]?) : PlAt w' r st := by
  match st, h with
  | none, ⟨s, h⟩ => exact ⟨s, (hk r (lies_lt h)).trans h⟩
  | some l, h => exact (hk r (lies_lt (w := w) h)).trans h

theorem PlAt.lt {w : World} {r : Nat} {st : Option (List UInt8)} (h : PlAt w r st) : r < w.heap.size := by
  match st, h with
  | none, ⟨s, h⟩ => exact lies_lt h
  | some l, h => exact lies_lt (w := w) h

theorem cat_lists (a b : List UInt8) : (⟨a.toArray⟩ : ByteArray) ++ (⟨b.toArray⟩ : ByteArray) = ⟨(a ++ b).toArray⟩ := by
  apply ByteArray.ext; simp

set_option maxHeartbeats 400000 in
theorem ptext_any (r : Nat) (st : Option (List UInt8)) (s : ByteArray) (w : World) (h : PlAt w r st) (h1 : ∀ l, st = some l → l.length ≤ 1000000) (h2 : s.size ≤ 1000000) :
    Calls Try.prog 33 #[.pointer (some ⟨r, 0, none⟩), .string s] w fun e w' => e = .returned (.tuple #[]) ∧ PlAt w' r (st.map (· ++ s.data.toList)) ∧ w.grownBy w' (some r) := by
  match st, h with
  | none, ⟨t, h⟩ =>
    have c1 : w.cell? ⟨r, 1, none⟩ = some (.bool true) := lies_cell h 1
    have H := Lib.hid h; clear h h1
    go_enter Try.func33, Try.ntmps33
    go_wp2
    go_returns
    exact ⟨rfl, ⟨t, H.out⟩, World.grownBy.refl w _⟩
  | some l, h =>
    have hl := h1 l rfl
    obtain ⟨t, Ht⟩ : ∃ t : ByteArray, Hid (t = ⟨l.toArray⟩) := ⟨_, rfl⟩
    have hts : t.size ≤ 1000000 := by rw [Ht.out]; show l.toArray.size ≤ _; simpa using hl
    have c0 : w.cell? ⟨r, 0, none⟩ = some (.string t) := by rw [Ht.out]; exact lies_cell (w := w) h 0
    have c1 : w.cell? ⟨r, 1, none⟩ = some (.bool false) := lies_cell (w := w) h 1
    have f0 : w.frozen? ⟨r, 0, none⟩ = false := lies_frozen (w := w) h 0
    have H := Lib.hid h; clear h h1 hl
    go_enter Try.func33, Try.ntmps33
    go_wp2
    go_returns
    refine ⟨rfl, ?_, grown_set r 0 _⟩
    have hh := lies_set (w := w) H.out 0 (.string (t ++ s))
    have e : t ++ s = ⟨(l ++ s.data.toList).toArray⟩ := by rw [Ht.out]; apply ByteArray.ext; simp
    rw [e] at hh ⊢
    exact hh

set_option maxHeartbeats 400000 in
theorem pbytes_none (r : Nat) (w : World) (h : PlAt w r none) : Calls Try.prog 14 #[.pointer (some ⟨r, 0, none⟩)] w fun e w' => e = .returned (.tuple #[.string ⟨#[]⟩, .int .i64 1]) ∧ w = w' := by
  obtain ⟨t, h⟩ := h
  have c1 : w.cell? ⟨r, 1, none⟩ = some (.bool true) := lies_cell h 1
  clear h
  go_enter Try.func14, Try.ntmps14
  go_wp2
  go_returns
  exact ⟨rfl, rfl⟩

set_option maxHeartbeats 400000 in
theorem pbytes_some (r : Nat) (l : List UInt8) (w : World) (h : PlAt w r (some l)) : Calls Try.prog 14 #[.pointer (some ⟨r, 0, none⟩)] w fun e w' => e = .returned (.tuple #[.string ⟨l.toArray⟩, .int .i64 0]) ∧ w = w' := by
  have c0 : w.cell? ⟨r, 0, none⟩ = some (.string ⟨l.toArray⟩) := lies_cell (w := w) h 0
  have c1 : w.cell? ⟨r, 1, none⟩ = some (.bool false) := lies_cell (w := w) h 1
  clear h
  go_enter Try.func14, Try.ntmps14
  go_wp2
  go_returns
  exact ⟨rfl, rfl⟩

set_option maxHeartbeats 1000000 in
theorem pput_any (r : Nat) (st : Option (List UInt8)) (m : Nat) (v : Int) (w : World) (hm : m = 1 ∨ m = 2 ∨ m = 4) (h : PlAt w r st) (h1 : ∀ l, st = some l → l.length ≤ 1000000) :
    Calls Try.prog 32 #[.pointer (some ⟨r, 0, none⟩), .int .i64 v, .int .i64 m] w fun e w' => e = .returned (.tuple #[]) ∧ PlAt w' r (putStep st m v) ∧ w.grownBy w' (some r) := by
  have hm4 : m ≤ 4 := by omega
  have e8 : (8 * (m : Int)) = ((8 * m : Nat) : Int) := by simp
  have hput : Hid (putStep st m v = if fitsB v ((8 * m : Nat) : Int) = true then st.map (· ++ be m v.toNat) else none) := by show _ = _; unfold putStep; rw [e8]
  have HE := Lib.hid e8; clear e8
  cases hf : fitsB v ((8 * m : Nat) : Int) with
  | false =>
    have hp : Hid (putStep st m v = none) := by show _ = _; rw [hput.out, hf]; rfl
    clear hput
    obtain ⟨s, b, hb⟩ : ∃ s b, w.heap[r]? = some (.cells #[.string s, .bool b] 31) := by
      match st, h with
      | none, ⟨s, h⟩ => exact ⟨s, true, h⟩
      | some l, h => exact ⟨_, false, h⟩
    have c1 : w.cell? ⟨r, 1, none⟩ = some (.bool b) := lies_cell hb 1
    have f1 : w.frozen? ⟨r, 1, none⟩ = false := lies_frozen hb 1
    have H := Lib.hid hb; clear hb h h1
    go_enter Try.func32, Try.ntmps32
    go_wp2_with (go_at_call 42; (first | refine (fits_any v (8 * m) _ (by omega)).mono ?_ | (rw [HE.out]; refine (fits_any v (8 * m) _ (by omega)).mono ?_)); rintro e w' ⟨rfl, rfl⟩; rw [hf])
    go_returns
    refine ⟨rfl, ?_, grown_set r 1 _⟩
    rw [hp.out]
    exact ⟨s, lies_set H.out 1 (.bool true)⟩
  | true =>
    have hv := of_decide_eq_true (show decide (0 ≤ v ∧ v < 2 ^ (((8 * m : Nat) : Int)).toNat) = true from hf)
    obtain ⟨u, rfl⟩ := Int.eq_ofNat_of_zero_le hv.1
    have hu : u ≤ 4294967296 := by
      have h2 := hv.2
      have h3 : (2 : Nat) ^ (8 * m) ≤ 2 ^ 32 := Nat.pow_le_pow_right (by omega) (by omega)
      simp only [Int.toNat_natCast] at h2
      have h4 : u < 2 ^ (8 * m) := by exact_mod_cast h2
      omega
    have hp : Hid (putStep st m (u : Int) = st.map (· ++ be m u)) := by show _ = _; rw [hput.out, hf]; rfl
    clear hput hv
    match st, h with
    | none, ⟨s, hb⟩ =>
      have c1 : w.cell? ⟨r, 1, none⟩ = some (.bool true) := lies_cell hb 1
      have H := Lib.hid hb; clear hb h1
      go_enter Try.func32, Try.ntmps32
      go_wp2_with (go_at_call 42; (first | refine (fits_any (u : Int) (8 * m) _ (by omega)).mono ?_ | (rw [HE.out]; refine (fits_any (u : Int) (8 * m) _ (by omega)).mono ?_)); rintro e w' ⟨rfl, rfl⟩; rw [hf])
      go_returns
      refine ⟨rfl, ?_, World.grownBy.refl w _⟩
      rw [hp.out]
      exact ⟨s, H.out⟩
    | some l, hb =>
      have hl := h1 l rfl
      obtain ⟨t, Ht⟩ : ∃ t : ByteArray, Hid (t = ⟨l.toArray⟩) := ⟨_, rfl⟩
      have hts : t.size ≤ 1000000 := by rw [Ht.out]; show l.toArray.size ≤ _; simpa using hl
      have hb' : w.heap[r]? = some (.cells #[.string t, .bool false] 31) := by rw [Ht.out]; exact hb
      have c0 : w.cell? ⟨r, 0, none⟩ = some (.string t) := lies_cell hb' 0
      have c1 : w.cell? ⟨r, 1, none⟩ = some (.bool false) := lies_cell hb' 1
      have f0 : w.frozen? ⟨r, 0, none⟩ = false := lies_frozen hb' 0
      have hlt := lies_lt hb'
      have H := Lib.hid hb'; clear hb hb' h1 hl
      obtain ⟨z, Hz⟩ : ∃ z : ByteArray, Hid (z = ⟨(be m u).toArray⟩) := ⟨_, rfl⟩
      have hzs : z.size ≤ 4 := by rw [Hz.out]; show (be m u).toArray.size ≤ 4; simp [be_length]; omega
      have hnum : Hid (∀ w : World, Calls Try.prog 43 #[.int .i64 (u : Int), .int .i64 m] w fun e w' => e = .returned (.string z) ∧ Below w.heap.size w w') := by
        show ∀ w : World, _
        rw [Hz.out]; exact fun w => num_any u m w hm4 hu
      go_enter Try.func32, Try.ntmps32
      go_wp2_with (go_at_call 42; (first | refine (fits_any (u : Int) (8 * m) _ (by omega)).mono ?_ | (rw [HE.out]; refine (fits_any (u : Int) (8 * m) _ (by omega)).mono ?_)); rintro e w' ⟨rfl, rfl⟩; rw [hf])
      have hcat : ¬ 9223372036854775807 < t.size + z.size := by omega
      go_region_with (go_at_call 43; refine (hnum.out _).mono ?_; rintro e w1 ⟨rfl, hb1⟩; have q0 : w1.cell? ⟨r, 0, none⟩ = some (.string t) := (hb1.cell hlt).trans c0; have q1 : w1.frozen? ⟨r, 0, none⟩ = false := (hb1.frozen hlt).trans f0)
      all_goals
        go_wp2
        go_returns
        refine ⟨rfl, ?_, ?_⟩
        · rw [hp.out]
          have hw1 : w1.heap[r]? = some (.cells #[.string t, .bool false] 31) := (hb1.block r hlt).trans H.out
          have hh := lies_set hw1 0 (.string (t ++ z))
          have e : t ++ z = ⟨(l ++ be m u).toArray⟩ := by rw [Ht.out, Hz.out, cat_lists]
          rw [e] at hh ⊢
          exact hh
        · exact grown_trans (grown_of_below (w := w) ⟨hb1.os, hb1.tape, hb1.output, hb1.size, hb1.block⟩) (grown_set r 0 _)
end Go.Proofs.Ytbdhneoicfciiaa
