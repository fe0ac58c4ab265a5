/- Contracts of the program's Writer: Bits, U8, U16, U32. -/
import Derived.Test.YtdgkanamceeheaaGreatM4
set_option linter.unusedVariables false
namespace Go.Proofs.YtdgkanamceeheaaGreat.Bi
open Go.RowKit Go.Proofs.PitotMath

/-- Numbers, each so many bits wide, one behind the other; none: one of them does not fit. -/
def packGo : List Int → List Int → Nat → Option Nat
  | [], _, a => some a
  | _ :: _, [], a => some a
  | x :: xs, n :: ns, a => if fitsB n x = true then packGo xs ns (a * 2 ^ x.toNat + n.toNat) else none

/-- The bytes that numbers of these widths are; none: they may not be. -/
def bitsOf (xs ns : List Int) : Option (List UInt8) :=
  if (togRes xs).2 = true ∧ xs.length = ns.length then (packGo xs ns 0).map (be (togRes xs).1.toNat) else none

def bitsStep (st : Option (List UInt8)) (xs ns : List Int) : Option (List UInt8) := st.bind fun l => (bitsOf xs ns).map (l ++ ·)

theorem together_eq (A : Option Addr) (cap : Nat) (xs : List Int) (w : World) (hx : IntsAt w A xs) (hl : xs.length ≤ 1000000) (n : Nat) (hn : n = xs.length) (r : Int) (ok : Bool) (hr : togRes xs = (r, ok)) :
    Calls Tryz.prog 114 #[.slice A n cap] w fun e w' => e = .returned (.tuple #[.int .i64 r, .bool ok]) ∧ w = w' := by
  subst hn
  have h := together_any A cap xs w hx hl
  rw [hr] at h
  exact h

theorem tog_ok {xs : List Int} (h : (togRes xs).2 = true) : ∃ (tot : Int) (m : Nat), togGo xs 0 = some tot ∧ tot = 8 * m ∧ (m = 1 ∨ m = 2 ∨ m = 4) ∧ togRes xs = ((m : Int), true) := by
  cases ht : togGo xs 0 with
  | none => rw [togRes_none ht] at h; simp at h
  | some tot =>
    rw [togRes_some ht] at h
    have h' : okSum tot = true := h
    simp only [okSum, Bool.or_eq_true, beq_iff_eq] at h'
    rcases h' with (rfl | rfl) | rfl
    · exact ⟨8, 1, rfl, rfl, by simp, by rw [togRes_some ht]; rfl⟩
    · exact ⟨16, 2, rfl, rfl, by simp, by rw [togRes_some ht]; rfl⟩
    · exact ⟨32, 4, rfl, rfl, by simp, by rw [togRes_some ht]; rfl⟩

theorem Chain.keep {w w' : World} {b : Nat} (hk : ∀ k, k < w.heap.size → w'.heap[k]? = w.heap[k]?) : ∀ {ts : List ByteArray} {p : Option Addr}, Chain w b p ts → Chain w' b p ts
  | [], _, h => h
  | _ :: _, _, ⟨c, q, h1, h2, h3, h4⟩ => ⟨c, q, h1, h2, (hk c (lies_lt h3)).trans h3, Chain.keep hk h4⟩

theorem WrAt.keep {w w' : World} {b n : Nat} {st : Option (List UInt8)} (h : WrAt w b n st) (hk : ∀ k, k < w.heap.size → w'.heap[k]? = w.heap[k]?) : WrAt w' b n st := by
  match st, h with
  | none, h => exact (hk b (lies_lt (w := w) h)).trans h
  | some l, ⟨p, last, ts, hb, hc, hn, hl⟩ => exact ⟨p, last, ts, (hk b (lies_lt hb)).trans hb, Chain.keep hk hc, hn, hl⟩

theorem WrAt.below {w w' : World} {b n : Nat} {st : Option (List UInt8)} (h : WrAt w b n st) (hb : Below w.heap.size w w') : WrAt w' b n st := h.keep hb.block

theorem WrAt.more {w : World} {b n m : Nat} {st : Option (List UInt8)} (h : WrAt w b n st) (hm : n ≤ m) : WrAt w b m st := by
  match st, h with
  | none, h => exact h
  | some l, ⟨p, last, ts, hb, hc, hn, hl⟩ => exact ⟨p, last, ts, hb, hc, Nat.le_trans hn hm, hl⟩

theorem grown_of_below {w w' : World} {r : Option Nat} (h : Below w.heap.size w w') : w.grownBy w' r := ⟨h.os, h.tape, h.output, h.size, fun k hk _ => h.block k hk⟩

theorem WrAt.cells {w : World} {b n : Nat} {l : List UInt8} (h : WrAt w b n (some l)) : w.cell? ⟨b, 2, none⟩ = some (.bool false) := by
  obtain ⟨p, last, ts, hb, _⟩ := h
  exact lies_cell hb 2

set_option maxHeartbeats 400000 in
theorem bits_wrong (b n : Nat) (v1 v2 : Value) (w : World) (h : WrAt w b n none) :
    Calls Tryz.prog 96 #[.pointer (some ⟨b, 0, none⟩), v1, v2] w fun e w' => e = .returned (.tuple #[]) ∧ w = w' := by
  have c2 : w.cell? ⟨b, 2, none⟩ = some (.bool true) := lies_cell h 2
  clear h
  go_enter Tryz.func96, Tryz.ntmps96
  go_wp2
  go_returns
  exact ⟨rfl, rfl⟩

set_option maxHeartbeats 400000 in
theorem bits_bad1 (b n : Nat) (l : List UInt8) (A B : Option Addr) (ca cb : Nat) (xs ns : List Int) (w : World) (h : WrAt w b n (some l)) (hx : IntsAt w A xs) (hl : xs.length ≤ 1000000) (hbad : (togRes xs).2 = false) :
    Calls Tryz.prog 96 #[.pointer (some ⟨b, 0, none⟩), .slice A xs.length ca, .slice B ns.length cb] w fun e w' => e = .returned (.tuple #[]) ∧ WrAt w' b n none ∧ w.grownBy w' (some b) := by
  have c2 := h.cells
  have hR : Hid (togRes xs = ((togRes xs).1, false)) := by show _ = _; rw [← hbad]
  have HB := Lib.hid hbad; clear hbad
  obtain ⟨r, hr⟩ : ∃ r, Hid (togRes xs = (r, false)) := ⟨_, hR⟩
  clear hR
  go_enter Tryz.func96, Tryz.ntmps96
  go_wp2_with (first
    | (go_at_call 114; refine (together_eq _ _ xs _ hx hl _ rfl r false hr.out).mono ?_; rintro e w' ⟨rfl, rfl⟩)
    | (go_at_call 115; refine (fail_any b n l _ h).mono ?_; rintro e w' ⟨rfl, hw1, hw2⟩))
  go_returns
  exact ⟨rfl, hw1, hw2⟩

set_option maxHeartbeats 400000 in
theorem bits_bad2 (b n : Nat) (l : List UInt8) (A B : Option Addr) (ca cb : Nat) (xs ns : List Int) (w : World) (h : WrAt w b n (some l)) (hx : IntsAt w A xs) (hl : xs.length ≤ 1000000) (hok : (togRes xs).2 = true) (hne : xs.length ≠ ns.length) :
    Calls Tryz.prog 96 #[.pointer (some ⟨b, 0, none⟩), .slice A xs.length ca, .slice B ns.length cb] w fun e w' => e = .returned (.tuple #[]) ∧ WrAt w' b n none ∧ w.grownBy w' (some b) := by
  have c2 := h.cells
  obtain ⟨tot, m, ht, hm, hm3, hr0⟩ := tog_ok hok
  have hr := Lib.hid hr0
  have hd : ((xs.length : Int) != (ns.length : Int)) = true := by simp; omega
  clear ht hm hm3 hr0 hok
  go_enter Tryz.func96, Tryz.ntmps96
  go_wp2_with (first
    | (go_at_call 114; refine (together_eq _ _ xs _ hx hl _ rfl m true hr.out).mono ?_; rintro e w' ⟨rfl, rfl⟩)
    | (go_at_call 115; refine (fail_any b n l _ h).mono ?_; rintro e w' ⟨rfl, hw1, hw2⟩))
  go_returns
  exact ⟨rfl, hw1, hw2⟩

theorem pack_cons {xs ns : List Int} {k : Nat} (h1 : k < xs.length) (h2 : k < ns.length) (a : Nat) :
    packGo (xs.drop k) (ns.drop k) a = if fitsB ns[k] xs[k] = true then packGo (xs.drop (k + 1)) (ns.drop (k + 1)) (a * 2 ^ xs[k].toNat + ns[k].toNat) else none := by
  rw [List.drop_eq_getElem_cons h1, List.drop_eq_getElem_cons h2]; rfl

theorem shl_or (a : Nat) (x v S : Int) (ha : a < 2 ^ S.toNat) (hS : 0 ≤ S) (hx : 1 ≤ x) (hSx : x ≤ 32 - S) (hv : fitsB v x = true) :
    bits .or .u32 (IntKind.u32.wrap ((a : Int) * 2 ^ x.toNat)) (IntKind.u32.wrap v) = ((a * 2 ^ x.toNat + v.toNat : Nat) : Int) ∧ a * 2 ^ x.toNat + v.toNat < 2 ^ (S + x).toNat := by
  unfold fitsB at hv
  have hv' := of_decide_eq_true hv
  obtain ⟨v, rfl⟩ := Int.eq_ofNat_of_zero_le hv'.1
  obtain ⟨x, rfl⟩ := Int.eq_ofNat_of_zero_le (show 0 ≤ x by omega)
  obtain ⟨S, rfl⟩ := Int.eq_ofNat_of_zero_le hS
  have hv2 : v < 2 ^ x := by have := hv'.2; simp at this; exact_mod_cast this
  simp only [Int.toNat_natCast] at ha ⊢
  have hsx : (((S : Int) + (x : Int))).toNat = S + x := by omega
  rw [hsx]
  have h2 : a * 2 ^ x + v < 2 ^ (S + x) := by
    rw [Nat.pow_add]
    have : (a + 1) * 2 ^ x ≤ 2 ^ S * 2 ^ x := Nat.mul_le_mul_right _ ha
    rw [Nat.add_mul] at this
    omega
  have h3 : 2 ^ (S + x) ≤ 2 ^ 32 := Nat.pow_le_pow_right (by omega) (by omega)
  have e1 : ((a : Int) * 2 ^ x) = ((a * 2 ^ x : Nat) : Int) := by simp
  have h4 : a * 2 ^ x < 4294967296 := by omega
  have h5 : v < 4294967296 := by omega
  rw [e1, IntWalk.u32_in _ (by omega), IntWalk.u32_in _ (by omega), u32_or_nat _ _ h4 h5]
  refine ⟨?_, h2⟩
  rw [Nat.mul_comm a, ← Nat.two_pow_add_eq_or_of_lt hv2 a]

theorem togGo_at {xs : List Int} {k : Nat} {S tot : Int} (hk : k < xs.length) (h : togGo (xs.drop k) S = some tot) : 1 ≤ xs[k] ∧ xs[k] ≤ 32 - S ∧ togGo (xs.drop (k + 1)) (S + xs[k]) = some tot := by
  rw [tog_cons hk] at h
  split at h
  · cases h
  · exact ⟨by omega, by omega, h⟩

theorem togGo_end {S tot : Int} (h : togGo [] S = some tot) : S = tot := by simpa [togGo] using h

set_option maxHeartbeats 1000000 in
theorem bits_loop (b n : Nat) (l : List UInt8) (A B : Option Addr) (ca cb : Nat) (xs ns : List Int) (w : World) (h : WrAt w b n (some l)) (hx : IntsAt w A xs) (hy : IntsAt w B ns) (hl : xs.length ≤ 1000000) (hll : l.length ≤ 900000)
    (hok : (togRes xs).2 = true) (heq : xs.length = ns.length) :
    Calls Tryz.prog 96 #[.pointer (some ⟨b, 0, none⟩), .slice A xs.length ca, .slice B ns.length cb] w fun e w' => e = .returned (.tuple #[]) ∧ WrAt w' b (n + 1) ((bitsOf xs ns).map (l ++ ·)) ∧ w.grownBy w' (some b) := by
  have c2 := h.cells
  obtain ⟨tot, m, ht0, hm0, hm3, hr0⟩ := tog_ok hok
  have hr := Lib.hid hr0
  have ht := Lib.hid ht0
  have hm := Lib.hid hm0
  have hm4 : m ≤ 4 := by omega
  have HB : Hid (bitsOf xs ns = (packGo xs ns 0).map (be m)) := by
    show _ = _
    unfold bitsOf
    rw [if_pos ⟨hok, heq⟩, hr0]; rfl
  have HE := Lib.hid heq
  obtain ⟨q, Hq⟩ : ∃ q, Hid (q = ns.length) := ⟨_, rfl⟩
  have Hq' : Hid (q = xs.length) := Hq.out.trans heq.symm
  rw [← Hq.out, ← Hq'.out]
  rw [← Hq'.out] at hl
  clear ht0 hm0 hm3 hr0 hok heq
  go_enter Tryz.func96, Tryz.ntmps96
  go_wp2_with (go_at_call 114; refine (together_eq _ _ xs _ hx (by rw [← Hq'.out]; exact hl) _ Hq'.out m true hr.out).mono ?_; rintro e w' ⟨rfl, rfl⟩)
  go_loop [8, 37] (fun v8 v37 => ∃ (k a : Nat) (S : Int), k ≤ q ∧ v37 = .int .i64 k ∧ v8 = .int .u32 a ∧ 0 ≤ S ∧ Hid (a < 2 ^ S.toNat) ∧ Hid (togGo (xs.drop k) S = some tot) ∧ Hid (packGo (xs.drop k) (ns.drop k) a = packGo xs ns 0)) (fun _ v37 => q - (intOf v37).toNat)
  case atStart => exact ⟨0, 0, 0, Nat.zero_le _, rfl, rfl, by omega, by show (0 : Nat) < 2 ^ 0; omega, ht, rfl⟩
  case round =>
    obtain ⟨k, a, S, hk, rfl, rfl, hS0, ha, htk, hpk⟩ := hrel
    by_cases hlt : k < q
    · have hk1 : k < xs.length := by rw [← Hq'.out]; exact hlt
      have hk2 : k < ns.length := by rw [← Hq.out]; exact hlt
      obtain ⟨bx, ox, rfl, hbx, hcx⟩ := hx.get hk1
      obtain ⟨bn, on, rfl, hbn, hcn⟩ := hy.get hk2
      obtain ⟨hx1, hx2, htk'⟩ := togGo_at hk1 htk.out
      have hps := pack_cons hk1 hk2 a
      rw [hpk.out] at hps
      obtain ⟨x, Hx⟩ : ∃ x, Hid (x = xs[k]) := ⟨xs[k], rfl⟩
      obtain ⟨v, Hv⟩ : ∃ v, Hid (v = ns[k]) := ⟨ns[k], rfl⟩
      rw [← Hx.out] at hcx hx1 hx2 htk' hps
      rw [← Hv.out] at hcn hps
      have HPS := Lib.hid hps; clear hps
      have HTK := Lib.hid htk'; clear htk'
      cases hfit : fitsB v x with
      | false =>
        go_wp2_with (first
          | (go_at_call 116; refine (has_any _ _ _ (by omega) (by omega)).mono ?_; rintro e w' ⟨rfl, rfl⟩; rw [hfit])
          | (go_at_call 115; refine (fail_any b n l _ h).mono ?_; rintro e w' ⟨rfl, hw1, hw2⟩))
        go_returns
        refine ⟨rfl, ?_, hw2⟩
        rw [HB.out, HPS.out, hfit]
        exact hw1
      | true =>
        have hso := shl_or a x v S ha.out hS0 hx1 hx2 hfit
        have HSO := Lib.hid hso; clear hso
        go_wp2_with (go_at_call 116; refine (has_any _ _ _ (by omega) (by omega)).mono ?_; rintro e w' ⟨rfl, rfl⟩; rw [hfit])
        go_round
        case rel => exact ⟨k + 1, a * 2 ^ x.toNat + v.toNat, S + x, by omega, by go_num, val_int HSO.out.1, by omega, HSO.out.2, HTK, by show _ = _; rw [HPS.out, hfit]; rfl⟩
        case measure => simp [intOf]; omega
    · have hkx : xs.drop k = [] := List.drop_of_length_le (by rw [← Hq'.out]; omega)
      have hS : S = tot := togGo_end (by have := htk.out; rwa [hkx] at this)
      have hpn : packGo xs ns 0 = some a := by rw [← hpk.out, hkx]; rfl
      have HP := Lib.hid hpn; clear hpn
      have ha4 : a < 4294967296 := by
        have h1 := ha.out
        have h2 : 2 ^ S.toNat ≤ 2 ^ 32 := Nat.pow_le_pow_right (by omega) (by have := hm.out; omega)
        omega
      clear hS hkx
      go_wp2_with (first
        | (go_at_call 117; refine (spread_any a m _ hm4 ha4).mono ?_; rintro e w1 ⟨rfl, hb1⟩)
        | (go_at_call 60; refine (text_any b n (some l) _ w1 (h.below hb1) (fun l' e => by cases e; omega) (by show (be m a).toArray.size ≤ _; simp [be_length]; omega)).mono ?_; rintro e w2 ⟨rfl, hw1, hw2⟩))
      go_returns
      refine ⟨rfl, ?_, grown_trans (grown_of_below hb1) hw2⟩
      rw [HB.out, HP.out]
      exact hw1

/-- Bits puts numbers behind, unless something was, or is, wrong. -/
theorem bits_any (b n : Nat) (st : Option (List UInt8)) (A B : Option Addr) (ca cb : Nat) (xs ns : List Int) (w : World) (h : WrAt w b n st) (hx : IntsAt w A xs) (hy : IntsAt w B ns) (hl : xs.length ≤ 1000000) (hll : ∀ l, st = some l → l.length ≤ 900000) :
    Calls Tryz.prog 96 #[.pointer (some ⟨b, 0, none⟩), .slice A xs.length ca, .slice B ns.length cb] w fun e w' => e = .returned (.tuple #[]) ∧ WrAt w' b (n + 1) (bitsStep st xs ns) ∧ w.grownBy w' (some b) := by
  match st, h with
  | none, h => exact (bits_wrong b n _ _ w h).mono fun e w' ⟨he, hw⟩ => by subst hw; exact ⟨he, h, World.grownBy.refl w _⟩
  | some l, h =>
    cases hok : (togRes xs).2 with
    | false =>
      refine (bits_bad1 b n l A B ca cb xs ns w h hx hl hok).mono fun e w' ⟨he, hw, hg⟩ => ⟨he, ?_, hg⟩
      have : bitsStep (some l) xs ns = none := by simp [bitsStep, bitsOf, hok]
      rw [this]; exact hw
    | true =>
      by_cases heq : xs.length = ns.length
      · exact bits_loop b n l A B ca cb xs ns w h hx hy hl (hll l rfl) hok heq
      · refine (bits_bad2 b n l A B ca cb xs ns w h hx hl hok heq).mono fun e w' ⟨he, hw, hg⟩ => ⟨he, ?_, hg⟩
        have : bitsStep (some l) xs ns = none := by simp [bitsStep, bitsOf, heq]
        rw [this]; exact hw

/-- A number in so many bytes, put behind. -/
def putStep (st : Option (List UInt8)) (m : Nat) (v : Int) : Option (List UInt8) := if fitsB v (8 * m) = true then st.map (· ++ be m v.toNat) else none

theorem ints_one {w : World} (x : Int) (k : Nat) (hk : w.heap[k]? = some (.cells #[.int .i64 x] 3)) : IntsAt w (some ⟨k, 0, none⟩) [x] := by
  intro _
  refine ⟨k, 0, rfl, lies_lt hk, fun i hi => ?_⟩
  obtain rfl : i = 0 := by simp at hi; omega
  exact lies_cell hk 0

theorem tog_one (m : Nat) (hm : m = 1 ∨ m = 2 ∨ m = 4) : togRes [(8 * m : Int)] = ((m : Int), true) := by
  rcases hm with rfl | rfl | rfl <;> rfl

theorem bitsStep_one (st : Option (List UInt8)) (m : Nat) (v : Int) (hm : m = 1 ∨ m = 2 ∨ m = 4) : bitsStep st [(8 * m : Int)] [v] = putStep st m v := by
  unfold bitsStep bitsOf putStep
  rw [tog_one m hm]
  simp only [List.length_cons, List.length_nil, and_self, if_true, packGo]
  cases st with
  | none => simp
  | some l => split <;> simp

theorem put_core (b n : Nat) (st : Option (List UInt8)) (m : Nat) (x v : Int) (w : World) (hm : m = 1 ∨ m = 2 ∨ m = 4) (hx : x = 8 * m) (h : WrAt w b n st) (hll : ∀ l, st = some l → l.length ≤ 900000) :
    Calls Tryz.prog 96 #[.pointer (some ⟨b, 0, none⟩), .slice (some ⟨w.heap.size, 0, none⟩) 1 1, .slice (some ⟨w.heap.size + 1, 0, none⟩) 1 1] ((w.alloc (.cells #[.int .i64 x] 3)).alloc (.cells #[.int .i64 v] 3))
      fun e w' => e = .returned (.tuple #[]) ∧ WrAt w' b (n + 1) (putStep st m v) ∧ w.grownBy w' (some b) := by
  subst hx
  have hb : Below w.heap.size w ((w.alloc (.cells #[.int .i64 (8 * m)] 3)).alloc (.cells #[.int .i64 v] 3)) := ((Below.refl _ _).alloc (Nat.le_refl _) _).alloc (by simp) _
  have hx : IntsAt ((w.alloc (.cells #[.int .i64 (8 * m)] 3)).alloc (.cells #[.int .i64 v] 3)) (some ⟨w.heap.size, 0, none⟩) [(8 * m : Int)] := ints_one _ _ (lies_alloc (heap_alloc_new w _) _)
  have hy : IntsAt ((w.alloc (.cells #[.int .i64 (8 * m)] 3)).alloc (.cells #[.int .i64 v] 3)) (some ⟨w.heap.size + 1, 0, none⟩) [v] := ints_one _ _ (by have := heap_alloc_new (w.alloc (.cells #[.int .i64 (8 * m)] 3)) (.cells #[.int .i64 v] 3); simpa using this)
  have h1 := bits_any b n st _ _ 1 1 _ _ _ (h.below hb) hx hy (by simp) hll
  rw [bitsStep_one st m v hm] at h1
  exact h1.mono fun e w' ⟨he, hw, hg⟩ => ⟨he, hw, grown_trans (grown_of_below hb) hg⟩

set_option maxHeartbeats 400000 in
theorem u16_any (b n : Nat) (st : Option (List UInt8)) (v : Int) (w : World) (h : WrAt w b n st) (hll : ∀ l, st = some l → l.length ≤ 900000) :
    Calls Tryz.prog 61 #[.pointer (some ⟨b, 0, none⟩), .int .i64 v] w fun e w' => e = .returned (.tuple #[]) ∧ WrAt w' b (n + 1) (putStep st 2 v) ∧ w.grownBy w' (some b) := by
  have HL := Lib.hid hll; clear hll
  go_enter Tryz.func61, Tryz.ntmps61
  go_wp2_with (go_at_call 96; refine (put_core b n st 2 16 v w (by simp) rfl h HL.out).mono ?_; rintro e w' ⟨rfl, h1, h2⟩)
  go_returns
  exact ⟨rfl, h1, h2⟩

set_option maxHeartbeats 400000 in
theorem u32_any (b n : Nat) (st : Option (List UInt8)) (v : Int) (w : World) (h : WrAt w b n st) (hll : ∀ l, st = some l → l.length ≤ 900000) :
    Calls Tryz.prog 63 #[.pointer (some ⟨b, 0, none⟩), .int .i64 v] w fun e w' => e = .returned (.tuple #[]) ∧ WrAt w' b (n + 1) (putStep st 4 v) ∧ w.grownBy w' (some b) := by
  have HL := Lib.hid hll; clear hll
  go_enter Tryz.func63, Tryz.ntmps63
  go_wp2_with (go_at_call 96; refine (put_core b n st 4 32 v w (by simp) rfl h HL.out).mono ?_; rintro e w' ⟨rfl, h1, h2⟩)
  go_returns
  exact ⟨rfl, h1, h2⟩

end Go.Proofs.YtdgkanamceeheaaGreat.Bi
