/- Contract of the document's Writer: Bits. -/
import Derived.Test.YtbdhneoicfciiaaRw
namespace Go.Proofs.Ytbdhneoicfciiaa
open Go.RowKit Go.Proofs.PitotMath

theorem rbytes_eq (A : Option Addr) (cap : Nat) (xs : List Int) (w : World) (hx : IntsAt w A xs) (hl : xs.length ≤ 1000000) (n : Nat) (hn : n = xs.length) (R : Int) (hR : refBytes xs = R) :
    Calls Try.prog 44 #[.slice A n cap] w fun e w' => e = .returned (.int .i64 R) ∧ w = w' := by
  have h := rbytes_any A cap xs w hx hl n hn
  rw [hR] at h
  exact h

theorem fits_quiet (v : Int) (m : Nat) (w : World) (n : Nat) (b : Bool) (hm : m ≤ 32) (hb : fitsB v m = b) :
    Calls Try.prog 42 #[.int .i64 v, .int .i64 m] (w.drewN n) fun e w'' => e = .returned (.bool b) ∧ ∃ m, w'' = w.drewN m := by
  subst hb
  exact (fits_any v m (w.drewN n) hm).mono fun e w' ⟨he, hw⟩ => ⟨he, n, hw.symm⟩

set_option maxHeartbeats 400000 in
theorem pbits_bad (r : Nat) (l : List UInt8) (A B : Option Addr) (ca cb : Nat) (xs ns : List Int) (w : World) (h : PlAt w r (some l)) (hx : IntsAt w A xs) (hl : xs.length ≤ 1000000) (hbad : (togRes xs).2 = false ∨ xs.length ≠ ns.length) :
    Calls Try.prog 34 #[.pointer (some ⟨r, 0, none⟩), .slice A xs.length ca, .slice B ns.length cb] w fun e w' => e = .returned (.tuple #[]) ∧ PlAt w' r none ∧ w.grownBy w' (some r) := by
  have c1 : w.cell? ⟨r, 1, none⟩ = some (.bool false) := lies_cell (w := w) h 1
  have f1 : w.frozen? ⟨r, 1, none⟩ = false := lies_frozen (w := w) h 1
  have H := Lib.hid h; clear h
  cases hok : (togRes xs).2 with
  | false =>
    have hR : Hid (refBytes xs = 0) := by show _ = _; rw [refBytes_eq, hok]; rfl
    clear hbad hok
    go_enter Try.func34, Try.ntmps34
    go_wp2_with (go_at_call 44; refine (rbytes_eq _ _ xs _ hx hl _ rfl 0 hR.out).mono ?_; rintro e w' ⟨rfl, rfl⟩)
    go_returns
    exact ⟨rfl, ⟨_, lies_set (w := w) H.out 1 (.bool true)⟩, grown_set r 1 _⟩
  | true =>
    have hne : xs.length ≠ ns.length := by rcases hbad with e | e; rw [hok] at e; cases e; exact e
    have hd : ((xs.length : Int) != (ns.length : Int)) = true := by simp; omega
    obtain ⟨tot, m, ht, hm, hm3, hr0⟩ := tog_ok hok
    have hR : Hid (refBytes xs = (m : Int)) := by show _ = _; rw [refBytes_eq, hr0]; rfl
    have hm0 : ((m : Int) == 0) = false := by simp; omega
    clear hbad hok hne ht hm hm3 hr0
    go_enter Try.func34, Try.ntmps34
    go_wp2_with (go_at_call 44; refine (rbytes_eq _ _ xs _ hx hl _ rfl m hR.out).mono ?_; rintro e w' ⟨rfl, rfl⟩)
    go_returns
    exact ⟨rfl, ⟨_, lies_set (w := w) H.out 1 (.bool true)⟩, grown_set r 1 _⟩

theorem fits_nat {v x : Int} (h : fitsB v x = true) : ∃ u : Nat, v = u ∧ u < 2 ^ x.toNat := by
  have hv := of_decide_eq_true h
  obtain ⟨u, rfl⟩ := Int.eq_ofNat_of_zero_le hv.1
  exact ⟨u, rfl, by exact_mod_cast hv.2⟩

set_option maxHeartbeats 2000000 in
theorem pbits_loop (r : Nat) (l : List UInt8) (A B : Option Addr) (ca cb : Nat) (xs ns : List Int) (w : World) (h : PlAt w r (some l)) (hx : IntsAt w A xs) (hy : IntsAt w B ns) (hl : xs.length ≤ 1000000) (hll : l.length ≤ 900000)
    (hok : (togRes xs).2 = true) (heq : xs.length = ns.length) :
    Calls Try.prog 34 #[.pointer (some ⟨r, 0, none⟩), .slice A xs.length ca, .slice B ns.length cb] w fun e w' => e = .returned (.tuple #[]) ∧ PlAt w' r ((bitsOf xs ns).map (l ++ ·)) ∧ w.grownBy w' (some r) := by
  obtain ⟨tot, m, ht0, hm0, hm3, hr0⟩ := tog_ok hok
  have hR : Hid (refBytes xs = (m : Int)) := by show _ = _; rw [refBytes_eq, hr0]; rfl
  have ht := Lib.hid ht0
  have hm := Lib.hid hm0
  have hmz : ((m : Int) == 0) = false := by simp; omega
  have hmd := Lib.hid hm3
  have HB : Hid (bitsOf xs ns = (packGo xs ns 0).map (be m)) := by
    show _ = _
    unfold bitsOf
    rw [if_pos ⟨hok, heq⟩, hr0]; rfl
  have hrl := h.lt
  obtain ⟨q, Hq⟩ : ∃ q, Hid (q = ns.length) := ⟨_, rfl⟩
  have Hq' : Hid (q = xs.length) := Hq.out.trans heq.symm
  rw [← Hq.out, ← Hq'.out]
  rw [← Hq'.out] at hl
  have HP := Lib.hid h
  clear ht0 hm0 hm3 hr0 hok heq h
  go_enter Try.func34, Try.ntmps34
  go_wp2_with (go_at_call 44; refine (rbytes_eq _ _ xs _ hx (by rw [← Hq'.out]; exact hl) _ Hq'.out m hR.out).mono ?_; rintro e w' ⟨rfl, rfl⟩)
  go_loopw [7, 8] (fun v7 v8 wr => ∃ (k a : Nat) (S : Int), k ≤ q ∧ v8 = .int .i64 k ∧ v7 = .int .i64 a ∧ 0 ≤ S ∧ a ≤ 4294967296 ∧ Hid (a < 2 ^ S.toNat) ∧ Hid (togGo (xs.drop k) S = some tot) ∧ Hid (packGo (xs.drop k) (ns.drop k) a = packGo xs ns 0) ∧ Below w.heap.size w wr) (fun _ v8 _ => q - (intOf v8).toNat)
  case atStart => exact ⟨0, 0, 0, Nat.zero_le _, rfl, rfl, by omega, by omega, by show (0 : Nat) < 2 ^ 0; omega, ht, rfl, Below.refl _ _⟩
  case round =>
    obtain ⟨k, a, S, hk, rfl, rfl, hS0, ha4, ha, htk, hpk, hbw⟩ := hrel
    by_cases hlt : k < q
    · have hk1 : k < xs.length := by rw [← Hq'.out]; exact hlt
      have hk2 : k < ns.length := by rw [← Hq.out]; exact hlt
      obtain ⟨bx, ox, rfl, hbx, hcx0⟩ := hx.get hk1
      obtain ⟨bn, on, rfl, hbn, hcn0⟩ := hy.get hk2
      obtain ⟨hx1, hx2, htk'⟩ := togGo_at hk1 htk.out
      have hps := pack_cons hk1 hk2 a
      rw [hpk.out] at hps
      obtain ⟨x, Hx⟩ : ∃ x : Nat, Hid ((x : Int) = xs[k]) := by
        obtain ⟨x, hx⟩ := Int.eq_ofNat_of_zero_le (show 0 ≤ xs[k] by omega)
        exact ⟨x, hx.symm⟩
      obtain ⟨v, Hv⟩ : ∃ v, Hid (v = ns[k]) := ⟨ns[k], rfl⟩
      rw [← Hx.out] at hcx0 hx1 hx2 htk' hps
      rw [← Hv.out] at hcn0 hps
      have hcx : wr.cell? ⟨bx, ox + k, none⟩ = some (.int .i64 (x : Int)) := (hbw.cell hbx).trans hcx0
      have hcn : wr.cell? ⟨bn, on + k, none⟩ = some (.int .i64 v) := (hbw.cell hbn).trans hcn0
      have HPS := Lib.hid hps; clear hps
      have HTK := Lib.hid htk'; clear htk'
      clear hcx0 hcn0
      have hwr : wr.heap[r]? = some (.cells #[.string ⟨l.toArray⟩, .bool false] 31) := (hbw.block r hrl).trans HP.out
      have d1 : wr.cell? ⟨r, 1, none⟩ = some (.bool false) := lies_cell hwr 1
      have e1 : wr.frozen? ⟨r, 1, none⟩ = false := lies_frozen hwr 1
      have HWR := Lib.hid hwr; clear hwr
      have ikq : (k : Int) < (q : Int) := by omega
      cases hfit : fitsB v x with
      | false =>
        go_wp2
        go_quiet ((go_at_call 42; exact fits_quiet _ _ _ _ false (by omega) hfit))
        go_wp2
        go_returns
        refine ⟨rfl, ?_, grown_trans (grown_of_below (w' := wr.drewN nq) (below_drewN hbw nq)) (grown_set r 1 _)⟩
        rw [HB.out, HPS.out, hfit]
        exact ⟨_, lies_set (w := wr.drewN nq) HWR.out 1 (.bool true)⟩
      | true =>
        obtain ⟨u, hu, hu2⟩ := fits_nat hfit
        subst hu
        simp only [Int.toNat_natCast] at hu2
        have hbig : a * 2 ^ x + u < 2 ^ (S + x).toNat := by
          have hso := (shl_or a x u S ha.out hS0 hx1 hx2 hfit).2
          simpa using hso
        have hpow : 2 ^ (S + (x : Int)).toNat ≤ 2 ^ 32 := Nat.pow_le_pow_right (by omega) (by omega)
        have hb4 : a * 2 ^ x + u ≤ 4294967296 := by omega
        have HBIG := Lib.hid hbig
        clear hpow hbig
        have hu4 : u ≤ 4294967296 := by omega
        have HU2 := Lib.hid hu2; clear hu2
        have HB4 := Lib.hid hb4; clear hb4
        go_wp2
        go_quiet ((go_at_call 42; exact fits_quiet _ _ _ _ true (by omega) hfit))
        go_wp2
        go_loop [7, 9] (fun v7 v9 => ∃ (j M : Nat), j ≤ x ∧ v9 = .int .i64 j ∧ v7 = .int .i64 M ∧ M ≤ 4294967296 ∧ Hid (M = a * 2 ^ j)) (fun _ v9 => x - (intOf v9).toNat)
        case atStart => exact ⟨0, a, Nat.zero_le _, rfl, rfl, ha4, by show a = a * 2 ^ 0; simp⟩
        case round =>
          obtain ⟨j, M, hj, rfl, rfl, hM, HM⟩ := hrel
          by_cases hjx : j < x
          · have h2 : 2 * M ≤ 4294967296 := by
              have e := HM.out
              have e2 : a * 2 ^ (j + 1) ≤ a * 2 ^ x := Nat.mul_le_mul_left _ (Nat.pow_le_pow_right (by omega) (by omega))
              rw [Nat.pow_succ] at e2
              have e3 := HB4.out
              have e4 : a * (2 ^ j * 2) = 2 * (a * 2 ^ j) := by rw [← Nat.mul_assoc, Nat.mul_comm]
              omega
            go_wp2
            go_round
            case rel => exact ⟨j + 1, 2 * M, by omega, by go_num, by go_num, h2, by show _ = _; rw [HM.out, Nat.pow_succ]; exact (by rw [Nat.mul_left_comm, Nat.mul_comm 2])⟩
            case measure => simp [intOf]; omega
          · have hjx' : Hid (j = x) := by show j = x; omega
            go_wp2
            go_roundw
            case rel =>
              refine ⟨k + 1, a * 2 ^ x + u, S + x, by omega, by go_num, val_int (by rw [show a * 2 ^ x = M by rw [HM.out, hjx'.out]]; omega), by omega, HB4.out, HBIG, HTK, ?_, below_drewN hbw nq⟩
              show _ = _
              rw [HPS.out, hfit]
              simp
            case measure => simp [intOf]; omega
    · have hkx : xs.drop k = [] := List.drop_of_length_le (by rw [← Hq'.out]; omega)
      have hS : S = tot := togGo_end (by have := htk.out; rwa [hkx] at this)
      have hpn : packGo xs ns 0 = some a := by rw [← hpk.out, hkx]; rfl
      have hput : Hid (putStep (some l) m (a : Int) = (bitsOf xs ns).map (l ++ ·)) := by
        show _ = _
        rw [HB.out, hpn]
        have hf : fitsB (a : Int) (8 * m) = true := by
          have e := ha.out
          rw [hS, hm.out] at e
          unfold fitsB
          simp
          exact_mod_cast e
        unfold putStep
        rw [if_pos hf]
        simp
      have hpl : PlAt wr r (some l) := (HP.out : PlAt w r (some l)).keep hbw.block
      clear hS hkx hpn
      go_wp2_with (go_at_call 32; refine (pput_any r (some l) m (a : Int) wr hmd.out hpl (fun l' e => by cases e; omega)).mono ?_; rintro e w2 ⟨rfl, hw1, hw2⟩)
      go_returns
      refine ⟨rfl, ?_, grown_trans (grown_of_below hbw) hw2⟩
      rw [← hput.out]
      exact hw1

theorem pbits_any (r : Nat) (l : List UInt8) (A B : Option Addr) (ca cb : Nat) (xs ns : List Int) (w : World) (h : PlAt w r (some l)) (hx : IntsAt w A xs) (hy : IntsAt w B ns) (hl : xs.length ≤ 1000000) (hll : l.length ≤ 900000) :
    Calls Try.prog 34 #[.pointer (some ⟨r, 0, none⟩), .slice A xs.length ca, .slice B ns.length cb] w fun e w' => e = .returned (.tuple #[]) ∧ PlAt w' r (bitsStep (some l) xs ns) ∧ w.grownBy w' (some r) := by
  by_cases hbad : (togRes xs).2 = false ∨ xs.length ≠ ns.length
  · refine (pbits_bad r l A B ca cb xs ns w h hx hl hbad).mono fun e w' ⟨he, hw, hg⟩ => ⟨he, ?_, hg⟩
    have : bitsStep (some l) xs ns = none := by
      rcases hbad with e | e <;> simp [bitsStep, bitsOf, e]
    rw [this]; exact hw
  · have hok : (togRes xs).2 = true := by
      cases hh : (togRes xs).2 with
      | true => rfl
      | false => exact absurd (.inl hh) hbad
    exact pbits_loop r l A B ca cb xs ns w h hx hy hl hll hok (Decidable.byContradiction fun e => hbad (.inr e))
end Go.Proofs.Ytbdhneoicfciiaa
