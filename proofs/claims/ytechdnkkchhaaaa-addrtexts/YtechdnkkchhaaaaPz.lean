/- Contracts of digit, Print: the document's. -/
import Derived.Test.YtechdnkkchhaaaaPt
set_option maxRecDepth 100000
namespace Go.Proofs.Ytechdnkkchhaaaa
open Go.RowKit Go.Proofs.PitotAddr

/-- What a sign is worth, to the document; -1: nothing. -/
def dg (c : UInt8) : Int := if dv c < 16 then (dv c : Int) else -1

theorem refdigit_any (c : UInt8) (w : World) : Calls Try.prog 47 #[.int .u8 c.toNat] w fun r w' => r = .returned (.int .i64 (dg c)) ∧ w = w' := by
  obtain ⟨R, HR⟩ : ∃ R, Hid (R = dg c) := ⟨_, rfl⟩
  rw [← HR.out]
  have hlt := c.toNat_lt
  have : c.toNat < 48 ∨ (48 ≤ c.toNat ∧ c.toNat ≤ 57) ∨ (57 < c.toNat ∧ c.toNat < 97) ∨ (97 ≤ c.toNat ∧ c.toNat ≤ 102) ∨ 102 < c.toNat := by omega
  rcases this with h | ⟨h, h'⟩ | ⟨h, h'⟩ | ⟨h, h'⟩ | h
  · go_enter Try.func47, Try.ntmps47
    go_wp2
    go_returns
    refine ⟨ret_int ?_, rfl⟩
    have e : dv c = 255 := by unfold dv; split <;> (try split) <;> omega
    rw [HR.out]; unfold dg; rw [e]
    split <;> omega
  · go_enter Try.func47, Try.ntmps47
    go_wp2
    go_returns
    refine ⟨ret_int ?_, rfl⟩
    have e : dv c = c.toNat - 48 := by unfold dv; split <;> (try split) <;> omega
    rw [HR.out]; unfold dg; rw [e]
    split <;> omega
  · go_enter Try.func47, Try.ntmps47
    go_wp2
    go_returns
    refine ⟨ret_int ?_, rfl⟩
    have e : dv c = 255 := by unfold dv; split <;> (try split) <;> omega
    rw [HR.out]; unfold dg; rw [e]
    split <;> omega
  · go_enter Try.func47, Try.ntmps47
    go_wp2
    go_returns
    refine ⟨ret_int ?_, rfl⟩
    have e : dv c = c.toNat - 87 := by unfold dv; split <;> (try split) <;> omega
    rw [HR.out]; unfold dg; rw [e]
    split <;> omega
  · go_enter Try.func47, Try.ntmps47
    go_wp2
    go_returns
    refine ⟨ret_int ?_, rfl⟩
    have e : dv c = 255 := by unfold dv; split <;> (try split) <;> omega
    rw [HR.out]; unfold dg; rw [e]
    split <;> omega

theorem digit_cut (n : Nat) (h : n < 16) : digitsS.extract n (n + 1) = ⟨#[hx n]⟩ := by
  have : ∀ i : Fin 16, (digitsS.extract i.val (i.val + 1)).data = #[hx i.val] := by decide
  exact ByteArray.ext (this ⟨n, h⟩)

theorem slice_digit (n : Nat) (h : n < 16) (i j : Int) (hi : i = n) (hj : j = n + 1) (w : World) :
    (Instr.slice 9 (.string digitsS) (some (.int .u8 i)) (some (.int .u8 j)) none).run Try.prog w = .ok (.string ⟨#[hx n]⟩) w := by
  subst hi hj
  have h16 : digitsS.size = 16 := rfl
  have e : ((n : Int) + 1).toNat = n + 1 := by omega
  simp [Instr.slice, Instr.sliceBounds, Instr.sliceBound, run_underlying Try.underlying9, asIntOf, Result.andThen, h16]
  rw [if_pos (by omega)]
  simp
  exact digit_cut n h

set_option maxHeartbeats 4000000 in
theorem refPrint_any (a b c d e f : UInt8) (w : World) :
    Calls Try.prog 31 #[.string ⟨#[a, b, c, d, e, f]⟩] w fun r w' => Hid (r = .returned (.string ⟨(pk [a, b, c, d, e, f] 6).toArray⟩)) ∧ Below w.heap.size w w' := by
  obtain ⟨S, HS⟩ : ∃ S : ByteArray, Hid (S = ⟨#[a, b, c, d, e, f]⟩) := ⟨_, rfl⟩
  have hsz : S.size = 6 := by rw [HS.out]; rfl
  obtain ⟨l, Hl⟩ : ∃ l : List UInt8, Hid (l = [a, b, c, d, e, f]) := ⟨_, rfl⟩
  have hl : l.length = 6 := by rw [Hl.out]; rfl
  have HSl : Hid (S.data.toList = l) := by show _ = _; rw [HS.out, Hl.out]
  rw [← HS.out, ← Hl.out]
  go_enter Try.func31, Try.ntmps31
  go_wp2
  go_loopw [3, 4] (fun v3 v4 wr => ∃ (k : Nat) (s : ByteArray), k ≤ 6 ∧ v4 = .int .i64 k ∧ v3 = .string s ∧ s.size ≤ 3 * k ∧ Hid (s = ⟨(pk l k).toArray⟩) ∧ Below w.heap.size w wr) (fun _ v4 _ => 6 - (intOf v4).toNat)
  case atStart => exact ⟨0, ⟨#[]⟩, Nat.zero_le _, rfl, rfl, by decide, rfl, Below.refl _ _⟩
  case round =>
    obtain ⟨k, s, hk, rfl, rfl, hs, Hs, hb⟩ := hrel
    by_cases hlt : k < 6
    · obtain ⟨x, Hx⟩ : ∃ x, Hid (x = l.getD k 0) := ⟨_, rfl⟩
      have hx256 := x.toNat_lt
      have hI := fun w => index_str S k (by omega) (k : Int) rfl w
      rw [HSl.out, show at' l k = x from Hx.out.symm] at hI
      have hx16 : x.toNat / 16 < 16 := by omega
      have hS1 := fun w => slice_digit (x.toNat / 16) hx16 ((x.toNat : Int) / 16) ((x.toNat : Int) / 16 + 1) (by omega) (by omega) w
      have hS2 := fun w => slice_digit (x.toNat % 16) (by omega) ((x.toNat : Int) % 16) ((x.toNat : Int) % 16 + 1) (by omega) (by omega) w
      obtain ⟨p, Hp⟩ : ∃ p, Hid (p = hx (x.toNat / 16)) := ⟨_, rfl⟩
      obtain ⟨q, Hq⟩ : ∃ q, Hid (q = hx (x.toNat % 16)) := ⟨_, rfl⟩
      rw [← Hp.out] at hS1
      rw [← Hq.out] at hS2
      have w1 : IntKind.u8.wrap ((x.toNat : Int) / 16 + 1) = (x.toNat : Int) / 16 + 1 := IntWalk.u8_in _ (by omega)
      have w2 : IntKind.u8.wrap ((x.toNat : Int) % 16 + 1) = (x.toNat : Int) % 16 + 1 := IntWalk.u8_in _ (by omega)
      have w3 : IntKind.u8.wrap ((x.toNat : Int) / 16) = (x.toNat : Int) / 16 := IntWalk.u8_in _ (by omega)
      have w4 : IntKind.u8.wrap ((x.toNat : Int) % 16) = (x.toNat : Int) % 16 := IntWalk.u8_in _ (by omega)
      by_cases h0 : k = 0
      · have h0' : ¬ ((k : Int) > 0) := by omega
        have H0 := Lib.hid h0; clear h0
        go_wp2
        go_quiet (fail)
        have HO : Hid (s ++ ⟨#[p]⟩ ++ ⟨#[q]⟩ = ⟨(pk l (k + 1)).toArray⟩) := by
          show _ = _
          rw [Hs.out]
          apply ByteArray.ext
          simp [pk, sep, H0.out, pair, Hp.out, Hq.out, Hx.out]
        have Hz : (s ++ ⟨#[p]⟩ ++ ⟨#[q]⟩ : ByteArray).size ≤ 3 * (k + 1) := by
          rw [ByteArray.size_append, ByteArray.size_append]
          show s.size + 1 + 1 ≤ _
          omega
        have Hz := Lib.hid Hz
        clear hI hS1 hS2 w1 w2 w3 w4
        go_wp2
        go_roundw
        case rel => exact ⟨k + 1, _, by omega, by go_num, rfl, Hz.out, HO, below_drewN hb _⟩
        case measure => simp [intOf]; omega
      · have h0' : ((k : Int) > 0) := by omega
        have h58 : (⟨#[58]⟩ : ByteArray).size = 1 := rfl
        go_wp2
        go_quiet (fail)
        have HO : Hid (s ++ ⟨#[58]⟩ ++ ⟨#[p]⟩ ++ ⟨#[q]⟩ = ⟨(pk l (k + 1)).toArray⟩) := by
          show _ = _
          rw [Hs.out]
          apply ByteArray.ext
          simp [pk, sep, h0, pair, Hp.out, Hq.out, Hx.out]
        have Hz : (s ++ ⟨#[58]⟩ ++ ⟨#[p]⟩ ++ ⟨#[q]⟩ : ByteArray).size ≤ 3 * (k + 1) := by
          rw [ByteArray.size_append, ByteArray.size_append, ByteArray.size_append]
          show s.size + 1 + 1 + 1 ≤ _
          omega
        have Hz := Lib.hid Hz
        clear hI hS1 hS2 w1 w2 w3 w4
        go_wp2
        go_roundw
        case rel => exact ⟨k + 1, _, by omega, by go_num, rfl, Hz.out, HO, below_drewN hb _⟩
        case measure => simp [intOf]; omega
    · have h6 : k = 6 := by omega
      have H6 := Lib.hid h6; clear h6
      go_wp2
      go_returns
      refine ⟨?_, hb⟩
      show Ending.returned (.string s) = _
      rw [Hs.out, H6.out]

theorem refParse_short (s : ByteArray) (w : World) (hs : s.size ≠ 17) (_hl : s.size ≤ 100) :
    Calls Try.prog 29 #[.string s] w fun r w' => r = .returned (.tuple #[.string ⟨#[]⟩, .int .i64 14]) ∧ w = w' := by
  have hne : ((s.size : Int) != 17) = true := by simp; omega
  go_enter Try.func29, Try.ntmps29
  go_wp2
  go_returns
  exact ⟨rfl, rfl⟩

theorem dg_good (c : UInt8) (h : isH c = true) : dg c = (dv c : Int) ∧ dv c < 16 := by
  have : dv c < 16 := by simpa [isH] using h
  exact ⟨by unfold dg; rw [if_pos this], this⟩
theorem dg_bad (c : UInt8) (h : isH c = false) : dg c = -1 := by
  have : ¬ dv c < 16 := by simpa [isH] using h
  unfold dg; rw [if_neg this]

set_option maxHeartbeats 4000000 in
theorem refParse_long (s : ByteArray) (w : World) (hs : s.size = 17) (B : Bool) (hB : B = true ↔ ∀ k, k < 6 → okg s.data.toList k = true) :
    Calls Try.prog 29 #[.string s] w fun r w' => Hid (r = .returned (if B = true then .tuple #[.string ⟨(pl s.data.toList).toArray⟩, .int .i64 0] else .tuple #[.string ⟨#[]⟩, .int .i64 14])) ∧ Below w.heap.size w w' := by
  have HB := Lib.hid hB; clear hB
  obtain ⟨l, Hl⟩ : ∃ l, Hid (l = pl s.data.toList) := ⟨_, rfl⟩
  have hl : l.length = 6 := by rw [Hl.out]; rfl
  rw [← Hl.out]
  obtain ⟨R, HR⟩ : ∃ R, Hid (R = if B = true then Value.tuple #[.string ⟨l.toArray⟩, .int .i64 0] else .tuple #[.string ⟨#[]⟩, .int .i64 14]) := ⟨_, rfl⟩
  rw [← HR.out]
  have hne : ((s.size : Int) != 17) = false := by rw [hs]; rfl
  go_enter Try.func29, Try.ntmps29
  go_wp2
  go_loopw [4, 5] (fun v4 v5 wr => ∃ (k i : Nat) (o : ByteArray), k ≤ 6 ∧ Hid (i = 3 * k) ∧ i ≤ 18 ∧ v5 = .int .i64 i ∧ v4 = .string o ∧ o.size ≤ 6 ∧ Hid (o = ⟨(l.take k).toArray⟩) ∧ Hid (∀ j, j < k → okg s.data.toList j = true) ∧ Below w.heap.size w wr) (fun _ v5 _ => 18 - (intOf v5).toNat)
  case atStart => exact ⟨0, 0, ⟨#[]⟩, Nat.zero_le _, rfl, by omega, rfl, rfl, by decide, rfl, fun j hj => by omega, Below.refl _ _⟩
  case round =>
    obtain ⟨k, i, o, hk, Hi, hi18, rfl, rfl, ho, Ho, Hok, hb⟩ := hrel
    by_cases hlt : i < 17
    · have hk6 : k < 6 := by have := Hi.out; omega
      obtain ⟨c1, Hc1⟩ : ∃ c, Hid (c = at' s.data.toList i) := ⟨_, rfl⟩
      obtain ⟨c2, Hc2⟩ : ∃ c, Hid (c = at' s.data.toList (i + 1)) := ⟨_, rfl⟩
      obtain ⟨c3, Hc3⟩ : ∃ c, Hid (c = at' s.data.toList (i + 2)) := ⟨_, rfl⟩
      have hi16 : i + 1 < 17 := by have := Hi.out; omega
      have hI1 := fun w => index_str s i (by omega) (i : Int) rfl w
      have hI2 := fun w => index_str s (i + 1) (by omega) ((i : Int) + 1) (by omega) w
      rw [← Hc1.out] at hI1
      rw [← Hc2.out] at hI2
      have HOK : Hid (okg s.data.toList k = (isH c1 && isH c2 && (decide (k = 5) || c3 == 58))) := by
        show _ = _
        unfold okg
        rw [← Hi.out, ← Hc1.out, ← Hc2.out, ← Hc3.out]
      have HF : Hid (okg s.data.toList k = false → B = false) := fun h => by
        cases hBb : B
        · rfl
        · have := HB.out.1 hBb k hk6
          rw [this] at h; cases h
      obtain ⟨d1, Hd1⟩ : ∃ d, Hid (d = dg c1) := ⟨_, rfl⟩
      obtain ⟨d2, Hd2⟩ : ∃ d, Hid (d = dg c2) := ⟨_, rfl⟩
      have h47 := fun w => refdigit_any c1 w
      have h47b := fun w => refdigit_any c2 w
      rw [← Hd1.out] at h47
      rw [← Hd2.out] at h47b
      have H47 := Lib.hid h47; clear h47
      have H47b := Lib.hid h47b; clear h47b
      cases h1 : isH c1
      · have hd : d1 = -1 := by rw [Hd1.out]; exact dg_bad c1 h1
        have hd' : d1 < 0 := by omega
        have HD := Lib.hid hd; clear hd
        have HBf := Lib.hid (HF.out (by rw [HOK.out, h1]; rfl))
        clear h1
        go_wp2_with (first
          | (go_at_call 47; (with_reducible refine (H47.out _).mono ?_); rintro e wa ⟨rfl, rfl⟩)
          | (go_at_call 47; (with_reducible refine (H47b.out _).mono ?_); rintro e wb ⟨rfl, rfl⟩))
        go_returns
        refine ⟨?_, hb⟩
        show _ = _
        rw [HR.out, HBf.out]; rfl
      · obtain ⟨e1, l1⟩ := dg_good c1 h1
        have hd1 : 0 ≤ d1 := by rw [Hd1.out, e1]; omega
        have hd1' : d1 < 16 := by rw [Hd1.out, e1]; omega
        have E1 := Lib.hid e1; clear e1
        cases h2 : isH c2
        · have hd : d2 = -1 := by rw [Hd2.out]; exact dg_bad c2 h2
          have hd' : d2 < 0 := by omega
          have HD := Lib.hid hd; clear hd
          have HBf := Lib.hid (HF.out (by rw [HOK.out, h1, h2]; rfl))
          clear h1 h2
          go_wp2_with (first
            | (go_at_call 47; (with_reducible refine (H47.out _).mono ?_); rintro e wa ⟨rfl, rfl⟩)
            | (go_at_call 47; (with_reducible refine (H47b.out _).mono ?_); rintro e wb ⟨rfl, rfl⟩))
          go_returns
          refine ⟨?_, hb⟩
          show _ = _
          rw [HR.out, HBf.out]; rfl
        · obtain ⟨e2, l2⟩ := dg_good c2 h2
          have hd2 : 0 ≤ d2 := by rw [Hd2.out, e2]; omega
          have hd2' : d2 < 16 := by rw [Hd2.out, e2]; omega
          have E2 := Lib.hid e2; clear e2
          have HPB : Hid ((16 * d1 + d2 : Int) = ((pbyte c1 c2).toNat : Int)) := by
            show _ = _
            rw [pbyte_nat c1 c2 l1 l2, Hd1.out, Hd2.out, E1.out, E2.out]
            omega
          have HTK : Hid (l.take (k + 1) = l.take k ++ [pbyte c1 c2]) := by
            show _ = _
            have hkl : k < l.length := by omega
            have : l[k] = pbyte c1 c2 := by
              have h := pl_get s.data.toList k hk6
              rw [← Hl.out, ← Hi.out, ← Hc1.out, ← Hc2.out] at h
              rw [← h]
              simp [hkl]
            rw [List.take_succ_eq_append_getElem hkl, this]
          by_cases h5 : k = 5
          · have hi17 : ¬ ((i : Int) + 2 < 17) := by have := Hi.out; omega
            have HOKt : Hid (okg s.data.toList k = true) := by show _ = _; rw [HOK.out, h1, h2, decide_eq_true h5]; rfl
            have H5 := Lib.hid h5; clear h5 h1 h2
            have hc := conv_one wr (pbyte c1 c2) (16 * d1 + d2) HPB.out
            have hsp : (⟨#[pbyte c1 c2]⟩ : ByteArray).size = 1 := rfl
            go_wp2_with (first
              | (go_at_call 47; (with_reducible refine (H47.out _).mono ?_); rintro e wa ⟨rfl, rfl⟩)
              | (go_at_call 47; (with_reducible refine (H47b.out _).mono ?_); rintro e wb ⟨rfl, rfl⟩))
            go_roundw
            case rel =>
              refine ⟨k + 1, i + 3, o ++ ⟨#[pbyte c1 c2]⟩, by omega, by show _ = _; have := Hi.out; omega, by have := Hi.out; omega, by go_num, rfl, ?_, ?_, ?_, below_new hb _⟩
              · rw [ByteArray.size_append, Ho.out]
                show (l.take k).toArray.size + 1 ≤ 6
                simp; omega
              · show _ = _
                rw [Ho.out, HTK.out]
                apply ByteArray.ext; simp
              · intro j hj
                by_cases e : j = k
                · subst e; exact HOKt.out
                · exact Hok.out j (by omega)
            case measure => simp [intOf]; omega
          · have hi17 : (i : Int) + 2 < 17 := by have := Hi.out; omega
            have hI3 := fun w => index_str s (i + 2) (by omega) ((i : Int) + 2) (by omega) w
            rw [← Hc3.out] at hI3
            by_cases h3 : c3 = 58
            · have HOKt : Hid (okg s.data.toList k = true) := by show _ = _; rw [HOK.out, h1, h2, h3]; simp
              have h58 : ((c3.toNat : Int) != 58) = false := by rw [h3]; rfl
              have H5 := Lib.hid h5; clear h5 h1 h2 h3
              have hc := conv_one wr (pbyte c1 c2) (16 * d1 + d2) HPB.out
              have hsp : (⟨#[pbyte c1 c2]⟩ : ByteArray).size = 1 := rfl
              go_wp2_with (first
                | (go_at_call 47; (with_reducible refine (H47.out _).mono ?_); rintro e wa ⟨rfl, rfl⟩)
                | (go_at_call 47; (with_reducible refine (H47b.out _).mono ?_); rintro e wb ⟨rfl, rfl⟩))
              go_roundw
              case rel =>
                refine ⟨k + 1, i + 3, o ++ ⟨#[pbyte c1 c2]⟩, by omega, by show _ = _; have := Hi.out; omega, by have := Hi.out; omega, by go_num, rfl, ?_, ?_, ?_, below_new hb _⟩
                · rw [ByteArray.size_append, Ho.out]
                  show (l.take k).toArray.size + 1 ≤ 6
                  simp; omega
                · show _ = _
                  rw [Ho.out, HTK.out]
                  apply ByteArray.ext; simp
                · intro j hj
                  by_cases e : j = k
                  · subst e; exact HOKt.out
                  · exact Hok.out j (by omega)
              case measure => simp [intOf]; omega
            · have HBf := Lib.hid (HF.out (by rw [HOK.out, h1, h2, decide_eq_false h5]; simp [h3]))
              have h58 : ((c3.toNat : Int) != 58) = true := by
                have : c3.toNat ≠ 58 := fun e => h3 (UInt8.toNat_inj.1 e)
                simp; omega
              have H5 := Lib.hid h5; clear h5 h1 h2 h3
              go_wp2_with (first
                | (go_at_call 47; (with_reducible refine (H47.out _).mono ?_); rintro e wa ⟨rfl, rfl⟩)
                | (go_at_call 47; (with_reducible refine (H47b.out _).mono ?_); rintro e wb ⟨rfl, rfl⟩))
              go_returns
              refine ⟨?_, hb⟩
              show _ = _
              rw [HR.out, HBf.out]; rfl
    · have h6 : k = 6 := by have := Hi.out; omega
      have HBt : Hid (B = true) := HB.out.2 (h6 ▸ Hok.out)
      have H6 := Lib.hid h6; clear h6
      go_wp2
      go_returns
      refine ⟨?_, hb⟩
      show Ending.returned (.tuple #[.string o, .int .i64 0]) = _
      rw [HR.out, HBt.out, Ho.out, H6.out, ← hl, List.take_length]
      rfl
end Go.Proofs.Ytechdnkkchhaaaa
