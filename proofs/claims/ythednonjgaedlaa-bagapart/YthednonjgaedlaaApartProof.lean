/- For every number, ticks and interval the law BagApart answers true: in any interval of so many ticks no more than Bound frames go. No conditions. -/
import Derived.Test.YthednonjgaedlaaRows
import Derived.Test.YthednonjgaedlaaAp
import Derived.WalkKit
import Derived.Handy
import Derived.Deep.RegionHeld3
import Derived.Deep.CutRange
import Derived.StillTailTactics
import Derived.ProofKit
import Derived.OpenShut
import Derived.ShutString
import Derived.ChangeOld
import Derived.Below
namespace Go.Proofs.Ythednonjgaedlaa
open Go.ChangeShapes Go.WideShapes Go.ChangeAt Go.RowKit
open Go.ChangeMaps (open_string shut_string)
set_option linter.unusedVariables false

theorem bagApart_own : ownKnob Try.prog.godebug = none := by kernel_rfl
theorem bagApart_laid : laidOutB Try.prog = true := by kernel_rfl

set_option maxRecDepth 100000 in
set_option maxHeartbeats 4000000 in
theorem apart_no (x ta tl : Int) (h : ¬ (0 ≤ x ∧ x ≤ 7)) (Ad : Option Addr) (cap : Nat) (l : List Int) (w : World) : Calls Try.prog 5 #[.int .i64 x, .slice Ad l.length cap, .agg #[.int .i64 ta, .int .i64 tl]] w fun e w' => e = .returned (.bool true) ∧ Below w.heap.size w w' := by
  have HA := Lib.hid awake_any
  have A0 : Hid ((w.alloc (.cells #[.int .i64 ta, .int .i64 tl] 43)).heap[w.heap.size]? = some (.cells #[.int .i64 ta, .int .i64 tl] 43)) := heap_alloc_new w _
  have B0 : Hid (Below w.heap.size w (w.alloc (.cells #[.int .i64 ta, .int .i64 tl] 43))) := (Below.refl _ w).alloc (Nat.le_refl _) _
  have H1 := Lib.hid (fun w => new_no x (by omega) w)
  have H2 := Lib.hid (fun w => bound_no x tl (by unfold Fine; omega) w)
  clear h
  go_enter Try.func5, Try.ntmps5
  go_upto_region 1 with (fail)
  generalize w.alloc (.cells #[.int .i64 ta, .int .i64 tl] 43) = W at A0 B0 ⊢
  have a1 : W.cell? ⟨w.heap.size, 1, none⟩ = some (.int .i64 tl) := lies_cell A0.out 1
  go_wp2_with (first
    | (go_at_call 9; (with_reducible refine (H1.out _).mono ?_); rintro e w1 ⟨rfl, rfl⟩)
    | (go_at_call 20; (with_reducible refine (H2.out _).mono ?_); rintro e w1 ⟨rfl, rfl⟩)
    | (go_at_call 11; (with_reducible refine (HA.out _).mono ?_); rintro e w9 ⟨rfl, hb9⟩))
  go_returns
  exact ⟨rfl, B0.out.trans (hb9.mono B0.out.size)⟩

set_option maxRecDepth 100000 in
set_option maxHeartbeats 4000000 in
theorem apart_far (b : Nat) (hb : b ≤ 7) (ta tl : Int) (h : ¬ (0 ≤ tl ∧ tl ≤ 1125899906842624)) (Ad : Option Addr) (cap : Nat) (l : List Int) (w : World) : Calls Try.prog 5 #[.int .i64 b, .slice Ad l.length cap, .agg #[.int .i64 ta, .int .i64 tl]] w fun e w' => e = .returned (.bool true) ∧ Below w.heap.size w w' := by
  have HA := Lib.hid awake_any
  have A0 : Hid ((w.alloc (.cells #[.int .i64 ta, .int .i64 tl] 43)).heap[w.heap.size]? = some (.cells #[.int .i64 ta, .int .i64 tl] 43)) := heap_alloc_new w _
  have B0 : Hid (Below w.heap.size w (w.alloc (.cells #[.int .i64 ta, .int .i64 tl] 43))) := (Below.refl _ w).alloc (Nat.le_refl _) _
  have H2 := Lib.hid (fun w => bound_no b tl (by unfold Fine; omega) w)
  clear h
  have H1 := Lib.hid (new_yes b hb (w.alloc (.cells #[.int .i64 ta, .int .i64 tl] 43)))
  have B1 : Hid (Below w.heap.size w ((w.alloc (.cells #[.int .i64 ta, .int .i64 tl] 43)).alloc (S.new b).obj)) := B0.out.alloc B0.out.size _
  have A1 : Hid (((w.alloc (.cells #[.int .i64 ta, .int .i64 tl] 43)).alloc (S.new b).obj).heap[w.heap.size]? = some (.cells #[.int .i64 ta, .int .i64 tl] 43)) := lies_alloc A0.out _
  clear hb
  go_enter Try.func5, Try.ntmps5
  go_upto_region 1 with (fail)
  generalize w.alloc (.cells #[.int .i64 ta, .int .i64 tl] 43) = W at A0 B0 H1 A1 B1 ⊢
  generalize W.alloc (S.new b).obj = W2 at H1 A1 B1
  have a1 : W2.cell? ⟨w.heap.size, 1, none⟩ = some (.int .i64 tl) := lies_cell A1.out 1
  go_wp2_with (first
    | (go_at_call 9; (with_reducible refine H1.out.mono ?_); rintro e w1 ⟨rfl, rfl⟩)
    | (go_at_call 20; (with_reducible refine (H2.out _).mono ?_); rintro e w1 ⟨rfl, rfl⟩)
    | (go_at_call 11; (with_reducible refine (HA.out _).mono ?_); rintro e w9 ⟨rfl, hb9⟩))
  go_returns
  exact ⟨rfl, B1.out.trans (hb9.mono B1.out.size)⟩

set_option maxRecDepth 100000 in
set_option maxHeartbeats 4000000 in
theorem apart_ok (b : Nat) (hb : b ≤ 7) (ta : Int) (tl : Nat) (hta : (Lit.int .i64 ta).wf = true) (htl : tl ≤ 1125899906842624) (Ad : Option Addr) (cap : Nat) (l : List Int) (w : World) (hx : IntsAt w Ad l) (hz : ∀ o ∈ l, (Lit.int .i64 o).wf = true) : Calls Try.prog 5 #[.int .i64 b, .slice Ad l.length cap, .agg #[.int .i64 ta, .int .i64 tl]] w fun e w' => e = .returned (.bool true) ∧ Below w.heap.size w w' := by
  have HA := Lib.hid awake_any
  have A0 : Hid ((w.alloc (.cells #[.int .i64 ta, .int .i64 tl] 43)).heap[w.heap.size]? = some (.cells #[.int .i64 ta, .int .i64 tl] 43)) := heap_alloc_new w _
  have B0 : Hid (Below w.heap.size w (w.alloc (.cells #[.int .i64 ta, .int .i64 tl] 43))) := (Below.refl _ w).alloc (Nat.le_refl _) _
  have HX := Lib.hid hx; have HZ := Lib.hid hz
  clear hx hz
  have htb := bounds_i64 hta
  clear hta
  obtain ⟨n, Hn⟩ : ∃ n, Hid (l.length = n) := ⟨_, rfl⟩
  rw [Hn.out]
  have H2 := Lib.hid (fun w => bound_yes b tl hb htl w)
  have H1 := Lib.hid (new_yes b hb (w.alloc (.cells #[.int .i64 ta, .int .i64 tl] 43)))
  obtain ⟨P, hP⟩ : ∃ P, (w.alloc (.cells #[.int .i64 ta, .int .i64 tl] 43)).heap.size = P := ⟨_, rfl⟩
  have hP1 : P = w.heap.size + 1 := by rw [← hP, World.size_alloc]
  have K0 : Hid (Al w w.heap.size (some (.cells #[.int .i64 ta, .int .i64 tl] 43)) P (S.new b) ((w.alloc (.cells #[.int .i64 ta, .int .i64 tl] 43)).alloc (S.new b).obj)) := by
    refine ⟨ok_new hb, ?_, B0.out.alloc B0.out.size _, fun o e => ?_, ?_⟩
    · rw [← hP]; exact heap_alloc_new _ _
    · injection e with e; subst e; exact lies_alloc A0.out _
    · omega
  rw [hP] at H1
  have C0 : Hid (Cnt (max ta 0) tl (S.new b) 0) := cnt_zero _ _ _
  have N0 : Hid ((S.new b).n = 0 ∧ (S.new b).b = b) := ⟨rfl, rfl⟩
  clear hP hP1 hb
  go_enter Try.func5, Try.ntmps5
  go_upto_region 1 with (fail)
  generalize w.alloc (.cells #[.int .i64 ta, .int .i64 tl] 43) = W at A0 B0 H1 K0 ⊢
  generalize W.alloc (S.new b).obj = W2 at H1 K0
  generalize S.new b = s0 at K0 C0 N0
  have A2 : Hid (W2.heap[w.heap.size]? = some (.cells #[.int .i64 ta, .int .i64 tl] 43)) := K0.out.op _ rfl
  have a1 : W2.cell? ⟨w.heap.size, 1, none⟩ = some (.int .i64 (tl : Int)) := lies_cell A2.out 1
  clear A0 B0
  go_upto_region 7 with (first
    | (go_at_call 9; (with_reducible refine H1.out.mono ?_); rintro e w1 ⟨rfl, rfl⟩)
    | (go_at_call 20; (with_reducible refine (H2.out _).mono ?_); rintro e w1 ⟨rfl, rfl⟩))
  clear a1 A2 H1 H2
  go_wp2
  go_loopw [11, 12, 13] (fun v11 v12 v13 wr => ∃ (i c : Nat) (s : S), i ≤ n ∧ i ≤ 100 ∧ v11 = .int .i64 c ∧ v12 = .int .i64 s.n ∧ v13 = .int .i64 i ∧ s.n ≤ i ∧ c ≤ i ∧ s.b = b ∧ Cnt (max ta 0) tl s c ∧ Al w w.heap.size (some (.cells #[.int .i64 ta, .int .i64 tl] 43)) P s wr) (fun _ _ v13 _ => n - (intOf v13).toNat)
  case atStart => exact ⟨0, 0, s0, Nat.zero_le _, by omega, rfl, by rw [N0.out.1]; rfl, rfl, by rw [N0.out.1]; exact Nat.le_refl _, Nat.le_refl _, N0.out.2, C0.out, K0.out⟩
  case round =>
    clear K0 C0 N0
    obtain ⟨i, c, s, hi, hi1, rfl, rfl, rfl, hn, hc, hsb, hC, hK⟩ := hrel
    have hK := Lib.hid hK; have hC := Lib.hid hC; have hsb := Lib.hid hsb
    have fin : Hid (c ≤ bound b tl) := by have := cnt_le hC.out; rw [hsb.out] at this; exact this
    have HCO := fun V (h : V = wr) => Lib.hid (show Calls Try.prog 18 #[.pointer (some ⟨P, 0, none⟩)] V fun e w' => e = .returned (.int .i64 s.n) ∧ V = w' from by subst h; exact count_any P s V hK.out.pr)
    obtain ⟨sn, hsn⟩ : ∃ m, s.n = m := ⟨_, rfl⟩
    by_cases hin : i < n
    · have iInt : decide ((i : Int) < (n : Int)) = true := decide_eq_true (by omega)
      have iIn' : decide (i < n) = true := decide_eq_true hin
      have iInt' : (i : Int) < (n : Int) := by omega
      by_cases h200 : i < 100
      · have i200 : decide ((i : Int) < 100) = true := decide_eq_true (by omega)
        have i200' : decide (i < 100) = true := decide_eq_true h200
        have hil : i < l.length := by rw [Hn.out]; exact hin
        obtain ⟨b', off', rfl, hbl, hat⟩ := HX.out.get hil
        have hxz := HZ.out _ (List.getElem_mem hil)
        generalize l[i] = x at hat hxz
        have HI : Hid (b' < w.heap.size) := hbl
        have a0 : wr.cell? ⟨b', off' + i, none⟩ = some (.int .i64 x) := (hK.out.bel.cell (p := ⟨b', off' + i, none⟩) hbl).trans hat
        have HT := Lib.hid (hK.out.take x hxz (by omega))
        by_cases hc0 : s.code x = 0
        · have e2 := took_next hc0
          rw [hc0, e2] at HT
          have HC := Lib.hid hc0
          have en : ((s.took x).n : Int) = (sn : Int) + 1 := by show ((s.n + 1 : Nat) : Int) = _; omega
          have i1 : IntKind.i64.wrap ((sn : Int) + 1) = (sn : Int) + 1 := by rw [IntKind.wrap_i64]; omega
          have i2 : IntKind.i64.wrap ((c : Int) + 1) = (c : Int) + 1 := by rw [IntKind.wrap_i64]; omega
          have hz0 := code_zero hc0
          have HN2 : Hid ((s.took x).n ≤ i + 1 ∧ ((s.took x).n : Int) = (sn : Int) + 1 ∧ (s.took x).b = b) := ⟨by show s.n + 1 ≤ _; omega, en, hsb.out⟩
          have i3 : IntKind.i64.wrap (x - max ta 0) = x - max ta 0 := by rw [IntKind.wrap_i64]; omega
          clear hc0 e2 en
          rw [hsn]
          go_upto_region 12 with (first
            | (go_at_call 12; (with_reducible refine HT.out.mono ?_); rintro e V1 ⟨rfl, hK2⟩; (have K2 := Lib.hid hK2); clear hK2))
          have a1 : V1.cell? ⟨b', off' + i, none⟩ = some (.int .i64 x) := (K2.out.bel.cell (p := ⟨b', off' + i, none⟩) hbl).trans hat
          have A2 : Hid (V1.heap[w.heap.size]? = some (.cells #[.int .i64 ta, .int .i64 tl] 43)) := K2.out.op _ rfl
          have t0 : V1.cell? ⟨w.heap.size, 0, none⟩ = some (.int .i64 ta) := lies_cell A2.out 0
          have t1 : V1.cell? ⟨w.heap.size, 1, none⟩ = some (.int .i64 (tl : Int)) := lies_cell A2.out 1
          clear a0 hat A2 HT HCO fin
          by_cases q1 : ta ≤ x
          · by_cases q2 : ta < 0
            · have em : max ta 0 = 0 := by omega
              have em' : ¬ 0 ≤ ta := by omega
              rw [em] at i3
              have i4 : IntKind.i64.wrap x = x := by rw [IntKind.wrap_i64]; omega
              have i5 : x - 0 = x := by omega
              rw [i5] at i3
              by_cases q3 : x < tl
              · have CN := Lib.hid (cnt_yes hC.out HC.out (by omega) (by omega))
                clear em htb
                go_quiet (fail)
                all_goals
                  have HE := Lib.hid (K2.out.drewN nq)
                  generalize V1.drewN nq = V2 at HE ⊢
                  go_wp2
                  go_roundw
                  case rel => exact ⟨i + 1, c + 1, s.took x, by omega, by omega, by first | rfl | go_num, by rw [HN2.out.2.1], by go_num, HN2.out.1, by omega, HN2.out.2.2, CN.out, HE.out⟩
                  case measure => simp [intOf]; omega
              · have CN := Lib.hid (cnt_no hC.out HC.out)
                clear em htb
                go_quiet (fail)
                all_goals
                  have HE := Lib.hid (K2.out.drewN nq)
                  generalize V1.drewN nq = V2 at HE ⊢
                  go_wp2
                  go_roundw
                  case rel => exact ⟨i + 1, c, s.took x, by omega, by omega, by first | rfl | go_num, by rw [HN2.out.2.1], by go_num, HN2.out.1, by omega, HN2.out.2.2, CN.out, HE.out⟩
                  case measure => simp [intOf]; omega
            · have q2' : 0 ≤ ta := by omega
              have em : max ta 0 = ta := by omega
              rw [em] at i3
              by_cases q3 : x - ta < tl
              · have CN := Lib.hid (cnt_yes hC.out HC.out (by omega) (by omega))
                clear em htb
                go_quiet (fail)
                all_goals
                  have HE := Lib.hid (K2.out.drewN nq)
                  generalize V1.drewN nq = V2 at HE ⊢
                  go_wp2
                  go_roundw
                  case rel => exact ⟨i + 1, c + 1, s.took x, by omega, by omega, by first | rfl | go_num, by rw [HN2.out.2.1], by go_num, HN2.out.1, by omega, HN2.out.2.2, CN.out, HE.out⟩
                  case measure => simp [intOf]; omega
              · have CN := Lib.hid (cnt_no hC.out HC.out)
                clear em htb
                go_quiet (fail)
                all_goals
                  have HE := Lib.hid (K2.out.drewN nq)
                  generalize V1.drewN nq = V2 at HE ⊢
                  go_wp2
                  go_roundw
                  case rel => exact ⟨i + 1, c, s.took x, by omega, by omega, by first | rfl | go_num, by rw [HN2.out.2.1], by go_num, HN2.out.1, by omega, HN2.out.2.2, CN.out, HE.out⟩
                  case measure => simp [intOf]; omega
          · have CN := Lib.hid (cnt_no hC.out HC.out)
            clear i3
            have q1' : x < ta := by omega
            go_quiet (fail)
            all_goals
              have HE := Lib.hid (K2.out.drewN nq)
              generalize V1.drewN nq = V2 at HE ⊢
              go_wp2
              go_roundw
              case rel => exact ⟨i + 1, c, s.took x, by omega, by omega, by first | rfl | go_num, by rw [HN2.out.2.1], by go_num, HN2.out.1, by omega, HN2.out.2.2, CN.out, HE.out⟩
              case measure => simp [intOf]; omega
        · have e2 : s.next x = s := by unfold S.next; rw [if_neg hc0]
          rw [e2] at HT
          have hcb : (s.code x == 0) = false := by simpa using hc0
          generalize s.code x = cx at HT hcb
          clear hc0 e2
          go_upto_region 9 with (first
            | (go_at_call 12; (with_reducible refine HT.out.mono ?_); rintro e V1 ⟨rfl, hK2⟩; (have K2 := Lib.hid hK2); clear hK2))
          clear a0 hat HT HCO
          go_wp2
          go_roundw
          case rel => exact ⟨i + 1, c, s, by omega, by omega, rfl, by rw [hsn], by go_num, by omega, by omega, hsb.out, hC.out, K2.out⟩
          case measure => simp [intOf]; omega
      · have i200 : decide ((i : Int) < 100) = false := decide_eq_false (by omega)
        have i200' : decide (i < 100) = false := decide_eq_false h200
        have finI : (c : Int) ≤ ((bound b tl : Nat) : Int) := by have := fin.out; omega
        have HCW := HCO wr rfl
        generalize bound b tl = Q at finI fin ⊢
        generalize s.n = sn2 at HCW ⊢
        clear HCO
        go_wp2_with (first
          | (go_at_call 18; (with_reducible refine HCW.out.mono ?_); rintro e w1 ⟨rfl, rfl⟩)
          | (go_at_call 11; (with_reducible refine (HA.out _).mono ?_); rintro e w9 ⟨rfl, hb9⟩))
        go_returns
        exact ⟨rfl, hK.out.bel.trans (hb9.mono hK.out.bel.size)⟩
    · have iInt : decide ((i : Int) < (n : Int)) = false := decide_eq_false (by omega)
      have iIn' : decide (i < n) = false := decide_eq_false hin
      have finI : (c : Int) ≤ ((bound b tl : Nat) : Int) := by have := fin.out; omega
      have HCW := HCO wr rfl
      generalize bound b tl = Q at finI fin ⊢
      generalize s.n = sn2 at HCW ⊢
      clear HCO
      go_wp2_with (first
        | (go_at_call 18; (with_reducible refine HCW.out.mono ?_); rintro e w1 ⟨rfl, rfl⟩)
        | (go_at_call 11; (with_reducible refine (HA.out _).mono ?_); rintro e w9 ⟨rfl, hb9⟩))
      go_returns
      exact ⟨rfl, hK.out.bel.trans (hb9.mono hK.out.bel.size)⟩

theorem bagApart_walk (x : Int) (_h1 : (Lit.int .i64 x).wf = true) (Ad : Option Addr) (cap : Nat) (l : List Int) {w0 : World} (hx : IntsAt w0 Ad l) (_hl : l.length ≤ maxLen) (hz : ∀ o ∈ l, (Lit.int .i64 o).wf = true) (ta tl : Int) (ha : (Lit.int .i64 ta).wf = true) (hl2 : (Lit.int .i64 tl).wf = true) (w : World) (hww : w0 = w := by rfl) : Calls Try.prog 5 #[.int .i64 x, .slice Ad l.length cap, .agg #[.int .i64 ta, .int .i64 tl]] w fun e w' => e = .returned (.bool true) ∧ Below w.heap.size w w' := by
  subst hww
  by_cases h : 0 ≤ x ∧ x ≤ 7
  · obtain ⟨b, rfl⟩ := Int.eq_ofNat_of_zero_le h.1
    by_cases h2 : 0 ≤ tl ∧ tl ≤ 1125899906842624
    · obtain ⟨t, rfl⟩ := Int.eq_ofNat_of_zero_le h2.1
      exact apart_ok b (by omega) ta t ha (by omega) Ad cap l _ hx hz
    · exact apart_far b (by omega) ta tl h2 Ad cap l _
  · exact apart_no x ta tl h Ad cap l _


set_option maxRecDepth 100000 in
theorem bagApart_lifted (os : Os) (started : os.Started) (H : Type) (enc : TypeId × Value → H) :
    ReturnsInHanded {} Try.checked os 5 .any (Rows.bagApartSpec.pre6 enc Try.prog Try.f5 Rows.bagApartRow.domain false) (Rows.bagApartSpec.post enc Try.prog Try.f5 false true false false) := by
  refine returnsInHanded_of_change (C := Try.checked) bagApart_own started (by kernel_rfl) Try.func5
    (ChangeSpec.witness6 (enc := enc) (C := Try.checked) false ⟨#[], #[.int .i64 0, .slice none 0 0, .agg #[.int .i64 0, .int .i64 0]], []⟩ 8 (by kernel_rfl) (by kernel_rfl) (by kernel_rfl) (by kernel_rfl)) ?_
  intro W base args ds gs before hval0 hW hcnd _
  have hval : ∀ (j : Nat) t v, Try.f5.params[j]? = some t → args[j]? = some v → Value.okWide Try.prog W .any base t v := hval0
  have hW' := hW
  obtain ⟨p, q, hA0, hV, rfl, hfz, hnd⟩ := hW
  have hA : DataW.TrodAll enc Try.prog W 0 (fun _ => true) true Try.f5.params.toList args.toList ds p := hA0
  rw [Try.params5] at hA hval
  obtain ⟨v0, vs0, d0, ds0, p0, q0, hargs, rfl, rfl, h0, r0⟩ := trodAll_cons hA
  obtain ⟨v1, vs1, d1, ds1, p1, q1, rfl, rfl, rfl, h1, r1⟩ := trodAll_cons r0
  obtain ⟨v2, vs2, d2, ds2, p2, q2, rfl, rfl, rfl, h2, r2⟩ := trodAll_cons r1
  obtain ⟨rfl, rfl, rfl⟩ := trodAll_nil r2
  obtain rfl : args = #[v0, v1, v2] := by cases args; simp_all
  obtain ⟨rfl, rfl⟩ := trodVars_none hV
  obtain ⟨a0, rfl, rfl, rfl, w0⟩ := open_int Try.underlying3 (hval 0 3 v0 rfl rfl) h0
  obtain ⟨c1, len1, cap1, rfl⟩ := okWide_slice Try.underlying42 (hval 1 42 v1 rfl rfl)
  have k1 := h1
  have lt1 : ∀ x ∈ p1, x.block < W.heap.size := by obtain ⟨m, hm⟩ := k1; exact DataW.trod_lt m _ _ _ hm
  obtain ⟨fu1, hf1⟩ := h1
  obtain ⟨Ad1, cap1, l1, e1, hx1, hl1, hz1⟩ := ticks_open (v := .slice c1 len1 cap1) (by simpa [Value.cells] using hf1)
  have k2 := h2
  have lt2 : ∀ x ∈ p2, x.block < W.heap.size := by obtain ⟨m, hm⟩ := k2; exact DataW.trod_lt m _ _ _ hm
  obtain ⟨fu2, hf2⟩ := h2
  obtain ⟨ta2, tl2, ha2, hl2, rfl⟩ := two_open (hval 2 43 v2 rfl rfl) hf2
  clear hA0 hval0
  have hwalk := bagApart_walk a0 w0 Ad1 cap1 l1 hx1 hl1 hz1 ta2 tl2 ha2 hl2 W
  rw [← e1] at hwalk
  refine hwalk.mono fun e W' ⟨he, bel⟩ => ?_
  subst he
  exact ⟨_, rfl, _, _, _, [], _, [], hW', trodAll_mk1 (shut_bool Try.underlying4 _), (trodAll_cons_mk (shut_int Try.underlying3 w0) (trodAll_cons_mk (Below.trod bagApart_laid (by kernel_rfl) (of_decide_eq_true (by kernel_rfl)) k1 bel lt1) (trodAll_cons_mk (Below.trod bagApart_laid (by kernel_rfl) (of_decide_eq_true (by kernel_rfl)) k2 bel lt2) trodAll_mk0))), rfl, bel.frame _, fun h => by cases h⟩

theorem bagApart_over : Rows.bagApartRow.holds Try.pinned (OpenSpec.ofChange Rows.bagApartSpec) :=
  OpenClaim.holds_of_wide 5 Try.f5 rfl rfl rfl rfl rfl rfl rfl ⟨rfl, rfl, rfl, rfl, rfl⟩ rfl rfl rfl rfl rfl (by kernel_rfl) Try.func5 (by kernel_rfl)
    (of_decide_eq_true (by kernel_rfl)) (by unfold Func.isWrapper; first | (rw [if_pos (by decide +kernel)]; kernel_rfl) | (rw [if_neg (by decide +kernel)]; exact ⟨rfl, rfl⟩))
    (fun os started H enc _ => bagApart_lifted os started H enc)

theorem bagApart_holds : Rows.BagApartSaid := bagApart_over
#print axioms bagApart_holds
end Go.Proofs.Ythednonjgaedlaa
