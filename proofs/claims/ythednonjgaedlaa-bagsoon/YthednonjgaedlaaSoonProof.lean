/- For every number, ticks and tick the law BagSoon answers true: a frame that goes as soon as When says goes, and one a tick sooner does not. No conditions. -/
import Derived.Test.YthednonjgaedlaaRows
import Derived.Test.YthednonjgaedlaaAp
import Derived.WalkKit
import Derived.Handy
import Derived.Deep.RegionHeld3
import Derived.Deep.CutRange
import Derived.StillTailTactics
import Derived.ProofKit
import Derived.OpenShut
import Derived.ShutString
import Derived.ChangeOld
import Derived.Below
namespace Go.Proofs.Ythednonjgaedlaa
open Go.ChangeShapes Go.WideShapes Go.ChangeAt Go.RowKit
open Go.ChangeMaps (open_string shut_string)
set_option linter.unusedVariables false

theorem bagSoon_own : ownKnob Try.prog.godebug = none := by kernel_rfl
theorem bagSoon_laid : laidOutB Try.prog = true := by kernel_rfl

theorem wf_tick (x : Int) (h1 : 0 ≤ x) (h2 : x ≤ 9223372036854775807) : (Lit.int .i64 x).wf = true := by
  have e : wrap64 x = x := by unfold wrap64; omega
  have := wrap64_wf x
  rw [e] at this
  exact this
/-- The last frame is at t, or none went. -/
def Lst (s : S) (t : Int) : Prop := (s.g = false ∧ t = -1 ∧ s.l = 0) ∨ (s.g = true ∧ t = s.a ∧ s.a = s.l ∧ s.a ≤ 281474976710656)
theorem lst_took {s : S} {x : Int} (h0 : s.code x = 0) (hx : x ≤ 281474976710656) : Lst (s.took x) x := by
  obtain ⟨h1, h2, h3, h4⟩ := code_zero h0
  refine Or.inr ⟨rfl, ?_, rfl, ?_⟩
  · show x = ((x.toNat : Nat) : Int); omega
  · show x.toNat ≤ _; omega
set_option maxRecDepth 100000 in
set_option maxHeartbeats 4000000 in
theorem soon_no (x z : Int) (h : x < 0 ∨ 7 < x) (Ad : Option Addr) (cap : Nat) (l : List Int) (w : World) : Calls Try.prog 6 #[.int .i64 x, .slice Ad l.length cap, .int .i64 z] w fun e w' => e = .returned (.bool true) ∧ Below w.heap.size w w' := by
  have HA := Lib.hid awake_any
  have H1 := Lib.hid (fun w => new_no x h w)
  clear h
  go_enter Try.func6, Try.ntmps6
  go_wp2_with (first
    | (go_at_call 9; (with_reducible refine (H1.out _).mono ?_); rintro e w1 ⟨rfl, rfl⟩)
    | (go_at_call 11; (with_reducible refine (HA.out _).mono ?_); rintro e w9 ⟨rfl, hb9⟩))
  go_returns
  exact ⟨rfl, hb9⟩

set_option maxRecDepth 100000 in
set_option maxHeartbeats 4000000 in
theorem soon_far (b : Nat) (hb : b ≤ 7) (z : Int) (h : z < 0 ∨ 281474976710656 < z) (Ad : Option Addr) (cap : Nat) (l : List Int) (w : World) : Calls Try.prog 6 #[.int .i64 b, .slice Ad l.length cap, .int .i64 z] w fun e w' => e = .returned (.bool true) ∧ Below w.heap.size w w' := by
  have HA := Lib.hid awake_any
  have H1 := Lib.hid (new_yes b hb w)
  have B1 : Hid (Below w.heap.size w (w.alloc (S.new b).obj)) := (Below.refl _ w).alloc (Nat.le_refl _) _
  generalize w.alloc (S.new b).obj = W at H1 B1
  clear hb
  rcases h with h | h
  · go_enter Try.func6, Try.ntmps6
    go_wp2_with (first
      | (go_at_call 9; (with_reducible refine H1.out.mono ?_); rintro e w1 ⟨rfl, rfl⟩)
      | (go_at_call 11; (with_reducible refine (HA.out _).mono ?_); rintro e w9 ⟨rfl, hb9⟩))
    go_returns
    exact ⟨rfl, B1.out.trans (hb9.mono B1.out.size)⟩
  · have h' : ¬ z < 0 := by omega
    go_enter Try.func6, Try.ntmps6
    go_wp2_with (first
      | (go_at_call 9; (with_reducible refine H1.out.mono ?_); rintro e w1 ⟨rfl, rfl⟩)
      | (go_at_call 11; (with_reducible refine (HA.out _).mono ?_); rintro e w9 ⟨rfl, hb9⟩))
    go_returns
    exact ⟨rfl, B1.out.trans (hb9.mono B1.out.size)⟩

set_option maxRecDepth 100000 in
set_option maxHeartbeats 4000000 in
theorem soon_ok (b : Nat) (hb : b ≤ 7) (z : Int) (hz1 : 0 ≤ z) (hz2 : z ≤ 281474976710656) (Ad : Option Addr) (cap : Nat) (l : List Int) (w : World) (hx : IntsAt w Ad l) (hz : ∀ o ∈ l, (Lit.int .i64 o).wf = true) : Calls Try.prog 6 #[.int .i64 b, .slice Ad l.length cap, .int .i64 z] w fun e w' => e = .returned (.bool true) ∧ Below w.heap.size w w' := by
  have HA := Lib.hid awake_any
  have HX := Lib.hid hx; have HZ := Lib.hid hz
  clear hx hz
  obtain ⟨n, Hn⟩ : ∃ n, Hid (l.length = n) := ⟨_, rfl⟩
  rw [Hn.out]
  have H1 := Lib.hid (new_yes b hb w)
  have K0 : Hid (Al w w.heap.size none w.heap.size (S.new b) (w.alloc (S.new b).obj)) :=
    ⟨ok_new hb, heap_alloc_new _ _, (Below.refl _ w).alloc (Nat.le_refl _) _, fun o e => (by cases e), ⟨Nat.le_refl _, fun h => absurd rfl h⟩⟩
  have C0 : Hid (Lst (S.new b) (-1)) := Or.inl ⟨rfl, rfl, rfl⟩
  have N0 : Hid ((S.new b).n ≤ 0) := Nat.le_refl _
  generalize w.alloc (S.new b).obj = W at H1 K0
  generalize S.new b = s0 at K0 C0 N0
  clear hb
  have z1 : ¬ z < 0 := by omega
  have z2 : ¬ 281474976710656 < z := by omega
  go_enter Try.func6, Try.ntmps6
  go_upto_region 5 with (first
    | (go_at_call 9; (with_reducible refine H1.out.mono ?_); rintro e w1 ⟨rfl, rfl⟩))
  clear H1 z1 z2
  go_wp2
  go_loopw [9, 10] (fun v9 v10 wr => ∃ (i : Nat) (t : Int) (s : S), i ≤ n ∧ i ≤ 100 ∧ v9 = .int .i64 t ∧ v10 = .int .i64 i ∧ s.n ≤ i ∧ Lst s t ∧ Al w w.heap.size none w.heap.size s wr) (fun _ v10 _ => n - (intOf v10).toNat)
  case atStart => exact ⟨0, -1, s0, Nat.zero_le _, by omega, rfl, rfl, N0.out, C0.out, K0.out⟩
  case round =>
    clear K0 C0 N0
    obtain ⟨i, t, s, hi, hi1, rfl, rfl, hn, hL, hK⟩ := hrel
    have hK := Lib.hid hK; have hL := Lib.hid hL
    by_cases hin : i < n
    · have iInt : decide ((i : Int) < (n : Int)) = true := decide_eq_true (by omega)
      have iIn' : decide (i < n) = true := decide_eq_true hin
      have iInt' : (i : Int) < (n : Int) := by omega
      by_cases h200 : i < 100
      · have i200 : decide ((i : Int) < 100) = true := decide_eq_true (by omega)
        have i200' : decide (i < 100) = true := decide_eq_true h200
        have hil : i < l.length := by rw [Hn.out]; exact hin
        obtain ⟨b', off', rfl, hbl, hat⟩ := HX.out.get hil
        have hxz := HZ.out _ (List.getElem_mem hil)
        generalize l[i] = x at hat hxz
        have HI : Hid (b' < w.heap.size) := hbl
        have a0 : wr.cell? ⟨b', off' + i, none⟩ = some (.int .i64 x) := (hK.out.bel.cell (p := ⟨b', off' + i, none⟩) hbl).trans hat
        have HAT := Lib.hid hat
        clear hat
        by_cases q : x ≤ 281474976710656
        · have HT := Lib.hid (hK.out.take x hxz (by omega))
          by_cases hc0 : s.code x = 0
          · have e2 := took_next hc0
            rw [hc0, e2] at HT
            have CL := Lib.hid (lst_took hc0 q)
            have HN : Hid ((s.took x).n ≤ i + 1) := by show s.n + 1 ≤ _; omega
            generalize s.took x = s2 at HT CL HN
            clear hc0 e2
            go_upto_region 9 with (first
              | (go_at_call 12; (with_reducible refine HT.out.mono ?_); rintro e V1 ⟨rfl, hK2⟩; (have K2 := Lib.hid hK2); clear hK2))
            have a1 : V1.cell? ⟨b', off' + i, none⟩ = some (.int .i64 x) := (K2.out.bel.cell (p := ⟨b', off' + i, none⟩) hbl).trans HAT.out
            clear a0 HT
            go_wp2
            go_roundw
            case rel => exact ⟨i + 1, x, s2, by omega, by omega, rfl, by go_num, HN.out, CL.out, K2.out⟩
            case measure => simp [intOf]; omega
          · have e2 : s.next x = s := by unfold S.next; rw [if_neg hc0]
            rw [e2] at HT
            have hcb : (s.code x == 0) = false := by simpa using hc0
            generalize s.code x = cx at HT hcb
            clear hc0 e2
            go_upto_region 7 with (first
              | (go_at_call 12; (with_reducible refine HT.out.mono ?_); rintro e V1 ⟨rfl, hK2⟩; (have K2 := Lib.hid hK2); clear hK2))
            clear a0 HT
            go_wp2
            go_roundw
            case rel => exact ⟨i + 1, t, s, by omega, by omega, rfl, by go_num, by omega, hL.out, K2.out⟩
            case measure => simp [intOf]; omega
        · have q' : 281474976710656 < x := by omega
          go_wp2
          go_roundw
          case rel => exact ⟨i + 1, t, s, by omega, by omega, rfl, by go_num, by omega, hL.out, hK.out⟩
          case measure => simp [intOf]; omega
      · have i200 : decide ((i : Int) < 100) = false := decide_eq_false (by omega)
        have i200' : decide (i < 100) = false := decide_eq_false h200
        go_upto_region 10 with (fail)
        clear i200 i200'
        by_cases q1 : z < t
        · go_wp2_with (first | (go_at_call 11; (with_reducible refine (HA.out _).mono ?_); rintro e w9 ⟨rfl, hb9⟩))
          go_returns
          exact ⟨rfl, hK.out.bel.trans (hb9.mono hK.out.bel.size)⟩
        · have q1' : t ≤ z := by omega
          have HW : Hid (∀ V, V = wr → Calls Try.prog 14 #[.pointer (some ⟨w.heap.size, 0, none⟩), .int .i64 z] V fun e w' => e = .returned (.int .i64 (s.soon z)) ∧ Al w w.heap.size none w.heap.size s w') := fun V hV => by
            subst hV
            exact (when_any w.heap.size s hK.out.ok z (wf_tick z hz1 (by omega)) V hK.out.pr).mono fun e w' ⟨h1, k, h2⟩ => ⟨h1, by rw [h2]; exact hK.out.drewN k⟩
          have HP : Hid (∀ V, Al w w.heap.size none w.heap.size s V → Calls Try.prog 19 #[.pointer (some ⟨w.heap.size, 0, none⟩)] V fun e w' => e = .returned (.int .i64 (gap s.b : Nat)) ∧ V = w') := fun V h => perM_any w.heap.size s h.ok.b V h.pr
          have HT : Hid (∀ V, Al w w.heap.size none w.heap.size s V → ∀ x : Int, 0 ≤ x → x ≤ 1125899906842624 → ∀ o, s.code x = o → Calls Try.prog 12 #[.pointer (some ⟨w.heap.size, 0, none⟩), .int .i64 x] V fun e w' => e = .returned (.int .i64 o) ∧ (o ≠ 0 → Al w w.heap.size none w.heap.size s w') ∧ Below w.heap.size w w') := fun V h x h1 h2 o ho => by
            have := h.take x (wf_tick x h1 (by omega)) (by omega)
            rw [ho] at this
            exact this.mono fun e w' ⟨k1, k2⟩ => ⟨k1, fun hne => by have e : s.next x = s := by unfold S.next; rw [if_neg (by rw [ho]; exact hne)]
                                                                    rw [e] at k2; exact k2, k2.bel⟩
          have hgl := gap_le hK.out.ok.b
          have hgg := gap_ge s.b
          rcases hL.out with ⟨g0, rfl, l0⟩ | ⟨g1, rfl, l1, l2⟩
          · have es : s.soon z = z := by unfold S.soon; rw [g0]; rfl
            have ec : s.code z = 0 := by unfold S.code; rw [if_neg (by omega), if_neg (by omega), if_neg (by rw [g0]; intro h; exact absurd h.1 (by decide))]
            rw [es] at HW
            have HT1 := Lib.hid (fun V h => HT.out V h z hz1 (by omega) 0 ec)
            clear es ec g0 l0 hgl hgg HT HP
            go_wp2_with (first
              | (go_at_call 14; (with_reducible refine (HW.out _ rfl).mono ?_); rintro e w1 ⟨rfl, hm⟩; (have KA := Lib.hid hm); clear hm)
              | (go_at_call 12; (with_reducible refine (HT1.out _ KA.out).mono ?_); rintro e w2 ⟨rfl, _, hm⟩; (have KB := Lib.hid hm); clear hm)
              | (go_at_call 11; (with_reducible refine (HA.out _).mono ?_); rintro e w9 ⟨rfl, hb9⟩))
            go_returns
            exact ⟨rfl, KB.out.trans (hb9.mono KB.out.size)⟩
          · by_cases q3 : z < (s.a : Int) + (gap s.b : Nat)
            · have es : s.soon z = (s.a : Int) + (gap s.b : Nat) := by unfold S.soon; rw [if_pos g1]; omega
              have ec1 : s.code ((s.a : Int) + (gap s.b : Nat) - 1) = 26 := by unfold S.code; rw [if_neg (by omega), if_neg (by omega), if_pos ⟨g1, by omega⟩]
              have ec2 : s.code ((s.a : Int) + (gap s.b : Nat)) = 0 := by unfold S.code; rw [if_neg (by omega), if_neg (by omega), if_neg (by intro h; have := h.2; omega)]
              rw [es] at HW
              have HT1 := Lib.hid (fun V h => HT.out V h _ (by omega) (by omega) 26 ec1)
              have HT2 := Lib.hid (fun V h => HT.out V h _ (by omega) (by omega) 0 ec2)
              have i1 : IntKind.i64.wrap ((s.a : Int) + (gap s.b : Nat)) = (s.a : Int) + (gap s.b : Nat) := by rw [IntKind.wrap_i64]; omega
              have i2 : IntKind.i64.wrap ((s.a : Int) + (gap s.b : Nat) - 1) = (s.a : Int) + (gap s.b : Nat) - 1 := by rw [IntKind.wrap_i64]; omega
              have i3 : (0 : Int) ≤ (s.a : Int) := by omega
              have i4 : ¬ ((s.a : Int) + (gap s.b : Nat) < z) := by omega
              clear es ec1 ec2 l1 l2 hgl HT g1 hgg
              generalize gap s.b = G at q3 HW HT1 HT2 HP i1 i2 i4
              generalize hsa : s.a = a at q3 HW HT1 HT2 i1 i2 i3 i4 q1 q1' ⊢
              clear hsa
              generalize hy : (a : Int) + (G : Int) = y at q3 HW HT1 HT2 i1 i2 i4
              generalize hy1 : y - 1 = y1 at HT1 i2
              go_wp2_with (first
                | (go_at_call 14; (with_reducible refine (HW.out _ rfl).mono ?_); rintro e w1 ⟨rfl, hm⟩; (have KA := Lib.hid hm); clear hm)
                | (go_at_call 19; (with_reducible refine (HP.out _ KA.out).mono ?_); rintro e w3 ⟨rfl, rfl⟩)
                | (go_at_call 12; (with_reducible refine (HT1.out _ KA.out).mono ?_); rintro e w2 ⟨rfl, hm, _⟩; (have KC := Lib.hid (hm (by decide))); clear hm)
                | (go_at_call 12; (with_reducible refine (HT2.out _ KC.out).mono ?_); rintro e w2 ⟨rfl, _, hm⟩; (have KB := Lib.hid hm); clear hm)
                | (go_at_call 11; (with_reducible refine (HA.out _).mono ?_); rintro e w9 ⟨rfl, hb9⟩))
              go_returns
              exact ⟨rfl, KB.out.trans (hb9.mono KB.out.size)⟩
            · have es : s.soon z = z := by unfold S.soon; rw [if_pos g1]; omega
              have ec : s.code z = 0 := by unfold S.code; rw [if_neg (by omega), if_neg (by omega), if_neg (by intro h; exact q3 h.2)]
              rw [es] at HW
              have HT1 := Lib.hid (fun V h => HT.out V h z hz1 (by omega) 0 ec)
              obtain ⟨y, hy⟩ : ∃ y : Int, (s.a : Int) + (gap s.b : Nat) = y := ⟨_, rfl⟩
              have i1 : IntKind.i64.wrap ((s.a : Int) + (gap s.b : Nat)) = y := by rw [← hy, IntKind.wrap_i64]; omega
              rw [hy] at q3
              clear hy
              have i3 : (0 : Int) ≤ (s.a : Int) := by omega
              clear es ec l1 l2 hgl HT g1 hgg
              generalize gap s.b = G at HP i1
              generalize hsa : s.a = a at i1 i3 q1 q1' ⊢
              clear hsa
              go_wp2_with (first
                | (go_at_call 14; (with_reducible refine (HW.out _ rfl).mono ?_); rintro e w1 ⟨rfl, hm⟩; (have KA := Lib.hid hm); clear hm)
                | (go_at_call 19; (with_reducible refine (HP.out _ KA.out).mono ?_); rintro e w3 ⟨rfl, rfl⟩)
                | (go_at_call 12; (with_reducible refine (HT1.out _ KA.out).mono ?_); rintro e w2 ⟨rfl, _, hm⟩; (have KB := Lib.hid hm); clear hm)
                | (go_at_call 11; (with_reducible refine (HA.out _).mono ?_); rintro e w9 ⟨rfl, hb9⟩))
              go_returns
              exact ⟨rfl, KB.out.trans (hb9.mono KB.out.size)⟩
    · have iInt : decide ((i : Int) < (n : Int)) = false := decide_eq_false (by omega)
      have iIn' : decide (i < n) = false := decide_eq_false hin
      go_upto_region 10 with (fail)
      clear iInt iIn'
      by_cases q1 : z < t
      · go_wp2_with (first | (go_at_call 11; (with_reducible refine (HA.out _).mono ?_); rintro e w9 ⟨rfl, hb9⟩))
        go_returns
        exact ⟨rfl, hK.out.bel.trans (hb9.mono hK.out.bel.size)⟩
      · have q1' : t ≤ z := by omega
        have HW : Hid (∀ V, V = wr → Calls Try.prog 14 #[.pointer (some ⟨w.heap.size, 0, none⟩), .int .i64 z] V fun e w' => e = .returned (.int .i64 (s.soon z)) ∧ Al w w.heap.size none w.heap.size s w') := fun V hV => by
          subst hV
          exact (when_any w.heap.size s hK.out.ok z (wf_tick z hz1 (by omega)) V hK.out.pr).mono fun e w' ⟨h1, k, h2⟩ => ⟨h1, by rw [h2]; exact hK.out.drewN k⟩
        have HP : Hid (∀ V, Al w w.heap.size none w.heap.size s V → Calls Try.prog 19 #[.pointer (some ⟨w.heap.size, 0, none⟩)] V fun e w' => e = .returned (.int .i64 (gap s.b : Nat)) ∧ V = w') := fun V h => perM_any w.heap.size s h.ok.b V h.pr
        have HT : Hid (∀ V, Al w w.heap.size none w.heap.size s V → ∀ x : Int, 0 ≤ x → x ≤ 1125899906842624 → ∀ o, s.code x = o → Calls Try.prog 12 #[.pointer (some ⟨w.heap.size, 0, none⟩), .int .i64 x] V fun e w' => e = .returned (.int .i64 o) ∧ (o ≠ 0 → Al w w.heap.size none w.heap.size s w') ∧ Below w.heap.size w w') := fun V h x h1 h2 o ho => by
          have := h.take x (wf_tick x h1 (by omega)) (by omega)
          rw [ho] at this
          exact this.mono fun e w' ⟨k1, k2⟩ => ⟨k1, fun hne => by have e : s.next x = s := by unfold S.next; rw [if_neg (by rw [ho]; exact hne)]
                                                                  rw [e] at k2; exact k2, k2.bel⟩
        have hgl := gap_le hK.out.ok.b
        have hgg := gap_ge s.b
        rcases hL.out with ⟨g0, rfl, l0⟩ | ⟨g1, rfl, l1, l2⟩
        · have es : s.soon z = z := by unfold S.soon; rw [g0]; rfl
          have ec : s.code z = 0 := by unfold S.code; rw [if_neg (by omega), if_neg (by omega), if_neg (by rw [g0]; intro h; exact absurd h.1 (by decide))]
          rw [es] at HW
          have HT1 := Lib.hid (fun V h => HT.out V h z hz1 (by omega) 0 ec)
          clear es ec g0 l0 hgl hgg HT HP
          go_wp2_with (first
            | (go_at_call 14; (with_reducible refine (HW.out _ rfl).mono ?_); rintro e w1 ⟨rfl, hm⟩; (have KA := Lib.hid hm); clear hm)
            | (go_at_call 12; (with_reducible refine (HT1.out _ KA.out).mono ?_); rintro e w2 ⟨rfl, _, hm⟩; (have KB := Lib.hid hm); clear hm)
            | (go_at_call 11; (with_reducible refine (HA.out _).mono ?_); rintro e w9 ⟨rfl, hb9⟩))
          go_returns
          exact ⟨rfl, KB.out.trans (hb9.mono KB.out.size)⟩
        · by_cases q3 : z < (s.a : Int) + (gap s.b : Nat)
          · have es : s.soon z = (s.a : Int) + (gap s.b : Nat) := by unfold S.soon; rw [if_pos g1]; omega
            have ec1 : s.code ((s.a : Int) + (gap s.b : Nat) - 1) = 26 := by unfold S.code; rw [if_neg (by omega), if_neg (by omega), if_pos ⟨g1, by omega⟩]
            have ec2 : s.code ((s.a : Int) + (gap s.b : Nat)) = 0 := by unfold S.code; rw [if_neg (by omega), if_neg (by omega), if_neg (by intro h; have := h.2; omega)]
            rw [es] at HW
            have HT1 := Lib.hid (fun V h => HT.out V h _ (by omega) (by omega) 26 ec1)
            have HT2 := Lib.hid (fun V h => HT.out V h _ (by omega) (by omega) 0 ec2)
            have i1 : IntKind.i64.wrap ((s.a : Int) + (gap s.b : Nat)) = (s.a : Int) + (gap s.b : Nat) := by rw [IntKind.wrap_i64]; omega
            have i2 : IntKind.i64.wrap ((s.a : Int) + (gap s.b : Nat) - 1) = (s.a : Int) + (gap s.b : Nat) - 1 := by rw [IntKind.wrap_i64]; omega
            have i3 : (0 : Int) ≤ (s.a : Int) := by omega
            have i4 : ¬ ((s.a : Int) + (gap s.b : Nat) < z) := by omega
            clear es ec1 ec2 l1 l2 hgl HT g1 hgg
            generalize gap s.b = G at q3 HW HT1 HT2 HP i1 i2 i4
            generalize hsa : s.a = a at q3 HW HT1 HT2 i1 i2 i3 i4 q1 q1' ⊢
            clear hsa
            generalize hy : (a : Int) + (G : Int) = y at q3 HW HT1 HT2 i1 i2 i4
            generalize hy1 : y - 1 = y1 at HT1 i2
            go_wp2_with (first
              | (go_at_call 14; (with_reducible refine (HW.out _ rfl).mono ?_); rintro e w1 ⟨rfl, hm⟩; (have KA := Lib.hid hm); clear hm)
              | (go_at_call 19; (with_reducible refine (HP.out _ KA.out).mono ?_); rintro e w3 ⟨rfl, rfl⟩)
              | (go_at_call 12; (with_reducible refine (HT1.out _ KA.out).mono ?_); rintro e w2 ⟨rfl, hm, _⟩; (have KC := Lib.hid (hm (by decide))); clear hm)
              | (go_at_call 12; (with_reducible refine (HT2.out _ KC.out).mono ?_); rintro e w2 ⟨rfl, _, hm⟩; (have KB := Lib.hid hm); clear hm)
              | (go_at_call 11; (with_reducible refine (HA.out _).mono ?_); rintro e w9 ⟨rfl, hb9⟩))
            go_returns
            exact ⟨rfl, KB.out.trans (hb9.mono KB.out.size)⟩
          · have es : s.soon z = z := by unfold S.soon; rw [if_pos g1]; omega
            have ec : s.code z = 0 := by unfold S.code; rw [if_neg (by omega), if_neg (by omega), if_neg (by intro h; exact q3 h.2)]
            rw [es] at HW
            have HT1 := Lib.hid (fun V h => HT.out V h z hz1 (by omega) 0 ec)
            obtain ⟨y, hy⟩ : ∃ y : Int, (s.a : Int) + (gap s.b : Nat) = y := ⟨_, rfl⟩
            have i1 : IntKind.i64.wrap ((s.a : Int) + (gap s.b : Nat)) = y := by rw [← hy, IntKind.wrap_i64]; omega
            rw [hy] at q3
            clear hy
            have i3 : (0 : Int) ≤ (s.a : Int) := by omega
            clear es ec l1 l2 hgl HT g1 hgg
            generalize gap s.b = G at HP i1
            generalize hsa : s.a = a at i1 i3 q1 q1' ⊢
            clear hsa
            go_wp2_with (first
              | (go_at_call 14; (with_reducible refine (HW.out _ rfl).mono ?_); rintro e w1 ⟨rfl, hm⟩; (have KA := Lib.hid hm); clear hm)
              | (go_at_call 19; (with_reducible refine (HP.out _ KA.out).mono ?_); rintro e w3 ⟨rfl, rfl⟩)
              | (go_at_call 12; (with_reducible refine (HT1.out _ KA.out).mono ?_); rintro e w2 ⟨rfl, _, hm⟩; (have KB := Lib.hid hm); clear hm)
              | (go_at_call 11; (with_reducible refine (HA.out _).mono ?_); rintro e w9 ⟨rfl, hb9⟩))
            go_returns
            exact ⟨rfl, KB.out.trans (hb9.mono KB.out.size)⟩

theorem bagSoon_walk (x : Int) (_h1 : (Lit.int .i64 x).wf = true) (Ad : Option Addr) (cap : Nat) (l : List Int) {w0 : World} (hx : IntsAt w0 Ad l) (_hl : l.length ≤ maxLen) (hz : ∀ o ∈ l, (Lit.int .i64 o).wf = true) (z : Int) (_h2 : (Lit.int .i64 z).wf = true) (w : World) (hww : w0 = w := by rfl) : Calls Try.prog 6 #[.int .i64 x, .slice Ad l.length cap, .int .i64 z] w fun e w' => e = .returned (.bool true) ∧ Below w.heap.size w w' := by
  subst hww
  by_cases h : 0 ≤ x ∧ x ≤ 7
  · obtain ⟨b, rfl⟩ := Int.eq_ofNat_of_zero_le h.1
    by_cases h2 : 0 ≤ z ∧ z ≤ 281474976710656
    · exact soon_ok b (by omega) z h2.1 h2.2 Ad cap l _ hx hz
    · exact soon_far b (by omega) z (by omega) Ad cap l _
  · exact soon_no x z (by omega) Ad cap l _


set_option maxRecDepth 100000 in
theorem bagSoon_lifted (os : Os) (started : os.Started) (H : Type) (enc : TypeId × Value → H) :
    ReturnsInHanded {} Try.checked os 6 .any (Rows.bagSoonSpec.pre6 enc Try.prog Try.f6 Rows.bagSoonRow.domain false) (Rows.bagSoonSpec.post enc Try.prog Try.f6 false true false false) := by
  refine returnsInHanded_of_change (C := Try.checked) bagSoon_own started (by kernel_rfl) Try.func6
    (ChangeSpec.witness6 (enc := enc) (C := Try.checked) false ⟨#[], #[.int .i64 0, .slice none 0 0, .int .i64 0], []⟩ 8 (by kernel_rfl) (by kernel_rfl) (by kernel_rfl) (by kernel_rfl)) ?_
  intro W base args ds gs before hval0 hW hcnd _
  have hval : ∀ (j : Nat) t v, Try.f6.params[j]? = some t → args[j]? = some v → Value.okWide Try.prog W .any base t v := hval0
  have hW' := hW
  obtain ⟨p, q, hA0, hV, rfl, hfz, hnd⟩ := hW
  have hA : DataW.TrodAll enc Try.prog W 0 (fun _ => true) true Try.f6.params.toList args.toList ds p := hA0
  rw [Try.params6] at hA hval
  obtain ⟨v0, vs0, d0, ds0, p0, q0, hargs, rfl, rfl, h0, r0⟩ := trodAll_cons hA
  obtain ⟨v1, vs1, d1, ds1, p1, q1, rfl, rfl, rfl, h1, r1⟩ := trodAll_cons r0
  obtain ⟨v2, vs2, d2, ds2, p2, q2, rfl, rfl, rfl, h2, r2⟩ := trodAll_cons r1
  obtain ⟨rfl, rfl, rfl⟩ := trodAll_nil r2
  obtain rfl : args = #[v0, v1, v2] := by cases args; simp_all
  obtain ⟨rfl, rfl⟩ := trodVars_none hV
  obtain ⟨a0, rfl, rfl, rfl, w0⟩ := open_int Try.underlying3 (hval 0 3 v0 rfl rfl) h0
  obtain ⟨c1, len1, cap1, rfl⟩ := okWide_slice Try.underlying42 (hval 1 42 v1 rfl rfl)
  have k1 := h1
  have lt1 : ∀ x ∈ p1, x.block < W.heap.size := by obtain ⟨m, hm⟩ := k1; exact DataW.trod_lt m _ _ _ hm
  obtain ⟨fu1, hf1⟩ := h1
  obtain ⟨Ad1, cap1, l1, e1, hx1, hl1, hz1⟩ := ticks_open (v := .slice c1 len1 cap1) (by simpa [Value.cells] using hf1)
  obtain ⟨a2, rfl, rfl, rfl, w2⟩ := open_int Try.underlying3 (hval 2 3 v2 rfl rfl) h2
  clear hA0 hval0
  have hwalk := bagSoon_walk a0 w0 Ad1 cap1 l1 hx1 hl1 hz1 a2 w2 W
  rw [← e1] at hwalk
  refine hwalk.mono fun e W' ⟨he, bel⟩ => ?_
  subst he
  exact ⟨_, rfl, _, _, _, [], _, [], hW', trodAll_mk1 (shut_bool Try.underlying4 _), (trodAll_cons_mk (shut_int Try.underlying3 w0) (trodAll_cons_mk (Below.trod bagSoon_laid (by kernel_rfl) (of_decide_eq_true (by kernel_rfl)) k1 bel lt1) (trodAll_cons_mk (shut_int Try.underlying3 w2) trodAll_mk0))), rfl, bel.frame _, fun h => by cases h⟩

theorem bagSoon_over : Rows.bagSoonRow.holds Try.pinned (OpenSpec.ofChange Rows.bagSoonSpec) :=
  OpenClaim.holds_of_wide 6 Try.f6 rfl rfl rfl rfl rfl rfl rfl ⟨rfl, rfl, rfl, rfl, rfl⟩ rfl rfl rfl rfl rfl (by kernel_rfl) Try.func6 (by kernel_rfl)
    (of_decide_eq_true (by kernel_rfl)) (by unfold Func.isWrapper; first | (rw [if_pos (by decide +kernel)]; kernel_rfl) | (rw [if_neg (by decide +kernel)]; exact ⟨rfl, rfl⟩))
    (fun os started H enc _ => bagSoon_lifted os started H enc)

theorem bagSoon_holds : Rows.BagSoonSaid := bagSoon_over
#print axioms bagSoon_holds
end Go.Proofs.Ythednonjgaedlaa
