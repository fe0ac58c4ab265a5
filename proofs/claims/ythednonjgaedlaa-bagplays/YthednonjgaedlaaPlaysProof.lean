/- For every number and calls the law BagPlays answers true: a regulator answers each call as the document's. No conditions. -/
import Derived.Test.YthednonjgaedlaaRows
import Derived.Test.YthednonjgaedlaaPz
import Derived.WalkKit
import Derived.Handy
import Derived.Deep.RegionHeld3
import Derived.Deep.CutRange
import Derived.StillTailTactics
import Derived.ProofKit
import Derived.OpenShut
import Derived.ShutString
import Derived.ChangeOld
import Derived.Below
namespace Go.Proofs.Ythednonjgaedlaa
open Go.ChangeShapes Go.WideShapes Go.ChangeAt Go.RowKit
open Go.ChangeMaps (open_string shut_string)
set_option linter.unusedVariables false

theorem bagPlays_own : ownKnob Try.prog.godebug = none := by kernel_rfl
theorem bagPlays_laid : laidOutB Try.prog = true := by kernel_rfl

set_option maxRecDepth 100000 in
set_option maxHeartbeats 4000000 in
theorem plays_no (x : Int) (h : x < 0 ∨ 7 < x) (Ad : Option Addr) (n cap : Nat) (w : World) :
    Calls Try.prog 3 #[.int .i64 x, .slice Ad n cap] w fun e w' => e = .returned (.bool true) ∧ Below w.heap.size w w' := by
  have HA := Lib.hid awake_any
  have H1 := Lib.hid (fun w => new_no x h w)
  have H2 := Lib.hid (fun w => rnew_no x h w)
  clear h
  go_enter Try.func3, Try.ntmps3
  go_wp2_with (first
    | (go_at_call 9; (with_reducible refine (H1.out _).mono ?_); rintro e w1 ⟨rfl, rfl⟩)
    | (go_at_call 10; (with_reducible refine (H2.out _).mono ?_); rintro e w1 ⟨rfl, rfl⟩)
    | (go_at_call 11; (with_reducible refine (HA.out _).mono ?_); rintro e w9 ⟨rfl, hb9⟩))
  go_returns
  exact ⟨rfl, hb9⟩

set_option maxRecDepth 100000 in
set_option maxHeartbeats 4000000 in
theorem plays_ok (b : Nat) (hb : b ≤ 7) (Ad : Option Addr) (cap : Nat) (l : List Ox) (w : World) (hx : OxsAt w Ad l) (hz : ∀ o ∈ l, o.Ok) :
    Calls Try.prog 3 #[.int .i64 b, .slice Ad l.length cap] w fun e w' => e = .returned (.bool true) ∧ Below w.heap.size w w' := by
  have HA := Lib.hid awake_any
  have HX := Lib.hid hx; have HZ := Lib.hid hz
  clear hx hz
  obtain ⟨n, Hn⟩ : ∃ n, Hid (l.length = n) := ⟨_, rfl⟩
  rw [Hn.out]
  have H1 := Lib.hid (new_yes b hb w)
  have L0 : Hid ((w.alloc (S.new b).obj).heap[w.heap.size]? = some (S.new b).obj) := heap_alloc_new _ _
  have B0 : Hid (Below w.heap.size w (w.alloc (S.new b).obj)) := (Below.refl _ w).alloc (Nat.le_refl _) _
  have S0 : Hid ((w.alloc (S.new b).obj).heap.size = w.heap.size + 1) := by show _ = _; rw [World.size_alloc]
  generalize w.alloc (S.new b).obj = W1 at H1 L0 B0 S0
  have H2 : Hid (Calls Try.prog 10 #[.int .i64 b] W1 fun e w' => e = .returned (.tuple #[.pointer (some ⟨w.heap.size + 1, 0, none⟩), .int .i64 0]) ∧ w' = W1.alloc ((S.new b).ref 0)) := by
    have := rnew_yes b hb W1
    rw [S0.out] at this
    exact this
  have K0 : Hid (Bl w (S.new b) (W1.alloc ((S.new b).ref 0))) := by
    refine ⟨ok_new hb, lies_alloc L0.out _, ⟨0, ?_, fun e => by cases e⟩, B0.out.alloc B0.out.size _, ?_⟩
    · have := heap_alloc_new W1 ((S.new b).ref 0)
      rw [S0.out] at this
      exact this
    · rw [World.size_alloc, S0.out]; omega
  generalize W1.alloc ((S.new b).ref 0) = W2 at H2 K0
  have N0 : Hid ((S.new b).n ≤ 0) := Nat.le_refl _
  have HP : Hid (∀ (s : S) (V : World), Bl w s V → Calls Try.prog 19 #[.pointer (some ⟨w.heap.size, 0, none⟩)] V fun e w' => e = .returned (.int .i64 (gap s.b : Nat)) ∧ w' = V) := fun s V h => (perM_any w.heap.size s h.ok.b V h.pr).mono fun e w' ⟨h1, h2⟩ => ⟨h1, h2.symm⟩
  generalize S.new b = s0 at K0 N0
  clear L0 B0 S0 hb
  go_enter Try.func3, Try.ntmps3
  go_upto_region 7 with (first
    | (go_at_call 9; (with_reducible refine H1.out.mono ?_); rintro e w1 ⟨rfl, rfl⟩)
    | (go_at_call 10; (with_reducible refine H2.out.mono ?_); rintro e w1 ⟨rfl, rfl⟩))
  clear H1 H2
  go_wp2
  go_loopw [9] (fun v9 wr => ∃ (i : Nat) (s : S), i ≤ n ∧ i ≤ 200 ∧ v9 = .int .i64 i ∧ s.n ≤ i ∧ Bl w s wr) (fun v9 _ => n - (intOf v9).toNat)
  case atStart => exact ⟨0, s0, Nat.zero_le _, by omega, rfl, N0.out, K0.out⟩
  case round =>
    clear K0 N0
    obtain ⟨i, s, hi, hi1, rfl, hn, hK⟩ := hrel
    have hK := Lib.hid hK
    by_cases hin : i < n
    · have iInt : decide ((i : Int) < (n : Int)) = true := decide_eq_true (by omega)
      have iIn' : decide (i < n) = true := decide_eq_true hin
      have iInt' : (i : Int) < (n : Int) := by omega
      by_cases h200 : i < 200
      · have i200 : decide ((i : Int) < 200) = true := decide_eq_true (by omega)
        have i200' : decide (i < 200) = true := decide_eq_true h200
        have hil : i < l.length := by rw [Hn.out]; exact hin
        obtain ⟨b', off', rfl, hbl, hat⟩ := HX.out.get hil
        have hxz := HZ.out _ (List.getElem_mem hil)
        have hat := hat.below hK.out.bel hbl
        generalize l[i] = x at hat hxz
        obtain ⟨hwa, hwx⟩ := hxz
        obtain ⟨ask, x⟩ := x
        have HI : Hid (b' < w.heap.size) := hbl
        obtain ⟨a0, a1⟩ := hat
        dsimp only at a0 a1 hwa hwx
        have K1 : Hid (Bl w s (wr.alloc (.cells #[.int .i64 ask, .int .i64 x] 32))) := hK.out.alloc _
        have O1 : Hid ((wr.alloc (.cells #[.int .i64 ask, .int .i64 x] 32)).heap[wr.heap.size]? = some (.cells #[.int .i64 ask, .int .i64 x] 32)) := heap_alloc_new wr _
        have HO : Hid (w.heap.size + 2 ≤ wr.heap.size) := hK.out.two
        go_upto_region 11 with (fail)
        clear a0 a1
        generalize wr.alloc (.cells #[.int .i64 ask, .int .i64 x] 32) = V at K1 O1 ⊢
        generalize wr.heap.size = ob at O1 HO ⊢
        have o0 : V.cell? ⟨ob, 0, none⟩ = some (.int .i64 ask) := lies_cell O1.out 0
        go_upto_region 14 with (fail)
        clear o0
        by_cases q0 : ask = 0
        · subst q0
          go_upto_region 15 with (fail)
          refine reg15 hwx K1 O1 HO (by omega) (fun _ _ _ _ _ h => h) ?_
          intro wc hrel x56 x57 x58 x59 x60 x61 x62 x63
          have HR := Lib.hid hrel
          have HN : Hid ((s.next x).n ≤ i + 1) := Nat.le_trans (next_n_le s x) (by omega)
          clear hrel K1
          generalize s.next x = s2 at HR HN
          generalize hW : wc = V2 at HR ⊢
          clear hW
          have HC1 : Hid (∀ m, Calls Try.prog 18 #[.pointer (some ⟨w.heap.size, 0, none⟩)] (V2.drewN m) fun e w' => e = .returned (.int .i64 s2.n) ∧ ∃ k, w' = V2.drewN k) := fun m => (count_any w.heap.size s2 (V2.drewN m) HR.out.pr).mono fun e w' ⟨h1, h2⟩ => ⟨h1, m, h2.symm⟩
          have HC2 : Hid (∀ m, Calls Try.prog 19 #[.pointer (some ⟨w.heap.size, 0, none⟩)] (V2.drewN m) fun e w' => e = .returned (.int .i64 (gap s2.b : Nat)) ∧ ∃ k, w' = V2.drewN k) := fun m => (perM_any w.heap.size s2 HR.out.ok.b (V2.drewN m) HR.out.pr).mono fun e w' ⟨h1, h2⟩ => ⟨h1, m, h2.symm⟩
          obtain ⟨z2, hz1, hz2⟩ := HR.out.rf
          have d4 : V2.cell? ⟨w.heap.size + 1, 4, none⟩ = some (.int .i64 s2.n) := lies_cell hz1 4
          have d0 : V2.cell? ⟨w.heap.size + 1, 0, none⟩ = some (.int .i64 (gap s2.b : Nat)) := lies_cell hz1 0
          clear hz1 hz2
          generalize hGG : gap s2.b = G2 at HC2 d0
          generalize hNN : s2.n = n2 at HC1 d4
          clear hGG hNN
          go_upto_region 20 with (fail)
          go_quiet (first
            | (go_at_call 18; exact HC1.out _)
            | (go_at_call 19; exact HC2.out _))
          have HE : Hid (Bl w s2 (V2.drewN nq)) := HR.out.drewN _
          clear d0 d4 HC1 HC2 HR
          go_wp2
          go_roundw
          case rel => exact ⟨i + 1, s2, by omega, by omega, by go_num, HN.out, HE.out⟩
          case measure => simp [intOf]; omega
        · by_cases q1 : ask = 1
          · subst q1
            obtain ⟨z, hz1, hz2⟩ := K1.out.rf
            have HW1 : Hid (∀ m, Calls Try.prog 14 #[.pointer (some ⟨w.heap.size, 0, none⟩), .int .i64 x] (V.drewN m) fun e w' => e = .returned (.int .i64 (s.soon x)) ∧ ∃ k, w' = V.drewN k) := fun m => (when_any w.heap.size s K1.out.ok x hwx (V.drewN m) K1.out.pr).mono fun e w' ⟨h1, k, h2⟩ => ⟨h1, m + k, by rw [h2, World.drewN_drewN]⟩
            have HW2 : Hid (∀ m, Calls Try.prog 15 #[.pointer (some ⟨w.heap.size + 1, 0, none⟩), .int .i64 x] (V.drewN m) fun e w' => e = .returned (.int .i64 (s.soon x)) ∧ ∃ k, w' = V.drewN k) := fun m => (rwhen_any (w.heap.size + 1) z s K1.out.ok hz2 x hwx (V.drewN m) hz1).mono fun e w' ⟨h1, k, h2⟩ => ⟨h1, m + k, by rw [h2, World.drewN_drewN]⟩
            generalize s.soon x = c at HW1 HW2
            have o1 : V.cell? ⟨ob, 1, none⟩ = some (.int .i64 x) := lies_cell O1.out 1
            clear hz1 hz2 q0
            go_upto_region 18 with (fail)
            go_quiet (first
              | (go_at_call 14; exact HW1.out _)
              | (go_at_call 15; exact HW2.out _))
            have HR : Hid (Bl w s (V.drewN nq)) := K1.out.drewN _
            have HN : Hid (s.n ≤ i + 1) := by show _ ≤ _; omega
            clear o1 HW1 HW2
            generalize s = s2 at HR HN
            generalize V.drewN nq = V2 at HR ⊢
            have HC1 : Hid (∀ m, Calls Try.prog 18 #[.pointer (some ⟨w.heap.size, 0, none⟩)] (V2.drewN m) fun e w' => e = .returned (.int .i64 s2.n) ∧ ∃ k, w' = V2.drewN k) := fun m => (count_any w.heap.size s2 (V2.drewN m) HR.out.pr).mono fun e w' ⟨h1, h2⟩ => ⟨h1, m, h2.symm⟩
            have HC2 : Hid (∀ m, Calls Try.prog 19 #[.pointer (some ⟨w.heap.size, 0, none⟩)] (V2.drewN m) fun e w' => e = .returned (.int .i64 (gap s2.b : Nat)) ∧ ∃ k, w' = V2.drewN k) := fun m => (perM_any w.heap.size s2 HR.out.ok.b (V2.drewN m) HR.out.pr).mono fun e w' ⟨h1, h2⟩ => ⟨h1, m, h2.symm⟩
            obtain ⟨z2, hz1, hz2⟩ := HR.out.rf
            have d4 : V2.cell? ⟨w.heap.size + 1, 4, none⟩ = some (.int .i64 s2.n) := lies_cell hz1 4
            have d0 : V2.cell? ⟨w.heap.size + 1, 0, none⟩ = some (.int .i64 (gap s2.b : Nat)) := lies_cell hz1 0
            clear hz1 hz2
            generalize hGG : gap s2.b = G2 at HC2 d0
            generalize hNN : s2.n = n2 at HC1 d4
            clear hGG hNN
            go_upto_region 20 with (fail)
            go_quiet (first
              | (go_at_call 18; exact HC1.out _)
              | (go_at_call 19; exact HC2.out _))
            have HE : Hid (Bl w s2 (V2.drewN nq)) := HR.out.drewN _
            clear d0 d4 HC1 HC2 HR
            go_wp2
            go_roundw
            case rel => exact ⟨i + 1, s2, by omega, by omega, by go_num, HN.out, HE.out⟩
            case measure => simp [intOf]; omega
          · have h0 : (ask == 0) = false := by simpa using q0
            have h1 : (ask == 1) = false := by simpa using q1
            have HR1 : Hid (Calls Try.prog 16 #[.pointer (some ⟨w.heap.size, 0, none⟩)] V fun e w' => e = .returned (.tuple #[]) ∧ Ha w s.reset s w') := (reset_any w.heap.size s V K1.out.pr).mono fun e w' ⟨h1, h2, h3⟩ => ⟨h1, (Ha.of K1.out).prog h2 h3⟩
            have HR2 : Hid (∀ V', Ha w s.reset s V' → Calls Try.prog 17 #[.pointer (some ⟨w.heap.size + 1, 0, none⟩)] V' fun e w' => e = .returned (.tuple #[]) ∧ Bl w s.reset w') := fun V' h => by
              obtain ⟨z, hz1, hz2⟩ := h.rf
              exact (rreset_any (w.heap.size + 1) z s V' hz1).mono fun e w' ⟨h1, h2, h3⟩ => ⟨h1, (h.doc ⟨z, h2, fun e => by cases e⟩ h3).bl (ok_reset K1.out.ok)⟩
            have HN : Hid (s.reset.n ≤ i + 1) := by show s.n ≤ _; omega
            generalize s.reset = s2 at HR1 HR2 HN
            go_upto_region 20 with (first
              | (go_at_call 16; (with_reducible refine HR1.out.mono ?_); rintro e w1 ⟨rfl, hm⟩; (have HM := Lib.hid hm); clear hm)
              | (go_at_call 17; (with_reducible refine (HR2.out _ HM.out).mono ?_); rintro e w2 ⟨rfl, hR⟩; (have HR := Lib.hid hR); clear hR))
            clear HR1 HR2 HM h0 h1 q0 q1
            generalize w2 = V2 at HR ⊢
            have HC1 : Hid (∀ m, Calls Try.prog 18 #[.pointer (some ⟨w.heap.size, 0, none⟩)] (V2.drewN m) fun e w' => e = .returned (.int .i64 s2.n) ∧ ∃ k, w' = V2.drewN k) := fun m => (count_any w.heap.size s2 (V2.drewN m) HR.out.pr).mono fun e w' ⟨h1, h2⟩ => ⟨h1, m, h2.symm⟩
            have HC2 : Hid (∀ m, Calls Try.prog 19 #[.pointer (some ⟨w.heap.size, 0, none⟩)] (V2.drewN m) fun e w' => e = .returned (.int .i64 (gap s2.b : Nat)) ∧ ∃ k, w' = V2.drewN k) := fun m => (perM_any w.heap.size s2 HR.out.ok.b (V2.drewN m) HR.out.pr).mono fun e w' ⟨h1, h2⟩ => ⟨h1, m, h2.symm⟩
            obtain ⟨z2, hz1, hz2⟩ := HR.out.rf
            have d4 : V2.cell? ⟨w.heap.size + 1, 4, none⟩ = some (.int .i64 s2.n) := lies_cell hz1 4
            have d0 : V2.cell? ⟨w.heap.size + 1, 0, none⟩ = some (.int .i64 (gap s2.b : Nat)) := lies_cell hz1 0
            clear hz1 hz2
            generalize hGG : gap s2.b = G2 at HC2 d0
            generalize hNN : s2.n = n2 at HC1 d4
            clear hGG hNN
            go_upto_region 20 with (fail)
            go_quiet (first
              | (go_at_call 18; exact HC1.out _)
              | (go_at_call 19; exact HC2.out _))
            have HE : Hid (Bl w s2 (V2.drewN nq)) := HR.out.drewN _
            clear d0 d4 HC1 HC2 HR
            go_wp2
            go_roundw
            case rel => exact ⟨i + 1, s2, by omega, by omega, by go_num, HN.out, HE.out⟩
            case measure => simp [intOf]; omega
      · have i200 : decide ((i : Int) < 200) = false := decide_eq_false (by omega)
        have i200' : decide (i < 200) = false := decide_eq_false h200
        go_wp2_with (first | (go_at_call 11; (with_reducible refine (HA.out _).mono ?_); rintro e w9 ⟨rfl, hb9⟩))
        go_returns
        exact ⟨rfl, hK.out.bel.trans (hb9.mono hK.out.bel.size)⟩
    · have iInt : decide ((i : Int) < (n : Int)) = false := decide_eq_false (by omega)
      have iIn' : decide (i < n) = false := decide_eq_false hin
      go_wp2_with (first | (go_at_call 11; (with_reducible refine (HA.out _).mono ?_); rintro e w9 ⟨rfl, hb9⟩))
      go_returns
      exact ⟨rfl, hK.out.bel.trans (hb9.mono hK.out.bel.size)⟩

theorem bagPlays_walk (x : Int) (_h1 : (Lit.int .i64 x).wf = true) (Ad : Option Addr) (cap : Nat) (l : List Ox) {w0 : World} (hx : OxsAt w0 Ad l) (_hl : l.length ≤ maxLen) (hz : ∀ o ∈ l, o.Ok) (w : World) (hww : w0 = w := by rfl) :
    Calls Try.prog 3 #[.int .i64 x, .slice Ad l.length cap] w fun e w' => e = .returned (.bool true) ∧ Below w.heap.size w w' := by
  subst hww
  by_cases h : 0 ≤ x ∧ x ≤ 7
  · obtain ⟨b, rfl⟩ := Int.eq_ofNat_of_zero_le h.1
    exact plays_ok b (by omega) Ad cap l _ hx hz
  · exact plays_no x (by omega) Ad _ cap _


set_option maxRecDepth 100000 in
theorem bagPlays_lifted (os : Os) (started : os.Started) (H : Type) (enc : TypeId × Value → H) :
    ReturnsInHanded {} Try.checked os 3 .any (Rows.bagPlaysSpec.pre6 enc Try.prog Try.f3 Rows.bagPlaysRow.domain false) (Rows.bagPlaysSpec.post enc Try.prog Try.f3 false true false false) := by
  refine returnsInHanded_of_change (C := Try.checked) bagPlays_own started (by kernel_rfl) Try.func3
    (ChangeSpec.witness6 (enc := enc) (C := Try.checked) false ⟨#[], #[.int .i64 0, .slice none 0 0], []⟩ 8 (by kernel_rfl) (by kernel_rfl) (by kernel_rfl) (by kernel_rfl)) ?_
  intro W base args ds gs before hval0 hW hcnd _
  have hval : ∀ (j : Nat) t v, Try.f3.params[j]? = some t → args[j]? = some v → Value.okWide Try.prog W .any base t v := hval0
  have hW' := hW
  obtain ⟨p, q, hA0, hV, rfl, hfz, hnd⟩ := hW
  have hA : DataW.TrodAll enc Try.prog W 0 (fun _ => true) true Try.f3.params.toList args.toList ds p := hA0
  rw [Try.params3] at hA hval
  obtain ⟨v0, vs0, d0, ds0, p0, q0, hargs, rfl, rfl, h0, r0⟩ := trodAll_cons hA
  obtain ⟨v1, vs1, d1, ds1, p1, q1, rfl, rfl, rfl, h1, r1⟩ := trodAll_cons r0
  obtain ⟨rfl, rfl, rfl⟩ := trodAll_nil r1
  obtain rfl : args = #[v0, v1] := by cases args; simp_all
  obtain ⟨rfl, rfl⟩ := trodVars_none hV
  obtain ⟨a0, rfl, rfl, rfl, w0⟩ := open_int Try.underlying3 (hval 0 3 v0 rfl rfl) h0
  obtain ⟨c1, len1, cap1, rfl⟩ := okWide_slice Try.underlying22 (hval 1 22 v1 rfl rfl)
  have k1 := h1
  have lt1 : ∀ x ∈ p1, x.block < W.heap.size := by obtain ⟨m, hm⟩ := k1; exact DataW.trod_lt m _ _ _ hm
  obtain ⟨fu1, hf1⟩ := h1
  obtain ⟨Ad1, cap1, l1, e1, hx1, hl1, hz1⟩ := Oxs_open (v := .slice c1 len1 cap1) (by simpa [Value.cells] using hf1)
  clear hA0 hval0
  have hwalk := bagPlays_walk a0 w0 Ad1 cap1 l1 hx1 hl1 hz1 W
  rw [← e1] at hwalk
  refine hwalk.mono fun e W' ⟨he, bel⟩ => ?_
  subst he
  exact ⟨_, rfl, _, _, _, [], _, [], hW', trodAll_mk1 (shut_bool Try.underlying4 _), (trodAll_cons_mk (shut_int Try.underlying3 w0) (trodAll_cons_mk (Below.trod bagPlays_laid (by kernel_rfl) (of_decide_eq_true (by kernel_rfl)) k1 bel lt1) trodAll_mk0)), rfl, bel.frame _, fun h => by cases h⟩

theorem bagPlays_over : Rows.bagPlaysRow.holds Try.pinned (OpenSpec.ofChange Rows.bagPlaysSpec) :=
  OpenClaim.holds_of_wide 3 Try.f3 rfl rfl rfl rfl rfl rfl rfl ⟨rfl, rfl, rfl, rfl, rfl⟩ rfl rfl rfl rfl rfl (by kernel_rfl) Try.func3 (by kernel_rfl)
    (of_decide_eq_true (by kernel_rfl)) (by unfold Func.isWrapper; first | (rw [if_pos (by decide +kernel)]; kernel_rfl) | (rw [if_neg (by decide +kernel)]; exact ⟨rfl, rfl⟩))
    (fun os started H enc _ => bagPlays_lifted os started H enc)

theorem bagPlays_holds : Rows.BagPlaysSaid := bagPlays_over
#print axioms bagPlays_holds
end Go.Proofs.Ythednonjgaedlaa
