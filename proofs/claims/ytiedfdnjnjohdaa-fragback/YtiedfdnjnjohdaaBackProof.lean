/- For every packet and number the law FragBack answers true: the parts that Split makes are joined to the packet, each goes into a frame, and they are as many as Count says. No conditions. -/
import Derived.Test.YtiedfdnjnjohdaaRows
import Derived.Test.YtiedfdnjnjohdaaBj
import Derived.Test.YtiedfdnjnjohdaaPo
import Derived.WalkKit
import Derived.Deep.RegionHeld3
import Derived.StillTailTactics
import Derived.ProofKit
import Derived.OpenShut
import Derived.ShutString
import Derived.ChangeOld
import Derived.Below
namespace Go.Proofs.Ytiedfdnjnjohdaa
open Go.ChangeShapes Go.WideShapes Go.ChangeAt Go.RowKit
open Go.ChangeMaps (open_string shut_string)
set_option linter.unusedVariables false

theorem fragBack_own : ownKnob Try.prog.godebug = none := by kernel_rfl
theorem fragBack_laid : laidOutB Try.prog = true := by kernel_rfl


open Go.Proofs.PitotFrag
open Go.Proofs.Ytiedfdnjnjohdaa.Bi (lies_lt lies_cell lies_frozen lies_alloc)

theorem str_some {T : ByteArray} (h : 0 < T.size) : (T.toList == []) = false := by
  have : T.toList ≠ [] := by rw [ByteArray.toList_eq]; intro e; have h2 := congrArg List.length e; rw [size_list] at h2; have h3 : T.size = 0 := h2; omega
  simpa using this

set_option maxRecDepth 100000 in
set_option maxHeartbeats 4000000 in
theorem fragBack_no (id : Int) (m : Bool) (off ttl pr : Int) (a b : PitotIp.Q4) (s : ByteArray) (x E : Int) (he : ¬ E = 0) (h21 : ∀ w, Calls Try.prog 21 #[pk id m off ttl pr a b s] w fun e w' => e = .returned (.tuple #[.string ⟨#[]⟩, .int .i64 E]) ∧ Below w.heap.size w w') (w : World) :
    Calls Try.prog 6 #[pk id m off ttl pr a b s, .int .i64 x] w fun e w' => e = .returned (.bool true) ∧ Below w.heap.size w w' := by
  have H21 := Lib.hid h21; clear h21
  have he0 : (E != 0) = true := by simpa using he
  have kb : Hid (Below w.heap.size w (w.alloc (pkC id m off ttl pr a b s))) := (Below.refl _ w).alloc (Nat.le_refl _) _
  go_enter Try.func6, Try.ntmps6
  go_wp2_with (first
    | (go_at_call 21; (with_reducible refine (H21.out _).mono ?_); rintro r w1 ⟨rfl, hb1⟩)
    | (go_at_call 13; (with_reducible refine (awake_any _).mono ?_); rintro r w2 ⟨rfl, hb2⟩))
  go_returns
  have k1 := kb.out.trans (hb1.mono kb.out.size)
  exact ⟨rfl, k1.trans (hb2.mono k1.size)⟩

set_option maxRecDepth 100000 in
set_option maxHeartbeats 4000000 in
theorem fragBack_out (id : Int) (m : Bool) (off ttl pr : Int) (a b : PitotIp.Q4) (s : ByteArray) (x : Int) (T : ByteArray) (hT : 0 < T.size) (h21 : ∀ w, Calls Try.prog 21 #[pk id m off ttl pr a b s] w fun e w' => e = .returned (.tuple #[.string T, .int .i64 0]) ∧ Below w.heap.size w w') (B1 B2 B3 B4 : Bool) (e4 : (off != 0) = B4) (e3 : decide (20000 < (s.size : Int)) = B3) (e1 : decide (x < 64) = B1) (e2 : decide (1518 < x) = B2) (h : (m || B4 || B3 || B1 || B2) = true) (w : World) :
    Calls Try.prog 6 #[pk id m off ttl pr a b s, .int .i64 x] w fun e w' => e = .returned (.bool true) ∧ Below w.heap.size w w' := by
  have H21 := Lib.hid h21; clear h21
  have hTl := str_some hT
  have kb : Hid (Below w.heap.size w (w.alloc (pkC id m off ttl pr a b s))) := (Below.refl _ w).alloc (Nat.le_refl _) _
  cases m
  · cases B4
    · cases B3
      · cases B1
        · cases B2
          · cases h
          · clear h
            go_enter Try.func6, Try.ntmps6
            go_wp2_with (first
              | (go_at_call 21; (with_reducible refine (H21.out _).mono ?_); rintro r w1 ⟨rfl, hb1⟩
                 (have L1 := lies_below (heap_alloc_new w (pkC id _ off ttl pr a b s)) hb1 (by simp))
                 (obtain ⟨c0, c1, c2, c3, c4, c5, c6, c7, c8, c9, c10, c11, c12, c13⟩ := cells14 L1)
                 (clear L1))
              | (go_at_call 13; (with_reducible refine (awake_any _).mono ?_); rintro r w2 ⟨rfl, hb2⟩))
            go_returns
            have k1 := kb.out.trans (hb1.mono kb.out.size)
            exact ⟨rfl, k1.trans (hb2.mono k1.size)⟩
        · clear h
          go_enter Try.func6, Try.ntmps6
          go_wp2_with (first
            | (go_at_call 21; (with_reducible refine (H21.out _).mono ?_); rintro r w1 ⟨rfl, hb1⟩
               (have L1 := lies_below (heap_alloc_new w (pkC id _ off ttl pr a b s)) hb1 (by simp))
               (obtain ⟨c0, c1, c2, c3, c4, c5, c6, c7, c8, c9, c10, c11, c12, c13⟩ := cells14 L1)
               (clear L1))
            | (go_at_call 13; (with_reducible refine (awake_any _).mono ?_); rintro r w2 ⟨rfl, hb2⟩))
          go_returns
          have k1 := kb.out.trans (hb1.mono kb.out.size)
          exact ⟨rfl, k1.trans (hb2.mono k1.size)⟩
      · clear h
        go_enter Try.func6, Try.ntmps6
        go_wp2_with (first
          | (go_at_call 21; (with_reducible refine (H21.out _).mono ?_); rintro r w1 ⟨rfl, hb1⟩
             (have L1 := lies_below (heap_alloc_new w (pkC id _ off ttl pr a b s)) hb1 (by simp))
             (obtain ⟨c0, c1, c2, c3, c4, c5, c6, c7, c8, c9, c10, c11, c12, c13⟩ := cells14 L1)
             (clear L1))
          | (go_at_call 13; (with_reducible refine (awake_any _).mono ?_); rintro r w2 ⟨rfl, hb2⟩))
        go_returns
        have k1 := kb.out.trans (hb1.mono kb.out.size)
        exact ⟨rfl, k1.trans (hb2.mono k1.size)⟩
    · clear h
      go_enter Try.func6, Try.ntmps6
      go_wp2_with (first
        | (go_at_call 21; (with_reducible refine (H21.out _).mono ?_); rintro r w1 ⟨rfl, hb1⟩
           (have L1 := lies_below (heap_alloc_new w (pkC id _ off ttl pr a b s)) hb1 (by simp))
           (obtain ⟨c0, c1, c2, c3, c4, c5, c6, c7, c8, c9, c10, c11, c12, c13⟩ := cells14 L1)
           (clear L1))
        | (go_at_call 13; (with_reducible refine (awake_any _).mono ?_); rintro r w2 ⟨rfl, hb2⟩))
      go_returns
      have k1 := kb.out.trans (hb1.mono kb.out.size)
      exact ⟨rfl, k1.trans (hb2.mono k1.size)⟩
  · clear h
    go_enter Try.func6, Try.ntmps6
    go_wp2_with (first
      | (go_at_call 21; (with_reducible refine (H21.out _).mono ?_); rintro r w1 ⟨rfl, hb1⟩
         (have L1 := lies_below (heap_alloc_new w (pkC id _ off ttl pr a b s)) hb1 (by simp))
         (obtain ⟨c0, c1, c2, c3, c4, c5, c6, c7, c8, c9, c10, c11, c12, c13⟩ := cells14 L1)
         (clear L1))
      | (go_at_call 13; (with_reducible refine (awake_any _).mono ?_); rintro r w2 ⟨rfl, hb2⟩))
    go_returns
    have k1 := kb.out.trans (hb1.mono kb.out.size)
    exact ⟨rfl, k1.trans (hb2.mono k1.size)⟩

set_option maxRecDepth 100000 in
set_option maxHeartbeats 4000000 in
theorem fragBack_ok (id ttl pr : Nat) (a b : PitotIp.Q4) (s : ByteArray) (m : Nat) (h1 : 25 ≤ m) (hm : m ≤ 1479) (hM : MayBe id 0 ttl pr s) (hs : s.size ≤ 20000) (w : World) :
    Calls Try.prog 6 #[pk id false 0 ttl pr a b s, .int .i64 (m + 39)] w fun e w' => e = .returned (.bool true) ∧ Below w.heap.size w w' := by
  have hM2 := hM
  obtain ⟨j1, _, j3, j4, _⟩ := hM2
  have hs2 : s.size ≤ 65515 := by omega
  have h14 := fun w => split_ok ⟨id, false, 0, ttl, pr, a, b, s⟩ m h1 hm rfl rfl hs2 w
  have hlen := spl_length ⟨id, false, 0, ttl, pr, a, b, s⟩ m
  have hat := fun k h => spl_at ⟨id, false, 0, ttl, pr, a, b, s⟩ m k h1 rfl hs2 h
  have hsz := spl_sizes ⟨id, false, 0, ttl, pr, a, b, s⟩ m h1 hm rfl hs2
  have hjn := jn_spl ⟨id, false, 0, ttl, pr, a, b, s⟩ m h1 rfl rfl hs2
  have H11 := Lib.hid (count_ok m s.size h1 hm hs2)
  have hcn : cn s.size m ≤ 65516 := by
    have h3 := cnt_mul_le (l := s.size) (m := m) (show 0 < m / 8 * 8 by omega) (by omega)
    have : cnt s.size m (m / 8 * 8) * 1 ≤ cnt s.size m (m / 8 * 8) * (m / 8 * 8) := Nat.mul_le_mul_left _ (by omega)
    unfold cn; omega
  have hpos : 0 < cn s.size m := by unfold cn; omega
  simp only at h14 hlen hat hsz hjn
  generalize spl ⟨id, false, 0, ttl, pr, a, b, s⟩ m = LS at h14 hlen hat hsz hjn
  generalize cn s.size m = n at h14 hlen hat H11 hcn hpos
  obtain ⟨T, hT, H21⟩ : ∃ T : ByteArray, 0 < T.size ∧ Hid (∀ w, Calls Try.prog 21 #[pk id false 0 ttl pr a b s] w fun e w' => e = .returned (.tuple #[.string T, .int .i64 0]) ∧ Below w.heap.size w w') := ⟨outB id false 0 ttl pr a b s, by rw [outB_size]; omega, fun w => encode_ok id false 0 ttl pr a b s w hM⟩
  have H14 := Lib.hid h14; have HAT := Lib.hid hat; have HLEN := Lib.hid hlen
  have HENC : Hid (∀ (B : Bool) (o : Nat) (S : ByteArray), o < 8192 → S.size ≤ m → ∃ T : ByteArray, T.size = 20 + S.size ∧ ∀ w, Calls Try.prog 21 #[pk id B o ttl pr a b S] w fun e w' => e = .returned (.tuple #[.string T, .int .i64 0]) ∧ Below w.heap.size w w') := fun B o S ho hS => ⟨outB id B o ttl pr a b S, outB_size .., fun w => encode_ok id B o ttl pr a b S w ⟨j1, ho, j3, j4, by omega⟩⟩
  have HJ : Hid (∀ (g cap : Nat) (wr : World), PksAt wr (some ⟨g, 0, none⟩) LS → Calls Try.prog 19 #[.slice (some ⟨g, 0, none⟩) n cap] wr fun e w' => e = .returned (.tuple #[pk id false 0 ttl pr a b s, .int .i64 0]) ∧ Below wr.heap.size wr w') := fun g cap wr hx => by
    have h := join_any (some ⟨g, 0, none⟩) cap LS wr hx (by rw [hlen]; omega) hsz n hlen.symm (by rw [hlen]; exact hpos)
    rw [hjn] at h
    exact h
  clear h14 hat hlen hsz hjn hM
  have hqa := same9 a
  have hqb := same9 b
  have e1 : decide ((m : Int) + 39 < 64) = false := decide_eq_false (by omega)
  have e2 : decide (1518 < (m : Int) + 39) = false := decide_eq_false (by omega)
  have e3 : decide (20000 < (s.size : Int)) = false := decide_eq_false (by omega)
  have kb : Hid (Below w.heap.size w (w.alloc (pkC id false 0 ttl pr a b s))) := (Below.refl _ w).alloc (Nat.le_refl _) _
  clear hT
  go_enter Try.func6, Try.ntmps6
  go_wp2_with (first
    | (go_at_call 21; (with_reducible refine (H21.out _).mono ?_); rintro r w1 ⟨rfl, hb1⟩
       (have L1 := lies_below (heap_alloc_new w (pkC id false 0 ttl pr a b s)) hb1 (by simp))
       (obtain ⟨c0, c1, c2, c3, c4, c5, c6, c7, c8, c9, c10, c11, c12, c13⟩ := cells14 L1)
       (have L1 := Lib.hid L1)
       (have k1 := Lib.hid (kb.out.trans (hb1.mono kb.out.size)))
       (clear hb1))
    | (go_at_call 14; (with_reducible refine (H14.out _).mono ?_); rintro r w2 ⟨g, cap, rfl, hown, hb2⟩
       (have L2 := Lib.hid (lies_below L1.out hb2 (lies_lt L1.out)))
       (have d13 : w2.cell? ⟨w.heap.size, 13, none⟩ = some (.string s) := lies_cell L2.out 13)
       (have k2 := Lib.hid (k1.out.trans (hb2.mono k1.out.size)))
       (have HOWN := Lib.hid hown)
       (clear hown hb2 c0 c1 c2 c3 c4 c5 c6 c7 c8 c9 c10 c11 c12 c13))
    | (go_at_call 11; (with_reducible refine (H11.out _).mono ?_); rintro r w3 ⟨rfl, rfl⟩))
  clear d13
  obtain ⟨HPX, gl⟩ : Hid (PksAt w2 (some ⟨g, 0, none⟩) LS) ∧ g < w2.heap.size := by
    obtain ⟨g', cap', hv', _, hg', hp'⟩ := PksAt.of_row HOWN.out HLEN.out.symm hpos
    cases hv'
    exact ⟨hp', hg'⟩
  go_loopw [11] (fun v11 wr => ∃ (k : Nat), k ≤ n ∧ v11 = .int .i64 k ∧ Below w2.heap.size w2 wr) (fun v11 _ => n - (intOf v11).toNat)
  case atStart => exact ⟨0, Nat.zero_le _, rfl, Below.refl _ _⟩
  case round =>
    obtain ⟨k, hk, rfl, hb⟩ := hrel
    have hbs := hb.size
    by_cases hlt : k < n
    · have hlt' : k < LS.length := by rw [HLEN.out]; exact hlt
      have C := (row_get HOWN.out k hlt').below hb gl
      obtain ⟨o, S, hq, hS, ho⟩ := HAT.out k hlt'
      rw [hq] at C
      obtain ⟨B, hB⟩ : ∃ B, decide (k + 1 < n) = B := ⟨_, rfl⟩
      rw [hB] at C
      clear hq
      obtain ⟨c0, c1, c2, c3, c4, c5, c6, c7, c8, c9, c10, c11, c12, c13⟩ := C
      simp only at c0 c1 c2 c3 c4 c5 c6 c7 c8 c9 c10 c11 c12 c13
      obtain ⟨T2, hT2, h21⟩ := HENC.out B o S ho hS
      have HE := Lib.hid h21; clear h21
      have HZ := Lib.hid (size_le T2.size m h1 hm (by omega))
      have eB : decide ((k : Int) + 1 < (n : Int)) = B := by rw [← hB]; by_cases h : k + 1 < n <;> simp [h] <;> omega
      have gl2 : Hid (g < wr.heap.size) := Nat.lt_of_lt_of_le gl hbs
      have bT : T2.size ≤ 100000 := by omega
      clear hT2 ho hS
      go_wp2_with (first
        | (go_at_call 21; (with_reducible refine (HE.out _).mono ?_); rintro r w4 ⟨rfl, hb4⟩
           (have cM : w4.cell? ⟨g, k * 14 + 1, none⟩ = some (.bool B) := (hb4.cell gl2.out).trans c1))
        | (go_at_call 22; (with_reducible refine (HZ.out _).mono ?_); rintro r w5 ⟨⟨z, rfl, hz⟩, rfl⟩
           (have ez : decide ((m : Int) + 39 < (z : Int)) = false := decide_eq_false (by omega))
           (have ez2 : decide (m + 39 < z) = false := decide_eq_false (by omega))))
      go_roundw
      case rel => exact ⟨k + 1, by omega, by go_num, hb.trans (hb4.mono hbs)⟩
      case measure => simp [intOf]; omega
    · have HJ2 := Lib.hid (HJ.out g cap wr (HPX.out.below hb))
      have LW := Lib.hid (lies_below L2.out hb (lies_lt L2.out))
      go_wp2_with (first
        | (go_at_call 19; (with_reducible refine (HJ2.out).mono ?_); rintro r w6 ⟨rfl, hb6⟩
           (have L6 := lies_below LW.out hb6 (lies_lt LW.out))
           (obtain ⟨c0, c1, c2, c3, c4, c5, c6, c7, c8, c9, c10, c11, c12, c13⟩ := cells14 L6)
           (have hne : ¬ w6.heap.size = w.heap.size := by have := lies_lt L6; omega)
           (have hne2 : ¬ w.heap.size = w6.heap.size := by have := lies_lt L6; omega)
           (have hlt6 : w.heap.size < w6.heap.size := lies_lt L6)
           (clear L6))
        | (go_at_call 13; (with_reducible refine (awake_any _).mono ?_); rintro r w7 ⟨rfl, hb7⟩))
      go_returns
      have q1 := k2.out.trans (hb.mono k2.out.size)
      have q2 := q1.trans (hb6.mono q1.size)
      have q3 := q2.alloc q2.size (pkC id false 0 ttl pr a b s)
      exact ⟨rfl, q3.trans (hb7.mono q3.size)⟩

theorem fragBack_walk (id : Int) (m : Bool) (off ttl pr : Int) (a b : PitotIp.Q4) (s : ByteArray) (_hi : (Lit.int .i64 id).wf = true) (_ho : (Lit.int .i64 off).wf = true) (_ht : (Lit.int .i64 ttl).wf = true) (_hp : (Lit.int .i64 pr).wf = true) (hs : s.size ≤ maxLen) (x : Int) (_hx : (Lit.int .i64 x).wf = true) (w : World) :
    Calls Try.prog 6 #[pk id m off ttl pr a b s, .int .i64 x] w fun e w' => e = .returned (.bool true) ∧ Below w.heap.size w w' := by
  unfold maxLen at hs
  by_cases hr : (0 ≤ id ∧ id ≤ 65535) ∧ (0 ≤ off ∧ off ≤ 8191) ∧ (0 ≤ ttl ∧ ttl ≤ 255) ∧ (0 ≤ pr ∧ pr ≤ 255)
  · obtain ⟨i, rfl⟩ : ∃ i : Nat, id = i := ⟨id.toNat, by omega⟩
    obtain ⟨o, rfl⟩ : ∃ o : Nat, off = o := ⟨off.toNat, by omega⟩
    obtain ⟨t, rfl⟩ : ∃ t : Nat, ttl = t := ⟨ttl.toNat, by omega⟩
    obtain ⟨r, rfl⟩ : ∃ r : Nat, pr = r := ⟨pr.toNat, by omega⟩
    by_cases hl : 65515 < s.size
    · exact fragBack_no _ m _ _ _ a b s x 11 (by omega) (fun w => encode_long i m o t r a b s w (by omega) (by omega) (by omega) (by omega) hl (by omega)) w
    · have hM : MayBe i o t r s := ⟨by omega, by omega, by omega, by omega, by omega⟩
      have hout := fun B1 B2 B3 B4 e4 e3 e1 e2 h => fragBack_out i m o t r a b s x (outB i m o t r a b s) (by rw [outB_size]; omega) (fun w => encode_ok i m o t r a b s w hM) B1 B2 B3 B4 e4 e3 e1 e2 h w
      cases m
      · by_cases ho : o = 0
        · by_cases hg : 20000 < s.size
          · exact hout _ _ true _ rfl (decide_eq_true (by omega)) rfl rfl (by simp)
          · by_cases hx1 : x < 64
            · exact hout true _ _ _ rfl rfl (decide_eq_true hx1) rfl (by simp)
            · by_cases hx2 : 1518 < x
              · exact hout _ true _ _ rfl rfl rfl (decide_eq_true hx2) (by simp)
              · obtain ⟨n, rfl⟩ : ∃ n : Nat, x = n + 39 := ⟨(x - 39).toNat, by omega⟩
                subst ho
                exact fragBack_ok i t r a b s n (by omega) (by omega) hM (by omega) w
        · exact hout _ _ _ true (by simp; omega) rfl rfl rfl (by simp)
      · exact hout _ _ _ _ rfl rfl rfl rfl (by simp)
  · exact fragBack_no id m off ttl pr a b s x 1 (by omega) (fun w => encode_arg id m off ttl pr a b s w hr) w


set_option maxRecDepth 100000 in
theorem fragBack_lifted (os : Os) (started : os.Started) (H : Type) (enc : TypeId × Value → H) :
    ReturnsInHanded {} Try.checked os 6 .any (Rows.fragBackSpec.pre6 enc Try.prog Try.f6 Rows.fragBackRow.domain false) (Rows.fragBackSpec.post enc Try.prog Try.f6 false true false false) := by
  refine returnsInHanded_of_change (C := Try.checked) fragBack_own started (by kernel_rfl) Try.func6
    (ChangeSpec.witness6 (enc := enc) (C := Try.checked) false ⟨#[], #[.agg #[.int .i64 0, .bool false, .int .i64 0, .int .i64 0, .int .i64 0, .int .u8 0, .int .u8 0, .int .u8 0, .int .u8 0, .int .u8 0, .int .u8 0, .int .u8 0, .int .u8 0, .string ByteArray.empty], .int .i64 0], []⟩ 8 (by kernel_rfl) (by kernel_rfl) (by kernel_rfl) (by kernel_rfl)) ?_
  intro W base args ds gs before hval0 hW hcnd _
  have hval : ∀ (j : Nat) t v, Try.f6.params[j]? = some t → args[j]? = some v → Value.okWide Try.prog W .any base t v := hval0
  have hW' := hW
  obtain ⟨p, q, hA0, hV, rfl, hfz, hnd⟩ := hW
  have hA : DataW.TrodAll enc Try.prog W 0 (fun _ => true) true Try.f6.params.toList args.toList ds p := hA0
  rw [Try.params6] at hA hval
  obtain ⟨v0, vs0, d0, ds0, p0, q0, hargs, rfl, rfl, h0, r0⟩ := trodAll_cons hA
  obtain ⟨v1, vs1, d1, ds1, p1, q1, rfl, rfl, rfl, h1, r1⟩ := trodAll_cons r0
  obtain ⟨rfl, rfl, rfl⟩ := trodAll_nil r1
  obtain rfl : args = #[v0, v1] := by cases args; simp_all
  obtain ⟨rfl, rfl⟩ := trodVars_none hV
  have k0 := h0
  have lt0 : ∀ x ∈ p0, x.block < W.heap.size := by obtain ⟨m, hm⟩ := k0; exact DataW.trod_lt m _ _ _ hm
  obtain ⟨fu0, hf0⟩ := h0
  obtain ⟨fi0, fm0, fo0, ft0, fp0, fa0, fb0, fs0, gi0, go0, gt0, gp0, gs0, rfl⟩ := packet_open (hval 0 31 v0 rfl rfl) hf0
  obtain ⟨a1, rfl, rfl, rfl, w1⟩ := open_int Try.underlying3 (hval 1 3 v1 rfl rfl) h1
  clear hA0 hval0
  have hwalk := fragBack_walk fi0 fm0 fo0 ft0 fp0 fa0 fb0 fs0 gi0 go0 gt0 gp0 gs0 a1 w1 W

  refine hwalk.mono fun e W' ⟨he, bel⟩ => ?_
  subst he
  exact ⟨_, rfl, _, _, _, [], _, [], hW', trodAll_mk1 (shut_bool Try.underlying4 _), (trodAll_cons_mk (Below.trod fragBack_laid (by kernel_rfl) (of_decide_eq_true (by kernel_rfl)) k0 bel lt0) (trodAll_cons_mk (shut_int Try.underlying3 w1) trodAll_mk0)), rfl, bel.frame _, fun h => by cases h⟩

theorem fragBack_over : Rows.fragBackRow.holds Try.pinned (OpenSpec.ofChange Rows.fragBackSpec) :=
  OpenClaim.holds_of_wide 6 Try.f6 rfl rfl rfl rfl rfl rfl rfl ⟨rfl, rfl, rfl, rfl, rfl⟩ rfl rfl rfl rfl rfl (by kernel_rfl) Try.func6 (by kernel_rfl)
    (of_decide_eq_true (by kernel_rfl)) (by unfold Func.isWrapper; first | (rw [if_pos (by decide +kernel)]; kernel_rfl) | (rw [if_neg (by decide +kernel)]; exact ⟨rfl, rfl⟩))
    (fun os started H enc _ => fragBack_lifted os started H enc)

theorem fragBack_holds : Rows.FragBackSaid := fragBack_over
#print axioms fragBack_holds
end Go.Proofs.Ytiedfdnjnjohdaa
