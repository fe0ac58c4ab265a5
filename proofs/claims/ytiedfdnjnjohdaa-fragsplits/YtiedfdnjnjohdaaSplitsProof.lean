/- For every packet and number the law FragSplits answers true: the program's Split answers as the document's. No conditions. -/
import Derived.Test.YtiedfdnjnjohdaaRows
import Derived.Test.YtiedfdnjnjohdaaRs
import Derived.Test.YtiedfdnjnjohdaaPo
import Derived.WalkKit
import Derived.Deep.RegionHeld3
import Derived.ProofKit
import Derived.OpenShut
import Derived.ShutString
import Derived.ChangeOld
import Derived.Below
namespace Go.Proofs.Ytiedfdnjnjohdaa
open Go.ChangeShapes Go.WideShapes Go.ChangeAt Go.RowKit
open Go.ChangeMaps (open_string shut_string)
set_option linter.unusedVariables false

theorem fragSplits_own : ownKnob Try.prog.godebug = none := by kernel_rfl
theorem fragSplits_laid : laidOutB Try.prog = true := by kernel_rfl


open Go.Proofs.PitotFrag
open Go.Proofs.Ytiedfdnjnjohdaa.Bi (lies_lt lies_cell lies_frozen lies_alloc)

set_option maxRecDepth 100000 in
set_option maxHeartbeats 4000000 in
theorem fragSplits_no (id : Int) (m : Bool) (off ttl pr : Int) (a b : PitotIp.Q4) (s : ByteArray) (x E : Int) (hs : s.size ≤ 70000) (h14 : ∀ w, Calls Try.prog 14 #[pk id m off ttl pr a b s, .int .i64 x] w fun e w' => e = .returned (noParts E) ∧ Below w.heap.size w w') (h15 : ∀ w, Calls Try.prog 15 #[rp id m off ttl pr (ipB a) (ipB b) s, .int .i64 x] w fun e w' => e = .returned (noParts E) ∧ Below w.heap.size w w') (w : World) :
    Calls Try.prog 4 #[pk id m off ttl pr a b s, .int .i64 x] w fun e w' => e = .returned (.bool true) ∧ Below w.heap.size w w' := by
  have H14 := Lib.hid h14; have H15 := Lib.hid h15; clear h14 h15
  have H16 := Lib.hid (plain_false id m off ttl pr a b s)
  have H18 := Lib.hid (fun w => plains_any none 0 [] w (fun h => absurd rfl h) (by simp) 0 rfl)
  have kb : Hid (Below w.heap.size w (w.alloc (pkC id m off ttl pr a b s))) := (Below.refl _ w).alloc (Nat.le_refl _) _
  generalize ipB a = I1 at H15 H16
  generalize ipB b = I2 at H15 H16
  go_enter Try.func4, Try.ntmps4
  go_wp2_with (first
    | (go_at_call 14; (with_reducible refine (H14.out _).mono ?_); rintro r w1 ⟨rfl, hb1⟩
       (have L1 := lies_below (heap_alloc_new w (pkC id m off ttl pr a b s)) hb1 (by simp))
       (obtain ⟨c0, c1, c2, c3, c4, c5, c6, c7, c8, c9, c10, c11, c12, c13⟩ := cells14 L1)
       (clear L1)
       (have k1 := Lib.hid (kb.out.trans (hb1.mono kb.out.size))))
    | (go_at_call 16; (with_reducible refine (H16.out _).mono ?_); rintro r w2 ⟨rfl, hb2⟩
       (have k2 := Lib.hid (k1.out.trans (hb2.mono k1.out.size))))
    | (go_at_call 15; (with_reducible refine (H15.out _).mono ?_); rintro r w3 ⟨rfl, hb3⟩
       (have k3 := Lib.hid (k2.out.trans (hb3.mono k2.out.size))))
    | (go_at_call 18; (with_reducible refine (H18.out _).mono ?_); rintro r w4 ⟨v, rfl, hown4, hb4⟩
       (have H17 := Lib.hid (same_any _ _ v (.slice none 0 0) 0 [] w4 hown4 (World.ownsRow_nil w4 w4.heap.size 39 8) (by omega) rfl))
       (clear hown4)
       (have k4 := Lib.hid (k3.out.trans (hb4.mono k3.out.size))))
    | (go_at_call 17; (with_reducible refine (H17.out).mono ?_); rintro r w5 ⟨rfl, hb5⟩
       (have k5 := Lib.hid (k4.out.trans (hb5.mono k4.out.size))))
    | (go_at_call 13; (with_reducible refine (awake_any _).mono ?_); rintro r w6 ⟨rfl, hb6⟩))
  go_returns
  exact ⟨rfl, k5.out.trans (hb6.mono k5.out.size)⟩

set_option maxRecDepth 100000 in
set_option maxHeartbeats 4000000 in
theorem fragSplits_ok (p : Pk) (m : Nat) (h1 : 25 ≤ m) (hm : m ≤ 1479) (hmo : p.m = false) (ho : p.off = 0) (hs : p.s.size ≤ 65515) (w : World) :
    Calls Try.prog 4 #[p.val, .int .i64 (m + 39)] w fun e w' => e = .returned (.bool true) ∧ Below w.heap.size w w' := by
  have h14 := fun w => split_ok p m h1 hm hmo ho hs w
  have h15 := fun w => refSplit_ok p m h1 hm hmo ho hs w
  have hlen := spl_length p m
  have hcn : cn p.s.size m ≤ 65516 := by
    have h3 := cnt_mul_le (l := p.s.size) (m := m) (show 0 < m / 8 * 8 by omega) (by omega)
    have : cnt p.s.size m (m / 8 * 8) * 1 ≤ cnt p.s.size m (m / 8 * 8) * (m / 8 * 8) := Nat.mul_le_mul_left _ (by omega)
    unfold cn; omega
  generalize spl p m = LS at h14 h15 hlen
  obtain ⟨id, mo, off, ttl, pr, a, b, s⟩ := p
  simp only at hmo ho hs
  subst hmo ho
  have hpos : 0 < cn s.size m := by unfold cn; omega
  simp only [pln] at h15
  simp only at h14 h15 hlen hcn
  generalize cn s.size m = n at h14 h15 hlen hpos hcn
  have H14 := Lib.hid h14; have H15 := Lib.hid h15; clear h14 h15
  have Hlen := Lib.hid hlen; clear hlen
  have H16 := Lib.hid (plain_false id false 0 ttl pr a b s)
  have kb : Hid (Below w.heap.size w (w.alloc (pkC id false 0 ttl pr a b s))) := (Below.refl _ w).alloc (Nat.le_refl _) _
  generalize ipB a = I1 at H15 H16
  generalize ipB b = I2 at H15 H16
  go_enter Try.func4, Try.ntmps4
  go_wp2_with (first
    | (go_at_call 14; (with_reducible refine (H14.out _).mono ?_); rintro r w1 ⟨g, cap, rfl, hown1, hb1⟩
       (have L1 := lies_below (heap_alloc_new w (pkC id false 0 ttl pr a b s)) hb1 (by simp))
       (obtain ⟨c0, c1, c2, c3, c4, c5, c6, c7, c8, c9, c10, c11, c12, c13⟩ := cells14 L1)
       (clear L1)
       (have HO1 := Lib.hid hown1)
       (clear hown1)
       (have k1 := Lib.hid (kb.out.trans (hb1.mono kb.out.size))))
    | (go_at_call 16; (with_reducible refine (H16.out _).mono ?_); rintro r w2 ⟨rfl, hb2⟩
       (have HO2 := Lib.hid (own_below HO1.out hb2))
       (have k2 := Lib.hid (k1.out.trans (hb2.mono k1.out.size))))
    | (go_at_call 15; (with_reducible refine (H15.out _).mono ?_); rintro r w3 ⟨v3, rfl, hown3, hb3⟩
       (have HO3 := own_below HO2.out hb3)
       (have HR3 := Lib.hid hown3)
       (obtain ⟨g', cap', hv', _, _, hP⟩ := PksAt.of_row HO3 Hlen.out.symm hpos)
       (cases hv')
       (have H18 := Lib.hid (plains_any (some ⟨g, 0, none⟩) cap LS w3 hP (by rw [Hlen.out]; omega) n Hlen.out.symm))
       (clear hown3 HO3 hP)
       (have k3 := Lib.hid (k2.out.trans (hb3.mono k2.out.size))))
    | (go_at_call 18; (with_reducible refine (H18.out).mono ?_); rintro r w4 ⟨v, rfl, hown4, hb4⟩
       (have H17 := Lib.hid (same_any _ _ v v3 n (LS.map pln) w4 hown4 (own_below HR3.out hb4) (by omega) (by rw [List.length_map, Hlen.out])))
       (clear hown4)
       (have k4 := Lib.hid (k3.out.trans (hb4.mono k3.out.size))))
    | (go_at_call 17; (with_reducible refine (H17.out).mono ?_); rintro r w5 ⟨rfl, hb5⟩
       (have k5 := Lib.hid (k4.out.trans (hb5.mono k4.out.size))))
    | (go_at_call 13; (with_reducible refine (awake_any _).mono ?_); rintro r w6 ⟨rfl, hb6⟩))
  go_returns
  exact ⟨rfl, k5.out.trans (hb6.mono k5.out.size)⟩

set_option maxRecDepth 100000 in
set_option maxHeartbeats 4000000 in
theorem fragSplits_walk (id : Int) (m : Bool) (off ttl pr : Int) (a b : PitotIp.Q4) (s : ByteArray) (_hi : (Lit.int .i64 id).wf = true) (_ho : (Lit.int .i64 off).wf = true) (_ht : (Lit.int .i64 ttl).wf = true) (_hp : (Lit.int .i64 pr).wf = true) (hs : s.size ≤ maxLen) (x : Int) (_hx : (Lit.int .i64 x).wf = true) (w : World) :
    Calls Try.prog 4 #[pk id m off ttl pr a b s, .int .i64 x] w fun e w' => e = .returned (.bool true) ∧ Below w.heap.size w w' := by
  unfold maxLen at hs
  clear _hi _ho _ht _hp _hx
  by_cases hbig : 70000 < s.size
  · have kb : Hid (Below w.heap.size w (w.alloc (pkC id m off ttl pr a b s))) := (Below.refl _ w).alloc (Nat.le_refl _) _
    go_enter Try.func4, Try.ntmps4
    go_wp2_with (go_at_call 13; (with_reducible refine (awake_any _).mono ?_); rintro r w2 ⟨rfl, hb2⟩)
    go_returns
    exact ⟨rfl, kb.out.trans (hb2.mono kb.out.size)⟩
  · by_cases hx : x < 64 ∨ 1518 < x
    · exact fragSplits_no id m off ttl pr a b s x 1 (by omega) (split_arg ⟨id, m, off, ttl, pr, a, b, s⟩ x hx) (refSplit_arg ⟨id, m, off, ttl, pr, ipB a, ipB b, s⟩ x hx) w
    · obtain ⟨n, rfl⟩ : ∃ n : Nat, x = n + 39 := ⟨(x - 39).toNat, by omega⟩
      have h1 : 25 ≤ n := by omega
      have h2 : n ≤ 1479 := by omega
      by_cases hf : m = true ∨ off ≠ 0
      · exact fragSplits_no id m off ttl pr a b s _ 15 (by omega) (split_field ⟨id, m, off, ttl, pr, a, b, s⟩ n h1 h2 hf) (refSplit_field ⟨id, m, off, ttl, pr, ipB a, ipB b, s⟩ n h1 h2 hf) w
      · have hm0 : m = false := by cases m; rfl; exact absurd (.inl rfl) hf
        have ho0 : off = 0 := Classical.byContradiction fun h => hf (.inr h)
        by_cases hl : 65515 < s.size
        · exact fragSplits_no id m off ttl pr a b s _ 11 (by omega) (split_long ⟨id, m, off, ttl, pr, a, b, s⟩ n h1 h2 hm0 ho0 hl (by show s.size ≤ _; omega)) (refSplit_long ⟨id, m, off, ttl, pr, ipB a, ipB b, s⟩ n h1 h2 hm0 ho0 hl (by show s.size ≤ _; omega)) w
        · exact fragSplits_ok ⟨id, m, off, ttl, pr, a, b, s⟩ n h1 h2 hm0 ho0 (by show s.size ≤ _; omega) w


set_option maxRecDepth 100000 in
theorem fragSplits_lifted (os : Os) (started : os.Started) (H : Type) (enc : TypeId × Value → H) :
    ReturnsInHanded {} Try.checked os 4 .any (Rows.fragSplitsSpec.pre6 enc Try.prog Try.f4 Rows.fragSplitsRow.domain false) (Rows.fragSplitsSpec.post enc Try.prog Try.f4 false true false false) := by
  refine returnsInHanded_of_change (C := Try.checked) fragSplits_own started (by kernel_rfl) Try.func4
    (ChangeSpec.witness6 (enc := enc) (C := Try.checked) false ⟨#[], #[.agg #[.int .i64 0, .bool false, .int .i64 0, .int .i64 0, .int .i64 0, .int .u8 0, .int .u8 0, .int .u8 0, .int .u8 0, .int .u8 0, .int .u8 0, .int .u8 0, .int .u8 0, .string ByteArray.empty], .int .i64 0], []⟩ 8 (by kernel_rfl) (by kernel_rfl) (by kernel_rfl) (by kernel_rfl)) ?_
  intro W base args ds gs before hval0 hW hcnd _
  have hval : ∀ (j : Nat) t v, Try.f4.params[j]? = some t → args[j]? = some v → Value.okWide Try.prog W .any base t v := hval0
  have hW' := hW
  obtain ⟨p, q, hA0, hV, rfl, hfz, hnd⟩ := hW
  have hA : DataW.TrodAll enc Try.prog W 0 (fun _ => true) true Try.f4.params.toList args.toList ds p := hA0
  rw [Try.params4] at hA hval
  obtain ⟨v0, vs0, d0, ds0, p0, q0, hargs, rfl, rfl, h0, r0⟩ := trodAll_cons hA
  obtain ⟨v1, vs1, d1, ds1, p1, q1, rfl, rfl, rfl, h1, r1⟩ := trodAll_cons r0
  obtain ⟨rfl, rfl, rfl⟩ := trodAll_nil r1
  obtain rfl : args = #[v0, v1] := by cases args; simp_all
  obtain ⟨rfl, rfl⟩ := trodVars_none hV
  have k0 := h0
  have lt0 : ∀ x ∈ p0, x.block < W.heap.size := by obtain ⟨m, hm⟩ := k0; exact DataW.trod_lt m _ _ _ hm
  obtain ⟨fu0, hf0⟩ := h0
  obtain ⟨fi0, fm0, fo0, ft0, fp0, fa0, fb0, fs0, gi0, go0, gt0, gp0, gs0, rfl⟩ := packet_open (hval 0 31 v0 rfl rfl) hf0
  obtain ⟨a1, rfl, rfl, rfl, w1⟩ := open_int Try.underlying3 (hval 1 3 v1 rfl rfl) h1
  clear hA0 hval0
  have hwalk := fragSplits_walk fi0 fm0 fo0 ft0 fp0 fa0 fb0 fs0 gi0 go0 gt0 gp0 gs0 a1 w1 W

  refine hwalk.mono fun e W' ⟨he, bel⟩ => ?_
  subst he
  exact ⟨_, rfl, _, _, _, [], _, [], hW', trodAll_mk1 (shut_bool Try.underlying4 _), (trodAll_cons_mk (Below.trod fragSplits_laid (by kernel_rfl) (of_decide_eq_true (by kernel_rfl)) k0 bel lt0) (trodAll_cons_mk (shut_int Try.underlying3 w1) trodAll_mk0)), rfl, bel.frame _, fun h => by cases h⟩

theorem fragSplits_over : Rows.fragSplitsRow.holds Try.pinned (OpenSpec.ofChange Rows.fragSplitsSpec) :=
  OpenClaim.holds_of_wide 4 Try.f4 rfl rfl rfl rfl rfl rfl rfl ⟨rfl, rfl, rfl, rfl, rfl⟩ rfl rfl rfl rfl rfl (by kernel_rfl) Try.func4 (by kernel_rfl)
    (of_decide_eq_true (by kernel_rfl)) (by unfold Func.isWrapper; first | (rw [if_pos (by decide +kernel)]; kernel_rfl) | (rw [if_neg (by decide +kernel)]; exact ⟨rfl, rfl⟩))
    (fun os started H enc _ => fragSplits_lifted os started H enc)

theorem fragSplits_holds : Rows.FragSplitsSaid := fragSplits_over
#print axioms fragSplits_holds
end Go.Proofs.Ytiedfdnjnjohdaa
