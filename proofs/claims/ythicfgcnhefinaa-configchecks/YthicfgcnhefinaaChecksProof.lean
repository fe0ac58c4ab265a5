/- For every network (its slices as long as any may be) the law ConfigChecks answers true: what is wrong first with it, of what, which one, and why, is what the document says. No conditions. -/
import Derived.Test.YthicfgcnhefinaaRows
import Derived.Test.YthicfgcnhefinaaM19
import Derived.WalkKit
import Derived.Handy
import Derived.Deep.RegionHeld3
import Derived.Deep.CutRange
import Derived.StillTailTactics
import Derived.ProofKit
import Derived.OpenShut
import Derived.ShutString
import Derived.ChangeOld
import Derived.Below
set_option linter.unusedVariables false
namespace Go.Proofs.Ythicfgcnhefinaa
open Go.ChangeShapes Go.WideShapes Go.ChangeAt Go.RowKit
open Go.ChangeMaps (open_string shut_string)
set_option linter.unusedVariables false

theorem configChecks_own : ownKnob Try.prog.godebug = none := by kernel_rfl
theorem configChecks_laid : laidOutB Try.prog = true := by kernel_rfl

set_option maxRecDepth 100000 in
set_option maxHeartbeats 8000000 in
theorem configChecks_walk {w : World} (c : Cx) (co : c.Ok) (ch : c.Held w) (ck : c.Caps) (_w : World) :
    Calls Try.prog 3 #[c.val] w fun e w' => e = .returned (.bool true) ∧ Below w.heap.size w w' := by
  have HA := Lib.hid awake_any
  have HF := Lib.hid (fun (w' : World) (hb : Below w.heap.size w w') => few_any c w' (ch.below hb) ⟨co.2.1, co.2.2.2.2.1, co.2.2.2.2.2.2.1, co.2.2.2.2.2.2.2.2.1⟩)
  have HCK := Lib.hid (fun (hs : Sm c) (w' : World) (hb : Below w.heap.size w w') => Check_any c hs w' (ch.below hb))
  have HRK := Lib.hid (fun (hs : Sm c) (w' : World) (hb : Below w.heap.size w w') => refCheck_any c hs w' (ch.below hb))
  have HSM : Hid (few c = true → Sm c) := few_sm co
  clear ch ck co
  generalize PitotConf.check c.pl = R at HCK HRK
  obtain ⟨r1, r2, r3⟩ := R
  simp only at HCK HRK
  generalize few c = fw at HF HSM
  obtain ⟨hosts, pA, pc, parts, major, wA, wk, wins, vA, vc, vls, qA, qc, ports⟩ := c
  have HCW : Hid (fw = true → ∀ (w' : World), Below w.heap.size w w' → Calls Try.prog 11 #[.agg #[.int .i64 hosts, .slice pA parts.length pc, .int .i64 major, .slice wA wins.length wk, .slice vA vls.length vc, .slice qA ports.length qc]] w' fun e w'' => e = .returned (.tuple #[.agg #[.int .i64 r1, .int .i64 r2], .int .i64 r3]) ∧ Below w'.heap.size w' w'') := fun h => HCK.out (HSM.out h)
  have HRW : Hid (fw = true → ∀ (w' : World), Below w.heap.size w w' → Calls Try.prog 12 #[.agg #[.int .i64 hosts, .slice pA parts.length pc, .int .i64 major, .slice wA wins.length wk, .slice vA vls.length vc, .slice qA ports.length qc]] w' fun e w'' => e = .returned (.tuple #[.int .i64 r1, .int .i64 r2, .int .i64 r3]) ∧ Below w'.heap.size w' w'') := fun h => HRK.out (HSM.out h)
  clear HCK HRK HSM
  simp only [Cx.val] at HF ⊢
  generalize wins.length = wl, parts.length = pl, vls.length = vl, ports.length = ql at HF HCW HRW ⊢
  have HFW : Hid (∀ (w' : World), Below w.heap.size w w' → Calls Try.prog 9 #[.agg #[.int .i64 hosts, .slice pA pl pc, .int .i64 major, .slice wA wl wk, .slice vA vl vc, .slice qA ql qc]] w' fun e w'' => e = .returned (.bool fw) ∧ Below w'.heap.size w' w'') := HF
  clear HF
  have CB0 : Hid ((w.alloc (.cells #[.int .i64 hosts, .slice pA pl pc, .int .i64 major, .slice wA wl wk, .slice vA vl vc, .slice qA ql qc] 27)).heap[w.heap.size]? = some (.cells #[.int .i64 hosts, .slice pA pl pc, .int .i64 major, .slice wA wl wk, .slice vA vl vc, .slice qA ql qc] 27)) := heap_alloc_new w _
  have BB0 : Hid (Below w.heap.size w (w.alloc (.cells #[.int .i64 hosts, .slice pA pl pc, .int .i64 major, .slice wA wl wk, .slice vA vl vc, .slice qA ql qc] 27))) := (Below.refl _ w).alloc (Nat.le_refl _) _
  go_enter Try.func3, Try.ntmps3
  go_upto_region 1 with (fail)
  have CB := CB0
  have BB := BB0
  clear CB0 BB0
  generalize w.alloc (.cells #[.int .i64 hosts, .slice pA pl pc, .int .i64 major, .slice wA wl wk, .slice vA vl vc, .slice qA ql qc] 27) = Wi at CB BB ⊢
  obtain ⟨c0, c1, c2, c3, c4, c5⟩ := cells_6 CB.out
  cases fw
  · go_wp2_with (first
      | (go_at_call 9; (with_reducible refine (HFW.out _ BB.out).mono ?_); rintro e w2 ⟨rfl, hb2⟩
         (have CBX := Lib.hid (lies_below CB.out hb2 (lies_lt CB.out)))
         (have BX := Lib.hid (BB.out.trans (hb2.mono BB.out.size)))
         (clear hb2 BB CB c0 c1 c2 c3 c4 c5)
         (have CB := CBX)
         (have BB := BX)
         (clear BX CBX)
         (obtain ⟨c0, c1, c2, c3, c4, c5⟩ := cells_6 CB.out))
      | (go_at_call 10; (with_reducible refine (HA.out _).mono ?_); rintro e w9 ⟨rfl, hb2⟩
         (have CBX := Lib.hid (lies_below CB.out hb2 (lies_lt CB.out)))
         (have BX := Lib.hid (BB.out.trans (hb2.mono BB.out.size)))
         (clear hb2 BB CB c0 c1 c2 c3 c4 c5)
         (have CB := CBX)
         (have BB := BX)
         (clear BX CBX)
         (obtain ⟨c0, c1, c2, c3, c4, c5⟩ := cells_6 CB.out)))
    go_returns
    exact ⟨rfl, BB.out⟩
  have HC := Lib.hid (HCW.out rfl)
  have HRC := Lib.hid (HRW.out rfl)
  clear HCW HRW
  go_upto_region 4 with (first
    | (go_at_call 9; (with_reducible refine (HFW.out _ BB.out).mono ?_); rintro e w2 ⟨rfl, hb2⟩
       (have CBX := Lib.hid (lies_below CB.out hb2 (lies_lt CB.out)))
       (have BX := Lib.hid (BB.out.trans (hb2.mono BB.out.size)))
       (clear hb2 BB CB c0 c1 c2 c3 c4 c5)
       (have CB := CBX)
       (have BB := BX)
       (clear BX CBX)
       (obtain ⟨c0, c1, c2, c3, c4, c5⟩ := cells_6 CB.out))
    | (go_at_call 11; (with_reducible refine (HC.out _ BB.out).mono ?_); rintro e w3 ⟨rfl, hb2⟩
       (have CBX := Lib.hid (lies_below CB.out hb2 (lies_lt CB.out)))
       (have BX := Lib.hid (BB.out.trans (hb2.mono BB.out.size)))
       (clear hb2 BB CB c0 c1 c2 c3 c4 c5)
       (have CB := CBX)
       (have BB := BX)
       (clear BX CBX)
       (obtain ⟨c0, c1, c2, c3, c4, c5⟩ := cells_6 CB.out)))
  have FB : Hid ((w3.alloc (.cells #[.int .i64 r1, .int .i64 r2] 31)).heap[w3.heap.size]? = some (.cells #[.int .i64 r1, .int .i64 r2] 31)) := heap_alloc_new w3 _
  have CBX := Lib.hid (lies_alloc (o := .cells #[.int .i64 r1, .int .i64 r2] 31) CB.out)
  have BX : Hid (Below w.heap.size w (w3.alloc (.cells #[.int .i64 r1, .int .i64 r2] 31))) := BB.out.alloc BB.out.size _
  clear BB CB c0 c1 c2 c3 c4 c5
  have CB := CBX
  have BB := BX
  clear BX CBX
  generalize w3.alloc (.cells #[.int .i64 r1, .int .i64 r2] 31) = W0 at BB CB FB ⊢
  obtain ⟨c0, c1, c2, c3, c4, c5⟩ := cells_6 CB.out
  generalize w3.heap.size = fb at FB ⊢
  obtain ⟨f0, f1⟩ := cells_2 FB.out
  go_wp2_with (first
    | (go_at_call 12; (with_reducible refine (HRC.out _ BB.out).mono ?_); rintro e w4 ⟨rfl, hb2⟩
       (have CBX := Lib.hid (lies_below CB.out hb2 (lies_lt CB.out)))
       (have FBX := Lib.hid (lies_below FB.out hb2 (lies_lt FB.out)))
       (have BX := Lib.hid (BB.out.trans (hb2.mono BB.out.size)))
       (clear hb2 BB CB FB c0 c1 c2 c3 c4 c5 f0 f1)
       (have CB := CBX)
       (have FB := FBX)
       (have BB := BX)
       (clear BX CBX FBX)
       (obtain ⟨c0, c1, c2, c3, c4, c5⟩ := cells_6 CB.out)
       (obtain ⟨f0, f1⟩ := cells_2 FB.out))
    | (go_at_call 10; (with_reducible refine (HA.out _).mono ?_); rintro e w9 ⟨rfl, hb2⟩
       (have CBX := Lib.hid (lies_below CB.out hb2 (lies_lt CB.out)))
       (have FBX := Lib.hid (lies_below FB.out hb2 (lies_lt FB.out)))
       (have BX := Lib.hid (BB.out.trans (hb2.mono BB.out.size)))
       (clear hb2 BB CB FB c0 c1 c2 c3 c4 c5 f0 f1)
       (have CB := CBX)
       (have FB := FBX)
       (have BB := BX)
       (clear BX CBX FBX)
       (obtain ⟨c0, c1, c2, c3, c4, c5⟩ := cells_6 CB.out)
       (obtain ⟨f0, f1⟩ := cells_2 FB.out)))
  go_returns
  exact ⟨rfl, BB.out⟩



set_option maxRecDepth 100000 in
theorem configChecks_lifted (os : Os) (started : os.Started) (H : Type) (enc : TypeId × Value → H) :
    ReturnsInHanded {} Try.checked os 3 .any (Rows.configChecksSpec.pre6 enc Try.prog Try.f3 Rows.configChecksRow.domain false) (Rows.configChecksSpec.post enc Try.prog Try.f3 false true false false) := by
  refine returnsInHanded_of_change (C := Try.checked) configChecks_own started (by kernel_rfl) Try.func3
    (ChangeSpec.witness6 (enc := enc) (C := Try.checked) false ⟨#[], #[.agg #[.int .i64 0, .slice none 0 0, .int .i64 0, .slice none 0 0, .slice none 0 0, .slice none 0 0]], []⟩ 8 (by kernel_rfl) (by kernel_rfl) (by kernel_rfl) (by kernel_rfl)) ?_
  intro W base args ds gs before hval0 hW hcnd _
  have hval : ∀ (j : Nat) t v, Try.f3.params[j]? = some t → args[j]? = some v → Value.okWide Try.prog W .any base t v := hval0
  have hW' := hW
  obtain ⟨p, q, hA0, hV, rfl, hfz, hnd⟩ := hW
  have hA : DataW.TrodAll enc Try.prog W 0 (fun _ => true) true Try.f3.params.toList args.toList ds p := hA0
  rw [Try.params3] at hA hval
  obtain ⟨v0, vs0, d0, ds0, p0, q0, hargs, rfl, rfl, h0, r0⟩ := trodAll_cons hA
  obtain ⟨rfl, rfl, rfl⟩ := trodAll_nil r0
  obtain rfl : args = #[v0] := by cases args; simp_all
  obtain ⟨rfl, rfl⟩ := trodVars_none hV
  have k0 := h0
  have lt0 : ∀ x ∈ p0, x.block < W.heap.size := by obtain ⟨m, hm⟩ := k0; exact DataW.trod_lt m _ _ _ hm
  obtain ⟨fu0, hf0⟩ := h0
  obtain ⟨c0, co0, ch0, ck0, rfl⟩ := Cx_open2 (hval 0 27 v0 rfl rfl) hf0
  clear hA0 hval0
  have hwalk := configChecks_walk c0 co0 ch0 ck0 W

  refine hwalk.mono fun e W' ⟨he, bel⟩ => ?_
  subst he
  exact ⟨_, rfl, _, _, _, [], _, [], hW', trodAll_mk1 (shut_bool Try.underlying4 _), (trodAll_cons_mk (Below.trod configChecks_laid (by kernel_rfl) (of_decide_eq_true (by kernel_rfl)) k0 bel lt0) trodAll_mk0), rfl, bel.frame _, fun h => by cases h⟩

theorem configChecks_over : Rows.configChecksRow.holds Try.pinned (OpenSpec.ofChange Rows.configChecksSpec) :=
  OpenClaim.holds_of_wide 3 Try.f3 rfl rfl rfl rfl rfl rfl rfl ⟨rfl, rfl, rfl, rfl, rfl⟩ rfl rfl rfl rfl rfl (by kernel_rfl) Try.func3 (by kernel_rfl)
    (of_decide_eq_true (by kernel_rfl)) (by unfold Func.isWrapper; first | (rw [if_pos (by decide +kernel)]; kernel_rfl) | (rw [if_neg (by decide +kernel)]; exact ⟨rfl, rfl⟩))
    (fun os started H enc _ => configChecks_lifted os started H enc)

theorem configChecks_holds : Rows.ConfigChecksSaid := configChecks_over
#print axioms configChecks_holds
end Go.Proofs.Ythicfgcnhefinaa
