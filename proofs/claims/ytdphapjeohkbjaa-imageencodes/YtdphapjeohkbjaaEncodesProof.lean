/- For every network (its slices as long as any may be) the law ImageEncodes answers true: which bytes a network is, or why none, is what the document says. No conditions. -/
import Derived.Test.YtdphapjeohkbjaaRows
import Derived.Test.YtdphapjeohkbjaaM11
import Derived.Test.YtdphapjeohkbjaaM16
import Derived.WalkKit
import Derived.Handy
import Derived.Deep.RegionHeld3
import Derived.StillTailTactics
import Derived.ProofKit
import Derived.OpenShut
import Derived.ShutString
import Derived.ChangeOld
import Derived.Below
set_option linter.unusedVariables false
namespace Go.Proofs.Ytdphapjeohkbjaa
open Go.ChangeShapes Go.WideShapes Go.ChangeAt Go.RowKit
open Go.ChangeMaps (open_string shut_string)
set_option linter.unusedVariables false

theorem imageEncodes_own : ownKnob Try.prog.godebug = none := by kernel_rfl
theorem imageEncodes_laid : laidOutB Try.prog = true := by kernel_rfl

set_option maxRecDepth 100000 in
set_option maxHeartbeats 8000000 in
theorem imageEncodes_walk {w : World} (c : Cx) (co : c.Ok) (ch : c.Held w) (ck : c.Caps) (_w : World) :
    Calls Try.prog 3 #[c.val] w fun e w' => e = .returned (.bool true) ∧ Below w.heap.size w w' := by
  have HA := Lib.hid Im.awake_any
  have HF := Lib.hid (fun (w' : World) (hb : Below w.heap.size w w') => few_any c w' (ch.below hb) ⟨co.2.1, co.2.2.2.2.1, co.2.2.2.2.2.2.1, co.2.2.2.2.2.2.2.2.1⟩)
  have HE := Lib.hid (fun (h : few c = true) (w' : World) (hb : Below w.heap.size w w') => Im.Encode_any c (Im.few_im co h) w' (ch.below hb))
  have HR := Lib.hid (fun (h : few c = true) (w' : World) (hb : Below w.heap.size w w') => Im.refEncode_any c (Im.few_im co h) w' (ch.below hb))
  obtain ⟨S, k, hS⟩ := Im.encRes_str c
  rw [hS] at HE HR
  clear ch ck co hS
  have hss : (S.toList == S.toList) = true := by simp
  generalize few c = fw at HF HE HR
  obtain ⟨hosts, pA, pc, parts, major, wA, wk, wins, vA, vc, vls, qA, qc, ports⟩ := c
  simp only [Cx.val] at HF HE HR ⊢
  generalize wins.length = wl, parts.length = pl, vls.length = vl, ports.length = ql at HF HE HR ⊢
  have CB0 : Hid ((w.alloc (.cells #[.int .i64 hosts, .slice pA pl pc, .int .i64 major, .slice wA wl wk, .slice vA vl vc, .slice qA ql qc] 27)).heap[w.heap.size]? = some (.cells #[.int .i64 hosts, .slice pA pl pc, .int .i64 major, .slice wA wl wk, .slice vA vl vc, .slice qA ql qc] 27)) := heap_alloc_new w _
  have BB0 : Hid (Below w.heap.size w (w.alloc (.cells #[.int .i64 hosts, .slice pA pl pc, .int .i64 major, .slice wA wl wk, .slice vA vl vc, .slice qA ql qc] 27))) := (Below.refl _ w).alloc (Nat.le_refl _) _
  go_enter Try.func3, Try.ntmps3
  go_upto_region 1 with (fail)
  have CB := CB0
  have BB := BB0
  clear CB0 BB0
  generalize w.alloc (.cells #[.int .i64 hosts, .slice pA pl pc, .int .i64 major, .slice wA wl wk, .slice vA vl vc, .slice qA ql qc] 27) = Wi at CB BB ⊢
  obtain ⟨c0, c1, c2, c3, c4, c5⟩ := cells_6 CB.out
  cases fw
  · go_wp2_with (first
    | (go_at_call 4; (with_reducible refine (HF.out _ BB.out).mono ?_); rintro e w2 ⟨rfl, hb2⟩
       (have CX := Lib.hid (lies_below CB.out hb2 (lies_lt CB.out)))
       (have BX := Lib.hid (BB.out.trans (hb2.mono BB.out.size)))
       (clear hb2 CB BB c0 c1 c2 c3 c4 c5)
       (have CB := CX)
       (have BB := BX)
       (clear CX BX)
       (obtain ⟨c0, c1, c2, c3, c4, c5⟩ := cells_6 CB.out))
    | (go_at_call 5; (with_reducible refine (HA.out _).mono ?_); rintro e w2 ⟨rfl, hb2⟩
       (have CX := Lib.hid (lies_below CB.out hb2 (lies_lt CB.out)))
       (have BX := Lib.hid (BB.out.trans (hb2.mono BB.out.size)))
       (clear hb2 CB BB c0 c1 c2 c3 c4 c5)
       (have CB := CX)
       (have BB := BX)
       (clear CX BX)
       (obtain ⟨c0, c1, c2, c3, c4, c5⟩ := cells_6 CB.out)))
    go_returns
    exact ⟨rfl, BB.out⟩
  · have HEW := Lib.hid (HE.out rfl)
    have HRW := Lib.hid (HR.out rfl)
    clear HE HR
    go_wp2_with (first
    | (go_at_call 4; (with_reducible refine (HF.out _ BB.out).mono ?_); rintro e w2 ⟨rfl, hb2⟩
       (have CX := Lib.hid (lies_below CB.out hb2 (lies_lt CB.out)))
       (have BX := Lib.hid (BB.out.trans (hb2.mono BB.out.size)))
       (clear hb2 CB BB c0 c1 c2 c3 c4 c5)
       (have CB := CX)
       (have BB := BX)
       (clear CX BX)
       (obtain ⟨c0, c1, c2, c3, c4, c5⟩ := cells_6 CB.out))
    | (go_at_call 6; (with_reducible refine (HEW.out _ BB.out).mono ?_); rintro e w2 ⟨rfl, hb2⟩
       (have CX := Lib.hid (lies_below CB.out hb2 (lies_lt CB.out)))
       (have BX := Lib.hid (BB.out.trans (hb2.mono BB.out.size)))
       (clear hb2 CB BB c0 c1 c2 c3 c4 c5)
       (have CB := CX)
       (have BB := BX)
       (clear CX BX)
       (obtain ⟨c0, c1, c2, c3, c4, c5⟩ := cells_6 CB.out))
    | (go_at_call 7; (with_reducible refine (HRW.out _ BB.out).mono ?_); rintro e w2 ⟨rfl, hb2⟩
       (have CX := Lib.hid (lies_below CB.out hb2 (lies_lt CB.out)))
       (have BX := Lib.hid (BB.out.trans (hb2.mono BB.out.size)))
       (clear hb2 CB BB c0 c1 c2 c3 c4 c5)
       (have CB := CX)
       (have BB := BX)
       (clear CX BX)
       (obtain ⟨c0, c1, c2, c3, c4, c5⟩ := cells_6 CB.out))
    | (go_at_call 5; (with_reducible refine (HA.out _).mono ?_); rintro e w2 ⟨rfl, hb2⟩
       (have CX := Lib.hid (lies_below CB.out hb2 (lies_lt CB.out)))
       (have BX := Lib.hid (BB.out.trans (hb2.mono BB.out.size)))
       (clear hb2 CB BB c0 c1 c2 c3 c4 c5)
       (have CB := CX)
       (have BB := BX)
       (clear CX BX)
       (obtain ⟨c0, c1, c2, c3, c4, c5⟩ := cells_6 CB.out)))
    go_returns
    exact ⟨rfl, BB.out⟩


set_option maxRecDepth 100000 in
theorem imageEncodes_lifted (os : Os) (started : os.Started) (H : Type) (enc : TypeId × Value → H) :
    ReturnsInHanded {} Try.checked os 3 .any (Rows.imageEncodesSpec.pre6 enc Try.prog Try.f3 Rows.imageEncodesRow.domain false) (Rows.imageEncodesSpec.post enc Try.prog Try.f3 false true false false) := by
  refine returnsInHanded_of_change (C := Try.checked) imageEncodes_own started (by kernel_rfl) Try.func3
    (ChangeSpec.witness6 (enc := enc) (C := Try.checked) false ⟨#[], #[.agg #[.int .i64 0, .slice none 0 0, .int .i64 0, .slice none 0 0, .slice none 0 0, .slice none 0 0]], []⟩ 8 (by kernel_rfl) (by kernel_rfl) (by kernel_rfl) (by kernel_rfl)) ?_
  intro W base args ds gs before hval0 hW hcnd _
  have hval : ∀ (j : Nat) t v, Try.f3.params[j]? = some t → args[j]? = some v → Value.okWide Try.prog W .any base t v := hval0
  have hW' := hW
  obtain ⟨p, q, hA0, hV, rfl, hfz, hnd⟩ := hW
  have hA : DataW.TrodAll enc Try.prog W 0 (fun _ => true) true Try.f3.params.toList args.toList ds p := hA0
  rw [Try.params3] at hA hval
  obtain ⟨v0, vs0, d0, ds0, p0, q0, hargs, rfl, rfl, h0, r0⟩ := trodAll_cons hA
  obtain ⟨rfl, rfl, rfl⟩ := trodAll_nil r0
  obtain rfl : args = #[v0] := by cases args; simp_all
  obtain ⟨rfl, rfl⟩ := trodVars_none hV
  have k0 := h0
  have lt0 : ∀ x ∈ p0, x.block < W.heap.size := by obtain ⟨m, hm⟩ := k0; exact DataW.trod_lt m _ _ _ hm
  obtain ⟨fu0, hf0⟩ := h0
  obtain ⟨c0, co0, ch0, ck0, rfl⟩ := Cx_open2 (hval 0 27 v0 rfl rfl) hf0
  clear hA0 hval0
  have hwalk := imageEncodes_walk c0 co0 ch0 ck0 W

  refine hwalk.mono fun e W' ⟨he, bel⟩ => ?_
  subst he
  exact ⟨_, rfl, _, _, _, [], _, [], hW', trodAll_mk1 (shut_bool Try.underlying4 _), (trodAll_cons_mk (Below.trod imageEncodes_laid (by kernel_rfl) (of_decide_eq_true (by kernel_rfl)) k0 bel lt0) trodAll_mk0), rfl, bel.frame _, fun h => by cases h⟩

theorem imageEncodes_over : Rows.imageEncodesRow.holds Try.pinned (OpenSpec.ofChange Rows.imageEncodesSpec) :=
  OpenClaim.holds_of_wide 3 Try.f3 rfl rfl rfl rfl rfl rfl rfl ⟨rfl, rfl, rfl, rfl, rfl⟩ rfl rfl rfl rfl rfl (by kernel_rfl) Try.func3 (by kernel_rfl)
    (of_decide_eq_true (by kernel_rfl)) (by unfold Func.isWrapper; first | (rw [if_pos (by decide +kernel)]; kernel_rfl) | (rw [if_neg (by decide +kernel)]; exact ⟨rfl, rfl⟩))
    (fun os started H enc _ => imageEncodes_lifted os started H enc)

theorem imageEncodes_holds : Rows.ImageEncodesSaid := imageEncodes_over
#print axioms imageEncodes_holds
end Go.Proofs.Ytdphapjeohkbjaa
