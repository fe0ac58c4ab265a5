/- For every network (its slices as long as any may be) the law ImageBack answers true: what was encoded is loaded, and is the same. No conditions. -/
import Derived.Test.YtdgkanamceeheaaGreatRows
import Derived.Test.YtdgkanamceeheaaGreatM48
import Derived.Test.YtdgkanamceeheaaGreatM49
import Derived.WalkKit
import Derived.Handy
import Derived.Deep.RegionHeld3
import Derived.StillTailTactics
import Derived.ProofKit
import Derived.OpenShut
import Derived.ShutString
import Derived.ChangeOld
import Derived.Below
set_option linter.unusedVariables false
namespace Go.Proofs.YtdgkanamceeheaaGreat
open Go.ChangeShapes Go.WideShapes Go.ChangeAt Go.RowKit
open Go.ChangeMaps (open_string shut_string)
set_option linter.unusedVariables false

theorem imageBack_own : ownKnob Tryz.prog.godebug = none := by kernel_rfl
theorem imageBack_laid : laidOutB Tryz.prog = true := by kernel_rfl

set_option maxRecDepth 100000 in
set_option maxHeartbeats 8000000 in
theorem imageBack_walk {w : World} (c : Cx) (co : c.Ok) (ch : c.Held w) (ck : c.Caps) (_w : World) :
    Calls Tryz.prog 4 #[c.val] w fun e w' => e = .returned (.bool true) ∧ Below w.heap.size w w' := by
  have HA := Lib.hid Im.awake_any
  have HF := Lib.hid (fun (w' : World) (hb : Below w.heap.size w w') => few_any c w' (ch.below hb) ⟨co.2.1, co.2.2.2.2.1, co.2.2.2.2.2.2.1, co.2.2.2.2.2.2.2.2.1⟩)
  have HE := Lib.hid (fun (h : few c = true) (w' : World) (hb : Below w.heap.size w w') => Im.Encode_any c (Im.few_im co h) w' (ch.below hb))
  have HLB := Lib.hid (fun (h : few c = true) => Im.load_back c (Im.few_im co h))
  have HS0 : Hid (few c = true → ∀ (d : Cx), d.pl = c.pl → ∀ W, Below w.heap.size w W → d.Held W → Calls Tryz.prog 10 #[c.val, d.val] W fun e w' => e = .returned (.bool true) ∧ Below W.heap.size W w') := fun h d hd W hb hh => by
    have hs := (Im.few_im co h).sm
    exact Im.Same_any c d hd.symm (by have := hs.parts; omega) (by have := hs.wins; omega) (by have := hs.vls; omega) (by have := hs.ports; omega) (fun v hv => by have := hs.tol v hv; omega) W (ch.below hb) hh
  obtain ⟨ER, hER⟩ : ∃ r, PitotImg.encode c.pl = r := ⟨_, rfl⟩
  have hEE : Im.encRes c = Im.encV ER := by rw [← hER]; rfl
  rw [hEE] at HE
  rw [hER] at HLB
  have HEN : Hid (∀ k, ER = .error k → k ≠ 0) := fun k h => Im.enc_err (hER.trans h)
  clear hEE hER ch ck co
  generalize few c = fw at HF HE HLB HS0
  generalize c.pl = PL at HLB HS0
  obtain ⟨hosts, pA, pc, parts, major, wA, wk, wins, vA, vc, vls, qA, qc, ports⟩ := c
  have HS1 : Hid (fw = true → ∀ (d : Cx), d.pl = PL → ∀ W, Below w.heap.size w W → d.Held W → Calls Tryz.prog 10 #[.agg #[.int .i64 hosts, .slice pA parts.length pc, .int .i64 major, .slice wA wins.length wk, .slice vA vls.length vc, .slice qA ports.length qc], d.val] W fun e w' => e = .returned (.bool true) ∧ Below W.heap.size W w') := HS0.out
  clear HS0
  simp only [Cx.val] at HF HE ⊢
  generalize wins.length = wl, parts.length = pl, vls.length = vl, ports.length = ql at HF HE HS1 ⊢
  have CB0 : Hid ((w.alloc (.cells #[.int .i64 hosts, .slice pA pl pc, .int .i64 major, .slice wA wl wk, .slice vA vl vc, .slice qA ql qc] 28)).heap[w.heap.size]? = some (.cells #[.int .i64 hosts, .slice pA pl pc, .int .i64 major, .slice wA wl wk, .slice vA vl vc, .slice qA ql qc] 28)) := heap_alloc_new w _
  have BB0 : Hid (Below w.heap.size w (w.alloc (.cells #[.int .i64 hosts, .slice pA pl pc, .int .i64 major, .slice wA wl wk, .slice vA vl vc, .slice qA ql qc] 28))) := (Below.refl _ w).alloc (Nat.le_refl _) _
  go_enter Tryz.func4, Tryz.ntmps4
  go_upto_region 1 with (fail)
  have CB := CB0
  have BB := BB0
  clear CB0 BB0
  generalize w.alloc (.cells #[.int .i64 hosts, .slice pA pl pc, .int .i64 major, .slice wA wl wk, .slice vA vl vc, .slice qA ql qc] 28) = Wi at CB BB ⊢
  obtain ⟨c0, c1, c2, c3, c4, c5⟩ := cells_6 CB.out
  cases fw
  · go_wp2_with (first
    | (go_at_call 11; (with_reducible refine (HF.out _ BB.out).mono ?_); rintro e w2 ⟨rfl, hb2⟩
       (have CX := Lib.hid (lies_below CB.out hb2 (lies_lt CB.out)))
       (have BX := Lib.hid (BB.out.trans (hb2.mono BB.out.size)))
       (clear hb2 CB BB c0 c1 c2 c3 c4 c5)
       (have CB := CX)
       (have BB := BX)
       (clear CX BX)
       (obtain ⟨c0, c1, c2, c3, c4, c5⟩ := cells_6 CB.out))
    | (go_at_call 7; (with_reducible refine (HA.out _).mono ?_); rintro e w2 ⟨rfl, hb2⟩
       (have CX := Lib.hid (lies_below CB.out hb2 (lies_lt CB.out)))
       (have BX := Lib.hid (BB.out.trans (hb2.mono BB.out.size)))
       (clear hb2 CB BB c0 c1 c2 c3 c4 c5)
       (have CB := CX)
       (have BB := BX)
       (clear CX BX)
       (obtain ⟨c0, c1, c2, c3, c4, c5⟩ := cells_6 CB.out)))
    go_returns
    exact ⟨rfl, BB.out⟩
  have HEW := Lib.hid (HE.out rfl)
  have HLBW := Lib.hid (HLB.out rfl)
  have HS := Lib.hid (HS1.out rfl)
  clear HE HLB HS1
  cases ER with
  | error k =>
    have hk := HEN.out k rfl
    have g1 : (k == 0) = false := by simpa using hk
    have g2 : (k != 0) = true := by simpa using hk
    have HEW2 : Hid (∀ (w' : World), Below w.heap.size w w' → Calls Tryz.prog 12 #[.agg #[.int .i64 hosts, .slice pA pl pc, .int .i64 major, .slice wA wl wk, .slice vA vl vc, .slice qA ql qc]] w' fun e w'' => e = .returned (.tuple #[.string ⟨#[]⟩, .int .i64 k]) ∧ Below w'.heap.size w' w'') := HEW.out
    clear HEW HLBW HEN hk HS
    go_wp2_with (first
    | (go_at_call 11; (with_reducible refine (HF.out _ BB.out).mono ?_); rintro e w2 ⟨rfl, hb2⟩
       (have CX := Lib.hid (lies_below CB.out hb2 (lies_lt CB.out)))
       (have BX := Lib.hid (BB.out.trans (hb2.mono BB.out.size)))
       (clear hb2 CB BB c0 c1 c2 c3 c4 c5)
       (have CB := CX)
       (have BB := BX)
       (clear CX BX)
       (obtain ⟨c0, c1, c2, c3, c4, c5⟩ := cells_6 CB.out))
    | (go_at_call 12; (with_reducible refine (HEW2.out _ BB.out).mono ?_); rintro e w2 ⟨rfl, hb2⟩
       (have CX := Lib.hid (lies_below CB.out hb2 (lies_lt CB.out)))
       (have BX := Lib.hid (BB.out.trans (hb2.mono BB.out.size)))
       (clear hb2 CB BB c0 c1 c2 c3 c4 c5)
       (have CB := CX)
       (have BB := BX)
       (clear CX BX)
       (obtain ⟨c0, c1, c2, c3, c4, c5⟩ := cells_6 CB.out))
    | (go_at_call 7; (with_reducible refine (HA.out _).mono ?_); rintro e w2 ⟨rfl, hb2⟩
       (have CX := Lib.hid (lies_below CB.out hb2 (lies_lt CB.out)))
       (have BX := Lib.hid (BB.out.trans (hb2.mono BB.out.size)))
       (clear hb2 CB BB c0 c1 c2 c3 c4 c5)
       (have CB := CX)
       (have BB := BX)
       (clear CX BX)
       (obtain ⟨c0, c1, c2, c3, c4, c5⟩ := cells_6 CB.out)))
    go_returns
    exact ⟨rfl, BB.out⟩
  | ok l =>
    have HEW2 : Hid (∀ (w' : World), Below w.heap.size w w' → Calls Tryz.prog 12 #[.agg #[.int .i64 hosts, .slice pA pl pc, .int .i64 major, .slice wA wl wk, .slice vA vl vc, .slice qA ql qc]] w' fun e w'' => e = .returned (.tuple #[.string ⟨l.toArray⟩, .int .i64 0]) ∧ Below w'.heap.size w' w'') := HEW.out
    have HLD := Lib.hid (HLBW.out l rfl)
    clear HEW HLBW HEN
    obtain ⟨B, HB⟩ : ∃ B : ByteArray, Hid (B = ⟨l.toArray⟩) := ⟨_, Lib.hid rfl⟩
    rw [← HB.out] at HEW2 HLD
    have hzc := Im.zero_cf
    go_upto_region 7 with (first
      | (go_at_call 11; (with_reducible refine (HF.out _ BB.out).mono ?_); rintro e w2 ⟨rfl, hb2⟩
         (have CX := Lib.hid (lies_below CB.out hb2 (lies_lt CB.out)))
         (have BX := Lib.hid (BB.out.trans (hb2.mono BB.out.size)))
         (clear hb2 CB BB c0 c1 c2 c3 c4 c5)
         (have CB := CX)
         (have BB := BX)
         (clear CX BX)
         (obtain ⟨c0, c1, c2, c3, c4, c5⟩ := cells_6 CB.out))
      | (go_at_call 12; (with_reducible refine (HEW2.out _ BB.out).mono ?_); rintro e w2 ⟨rfl, hb2⟩
         (have CX := Lib.hid (lies_below CB.out hb2 (lies_lt CB.out)))
         (have BX := Lib.hid (BB.out.trans (hb2.mono BB.out.size)))
         (clear hb2 CB BB c0 c1 c2 c3 c4 c5)
         (have CB := CX)
         (have BB := BX)
         (clear CX BX)
         (obtain ⟨c0, c1, c2, c3, c4, c5⟩ := cells_6 CB.out))
      | (go_at_call 8; (with_reducible refine (HLD.out _).mono ?_); rintro e w3 ⟨⟨⟨dh, dA, dc, dL, dm, dB, dd, dWs, dC, de, dVs, dD, df, dPs⟩, hd1, hd2, he⟩, hb3⟩
         (have he : e = .returned (.tuple #[.agg #[.int .i64 dh, .slice dA dL.length dc, .int .i64 dm, .slice dB dWs.length dd, .slice dC dVs.length de, .slice dD dPs.length df], .int .i64 0]) := he)
         (have HSD := HS.out _ hd1)
         (simp only [Cx.val] at HSD)
         (obtain ⟨dHeld, hdH⟩ : ∃ P : World → Prop, P = (fun W => Cx.Held W ⟨dh, dA, dc, dL, dm, dB, dd, dWs, dC, de, dVs, dD, df, dPs⟩) := ⟨_, rfl⟩)
         (have HHB : Hid (∀ W W' : World, dHeld W → Below W.heap.size W W' → dHeld W') := by (rw [hdH]; exact fun W W' h hb => Cx.Held.below h hb))
         (have HH3 : Hid (dHeld w3) := by (rw [hdH]; exact hd2))
         (have HSE : Hid (∀ W, Below w.heap.size w W → dHeld W → Calls Tryz.prog 10 #[.agg #[.int .i64 hosts, .slice pA pl pc, .int .i64 major, .slice wA wl wk, .slice vA vl vc, .slice qA ql qc], .agg #[.int .i64 dh, .slice dA dL.length dc, .int .i64 dm, .slice dB dWs.length dd, .slice dC dVs.length de, .slice dD dPs.length df]] W fun e w' => e = .returned (.bool true) ∧ Below W.heap.size W w') := by (rw [hdH]; exact HSD))
         (clear HSD hdH hd2 hd1 HS)
         (obtain ⟨dl, hdl⟩ : ∃ n, dL.length = n := ⟨_, rfl⟩)
         (obtain ⟨dn, hdn⟩ : ∃ n, dWs.length = n := ⟨_, rfl⟩)
         (obtain ⟨do_, hdo⟩ : ∃ n, dVs.length = n := ⟨_, rfl⟩)
         (obtain ⟨dp, hdp⟩ : ∃ n, dPs.length = n := ⟨_, rfl⟩)
         (rw [hdl, hdn, hdo, hdp] at he HSE)
         (subst he)
         (clear hdl hdn hdo hdp)
         (have HB3 := Lib.hid hb3)
         (clear hb3)))
    clear hzc c0 c1 c2 c3 c4 c5
    have CB7 := Lib.hid (lies_alloc (o := .cells #[.int .i64 dh, .slice dA dl dc, .int .i64 dm, .slice dB dn dd, .slice dC do_ de, .slice dD dp df] 28) (lies_below CB.out HB3.out (lies_lt CB.out)))
    have DB7 : Hid ((w3.alloc (.cells #[.int .i64 dh, .slice dA dl dc, .int .i64 dm, .slice dB dn dd, .slice dC do_ de, .slice dD dp df] 28)).heap[w3.heap.size]? = some (.cells #[.int .i64 dh, .slice dA dl dc, .int .i64 dm, .slice dB dn dd, .slice dC do_ de, .slice dD dp df] 28)) := heap_alloc_new w3 _
    have BX := BB.out.trans (HB3.out.mono BB.out.size)
    have BB7 := Lib.hid (BX.alloc BX.size (.cells #[.int .i64 dh, .slice dA dl dc, .int .i64 dm, .slice dB dn dd, .slice dC do_ de, .slice dD dp df] 28))
    have HSF := Lib.hid (HSE.out _ BB7.out (HHB.out _ _ HH3.out ((Below.refl _ w3).alloc (Nat.le_refl _) _)))
    clear BX BB CB HB3 HSE HHB HH3
    obtain ⟨W7, hW7⟩ : ∃ W, w3.alloc (.cells #[.int .i64 dh, .slice dA dl dc, .int .i64 dm, .slice dB dn dd, .slice dC do_ de, .slice dD dp df] 28) = W := ⟨_, rfl⟩
    rw [hW7] at CB7 DB7 BB7 HSF ⊢
    clear hW7
    obtain ⟨db, hdb⟩ : ∃ n, w3.heap.size = n := ⟨_, rfl⟩
    rw [hdb] at DB7 ⊢
    clear hdb
    obtain ⟨c0, c1, c2, c3, c4, c5⟩ := cells_6 CB7.out
    obtain ⟨d0, d1, d2, d3, d4, d5⟩ := cells_6 DB7.out
    go_wp2_with (first
      | (go_at_call 10; (with_reducible refine (HSF.out).mono ?_); rintro r w8 ⟨rfl, hb8⟩)
      | (go_at_call 7; (with_reducible refine (HA.out _).mono ?_); rintro r w9 ⟨rfl, hb9⟩))
    go_returns
    have k8 := BB7.out.trans (hb8.mono BB7.out.size)
    exact ⟨rfl, k8.trans (hb9.mono k8.size)⟩


set_option maxRecDepth 100000 in
theorem imageBack_lifted (os : Os) (started : os.Started) (H : Type) (enc : TypeId × Value → H) :
    ReturnsInHanded {} Tryz.checked os 4 .any (Rows.imageBackSpec.pre6 enc Tryz.prog Tryz.f4 Rows.imageBackRow.domain false) (Rows.imageBackSpec.post enc Tryz.prog Tryz.f4 false true false false) := by
  refine returnsInHanded_of_change (C := Tryz.checked) imageBack_own started (by kernel_rfl) Tryz.func4
    (ChangeSpec.witness6 (enc := enc) (C := Tryz.checked) false ⟨#[], #[.agg #[.int .i64 0, .slice none 0 0, .int .i64 0, .slice none 0 0, .slice none 0 0, .slice none 0 0]], []⟩ 8 (by kernel_rfl) (by kernel_rfl) (by kernel_rfl) (by kernel_rfl)) ?_
  intro W base args ds gs before hval0 hW hcnd _
  have hval : ∀ (j : Nat) t v, Tryz.f4.params[j]? = some t → args[j]? = some v → Value.okWide Tryz.prog W .any base t v := hval0
  have hW' := hW
  obtain ⟨p, q, hA0, hV, rfl, hfz, hnd⟩ := hW
  have hA : DataW.TrodAll enc Tryz.prog W 0 (fun _ => true) true Tryz.f4.params.toList args.toList ds p := hA0
  rw [Tryz.params4] at hA hval
  obtain ⟨v0, vs0, d0, ds0, p0, q0, hargs, rfl, rfl, h0, r0⟩ := trodAll_cons hA
  obtain ⟨rfl, rfl, rfl⟩ := trodAll_nil r0
  obtain rfl : args = #[v0] := by cases args; simp_all
  obtain ⟨rfl, rfl⟩ := trodVars_none hV
  have k0 := h0
  have lt0 : ∀ x ∈ p0, x.block < W.heap.size := by obtain ⟨m, hm⟩ := k0; exact DataW.trod_lt m _ _ _ hm
  obtain ⟨fu0, hf0⟩ := h0
  obtain ⟨c0, co0, ch0, ck0, rfl⟩ := Cx_open2 (hval 0 28 v0 rfl rfl) hf0
  clear hA0 hval0
  have hwalk := imageBack_walk c0 co0 ch0 ck0 W

  refine hwalk.mono fun e W' ⟨he, bel⟩ => ?_
  subst he
  exact ⟨_, rfl, _, _, _, [], _, [], hW', trodAll_mk1 (shut_bool Tryz.underlying4 _), (trodAll_cons_mk (Below.trod imageBack_laid (by kernel_rfl) (of_decide_eq_true (by kernel_rfl)) k0 bel lt0) trodAll_mk0), rfl, bel.frame _, fun h => by cases h⟩

theorem imageBack_over : Rows.imageBackRow.holds Tryz.pinned (OpenSpec.ofChange Rows.imageBackSpec) :=
  OpenClaim.holds_of_wide 4 Tryz.f4 rfl rfl rfl rfl rfl rfl rfl ⟨rfl, rfl, rfl, rfl, rfl⟩ rfl rfl rfl rfl rfl (by kernel_rfl) Tryz.func4 (by kernel_rfl)
    (of_decide_eq_true (by kernel_rfl)) (by unfold Func.isWrapper; first | (rw [if_pos (by decide +kernel)]; kernel_rfl) | (rw [if_neg (by decide +kernel)]; exact ⟨rfl, rfl⟩))
    (fun os started H enc _ => imageBack_lifted os started H enc)

theorem imageBack_holds : Rows.ImageBackSaid := imageBack_over
#print axioms imageBack_holds
end Go.Proofs.YtdgkanamceeheaaGreat
