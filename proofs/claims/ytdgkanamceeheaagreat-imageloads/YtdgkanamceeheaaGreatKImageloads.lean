/- For every text the law ImageLoads answers true: which network an image is of, or why it is of none, is what the document says. No conditions. -/
import Derived.Test.YtdgkanamceeheaaGreatK48
import Derived.Test.YtdgkanamceeheaaGreatK49
import Derived.Test.YtdgkanamceeheaaGreatRows
import Derived.WalkKit
import Derived.Handy
import Derived.Deep.RegionHeld3
import Derived.StillTailTactics
import Derived.ProofKit
import Derived.OpenShut
import Derived.ShutString
import Derived.ChangeOld
import Derived.Below
set_option linter.unusedVariables false
namespace Go.Proofs.YtdgkanamceeheaaGreat
open Go.ChangeShapes Go.WideShapes Go.ChangeAt Go.RowKit
open Go.ChangeMaps (open_string shut_string)
set_option linter.unusedVariables false
theorem imageLoads_own : ownKnob Tryz.prog.godebug = none := by kernel_rfl
set_option maxRecDepth 100000 in
set_option maxHeartbeats 8000000 in
theorem imageLoads_walk (S : ByteArray) (hs : S.size ≤ maxLen) (w : World) :
    Calls Tryz.prog 3 #[.string S] w fun e w' => e = .returned (.bool true) ∧ Below w.heap.size w w' := by
  unfold maxLen at hs
  have HA := Lib.hid Im.awake_any
  by_cases hbig : 5000 < S.size
  · have e1 : decide ((5000 : Int) < (S.size : Int)) = true := decide_eq_true (by omega)
    have e1' : decide (5000 < S.size) = true := decide_eq_true hbig
    go_enter Tryz.func3,Tryz.ntmps3
    go_wp2_with (go_at_call 7;(with_reducible refine (HA.out _).mono ?_);rintro e w2 ⟨rfl,hb2⟩)
    go_returns
    exact ⟨rfl,hb2⟩
  have e1 : decide ((5000 : Int) < (S.size : Int)) = false := decide_eq_false (by omega)
  have e1' : decide (5000 < S.size) = false := decide_eq_false hbig
  obtain ⟨l,hl⟩ : ∃ l,S.data.toList = l := ⟨_,rfl⟩
  have hSl : S = ⟨l.toArray⟩ := by rw [← hl]
  have hlen : l.length ≤ 5000 := by rw [← hl];simp;omega
  have HLD : Hid (∀ w,Calls Tryz.prog 8 #[.string S] w fun e w' => Im.Ans (PitotImg.load l) e w' ∧ Below w.heap.size w w') := fun w => by rw [hSl];exact Im.load_few l hlen w
  have HLR : Hid (∀ w,Calls Tryz.prog 9 #[.string S] w fun e w' => Im.Ans (PitotImg.load l) e w' ∧ Below w.heap.size w w') := fun w => by rw [hSl];exact Im.refLoad_any l hlen w
  have HSM : Hid (∀ c d : Cx,PitotImg.load l = .ok c.pl → d.pl = c.pl → ∀ W,c.Held W → d.Held W → Calls Tryz.prog 10 #[c.val,d.val] W fun e w' => e = .returned (.bool true) ∧ Below W.heap.size W w') := fun c d h hd W h1 h2 => by
    have hq := (Im.loaded hlen h).1
    exact Im.Same_any c d hd.symm (by have := hq.parts;omega) (by have := hq.wins;omega) (by have := hq.vls;omega) (by have := hq.ports;omega) (fun v hv => by have := hq.tol v hv;omega) W h1 h2
  have HSZ : Hid (∀ W,Calls Tryz.prog 10 #[.agg #[.int .i64 0,.slice none 0 0,.int .i64 0,.slice none 0 0,.slice none 0 0,.slice none 0 0],.agg #[.int .i64 0,.slice none 0 0,.int .i64 0,.slice none 0 0,.slice none 0 0,.slice none 0 0]] W fun e w' => e = .returned (.bool true) ∧ Below W.heap.size W w') := fun W => by
    have hh : (⟨0,none,0,[],0,none,0,[],none,0,[],none,0,[]⟩ : Cx).Held W := ⟨fun h => absurd rfl h,fun h => absurd rfl h,fun h => absurd rfl h,fun h => absurd rfl h⟩
    exact Im.Same_any ⟨0,none,0,[],0,none,0,[],none,0,[],none,0,[]⟩ ⟨0,none,0,[],0,none,0,[],none,0,[],none,0,[]⟩ rfl (by simp) (by simp) (by simp) (by simp) (fun v hv => by simp at hv) W hh hh
  generalize PitotImg.load l = RL at HLD HLR HSM
  clear hl hSl hlen hs hbig
  have hzc := Im.zero_cf
  cases RL with
  | error k =>
    have g1 : (k == k) = true := by simp
    have HLD2 : Hid (∀ w,Calls Tryz.prog 8 #[.string S] w fun e w' => e = .returned (.tuple #[.agg #[.int .i64 0,.slice none 0 0,.int .i64 0,.slice none 0 0,.slice none 0 0,.slice none 0 0],.int .i64 k]) ∧ Below w.heap.size w w') := HLD.out
    have HLR2 : Hid (∀ w,Calls Tryz.prog 9 #[.string S] w fun e w' => e = .returned (.tuple #[.agg #[.int .i64 0,.slice none 0 0,.int .i64 0,.slice none 0 0,.slice none 0 0,.slice none 0 0],.int .i64 k]) ∧ Below w.heap.size w w') := HLR.out
    clear HLD HLR HSM
    go_enter Tryz.func3,Tryz.ntmps3
    go_upto_region 4 with (first
      | (go_at_call 8;(with_reducible refine (HLD2.out _).mono ?_);rintro e w2 ⟨rfl,hb2⟩))
    have CB4 : Hid ((w2.alloc (.cells #[.int .i64 0,.slice none 0 0,.int .i64 0,.slice none 0 0,.slice none 0 0,.slice none 0 0] 28)).heap[w2.heap.size]? = some (.cells #[.int .i64 0,.slice none 0 0,.int .i64 0,.slice none 0 0,.slice none 0 0,.slice none 0 0] 28)) := heap_alloc_new w2 _
    have BB4 := Lib.hid (hb2.alloc hb2.size (.cells #[.int .i64 0,.slice none 0 0,.int .i64 0,.slice none 0 0,.slice none 0 0,.slice none 0 0] 28))
    clear hb2
    obtain ⟨W4,hW4⟩ : ∃ W,w2.alloc (.cells #[.int .i64 0,.slice none 0 0,.int .i64 0,.slice none 0 0,.slice none 0 0,.slice none 0 0] 28) = W := ⟨_,rfl⟩
    rw [hW4] at CB4 BB4 ⊢
    clear hW4
    obtain ⟨cb,hcb⟩ : ∃ n,w2.heap.size = n := ⟨_,rfl⟩
    rw [hcb] at CB4 ⊢
    clear hcb
    go_upto_region 5 with (first
      | (go_at_call 9;(with_reducible refine (HLR2.out _).mono ?_);rintro e w5 ⟨rfl,hb5⟩))
    have CB6 := Lib.hid (lies_alloc (o := .cells #[.int .i64 0,.slice none 0 0,.int .i64 0,.slice none 0 0,.slice none 0 0,.slice none 0 0] 28) (lies_below CB4.out hb5 (lies_lt CB4.out)))
    have DB6 : Hid ((w5.alloc (.cells #[.int .i64 0,.slice none 0 0,.int .i64 0,.slice none 0 0,.slice none 0 0,.slice none 0 0] 28)).heap[w5.heap.size]? = some (.cells #[.int .i64 0,.slice none 0 0,.int .i64 0,.slice none 0 0,.slice none 0 0,.slice none 0 0] 28)) := heap_alloc_new w5 _
    have BX := BB4.out.trans (hb5.mono BB4.out.size)
    have BB6 := Lib.hid (BX.alloc BX.size (.cells #[.int .i64 0,.slice none 0 0,.int .i64 0,.slice none 0 0,.slice none 0 0,.slice none 0 0] 28))
    clear hb5 CB4 BB4 BX hzc
    obtain ⟨W6,hW6⟩ : ∃ W,w5.alloc (.cells #[.int .i64 0,.slice none 0 0,.int .i64 0,.slice none 0 0,.slice none 0 0,.slice none 0 0] 28) = W := ⟨_,rfl⟩
    rw [hW6] at CB6 DB6 BB6 ⊢
    clear hW6
    obtain ⟨db,hdb⟩ : ∃ n,w5.heap.size = n := ⟨_,rfl⟩
    rw [hdb] at DB6 ⊢
    clear hdb
    obtain ⟨c0,c1,c2,c3,c4,c5⟩ := cells_6 CB6.out
    obtain ⟨d0,d1,d2,d3,d4,d5⟩ := cells_6 DB6.out
    go_wp2_with (first
      | (go_at_call 10;(with_reducible refine (HSZ.out _).mono ?_);rintro e w7 ⟨rfl,hb7⟩)
      | (go_at_call 7;(with_reducible refine (HA.out _).mono ?_);rintro e w8 ⟨rfl,hb8⟩))
    go_returns
    have k7 := BB6.out.trans (hb7.mono BB6.out.size)
    exact ⟨rfl,k7.trans (hb8.mono k7.size)⟩
  | ok pf =>
    clear HSZ
    go_enter Tryz.func3,Tryz.ntmps3
    go_upto_region 4 with (first
      | (go_at_call 8;(with_reducible refine (HLD.out _).mono ?_);rintro e w2 ⟨⟨cx,hcx,hhc,he⟩,hb2⟩
         (have HSX := HSM.out cx)
         (obtain ⟨cHeld,hcH⟩ : ∃ P : World → Prop,P = (fun W => Cx.Held W cx) := ⟨_,rfl⟩)
         (have HCB : Hid (∀ W W' : World,cHeld W → Below W.heap.size W W' → cHeld W') := by (rw [hcH];exact fun W W' h hb => Cx.Held.below h hb))
         (have HC2 : Hid (cHeld w2) := by (rw [hcH];exact hhc))
         (have HSX2 : Hid (∀ d : Cx,d.pl = pf → ∀ W,cHeld W → d.Held W → Calls Tryz.prog 10 #[cx.val,d.val] W fun e w' => e = .returned (.bool true) ∧ Below W.heap.size W w') := by (rw [hcH];exact fun d hd => HSX d (by rw [hcx]) (hd.trans hcx.symm)))
         (clear HSX hcH hhc hcx HSM HLD)
         (obtain ⟨ch,cA,cc,cL,cm,cB,cd,cWs,cC,ce,cVs,cD,cf,cPs⟩ := cx)
         (have he : e = .returned (.tuple #[.agg #[.int .i64 ch,.slice cA cL.length cc,.int .i64 cm,.slice cB cWs.length cd,.slice cC cVs.length ce,.slice cD cPs.length cf],.int .i64 0]) := he)
         (have HSX3 : Hid (∀ d : Cx,d.pl = pf → ∀ W,cHeld W → d.Held W → Calls Tryz.prog 10 #[.agg #[.int .i64 ch,.slice cA cL.length cc,.int .i64 cm,.slice cB cWs.length cd,.slice cC cVs.length ce,.slice cD cPs.length cf],d.val] W fun e w' => e = .returned (.bool true) ∧ Below W.heap.size W w') := HSX2.out)
         (clear HSX2)
         (obtain ⟨cl,hcl⟩ : ∃ n,cL.length = n := ⟨_,rfl⟩)
         (obtain ⟨cn,hcn⟩ : ∃ n,cWs.length = n := ⟨_,rfl⟩)
         (obtain ⟨co,hco⟩ : ∃ n,cVs.length = n := ⟨_,rfl⟩)
         (obtain ⟨cp,hcp⟩ : ∃ n,cPs.length = n := ⟨_,rfl⟩)
         (rw [hcl,hcn,hco,hcp] at he HSX3)
         (subst he)
         (clear hcl hcn hco hcp)
         (have HB2 := Lib.hid hb2)
         (clear hb2)))
    have CB4 : Hid ((w2.alloc (.cells #[.int .i64 ch,.slice cA cl cc,.int .i64 cm,.slice cB cn cd,.slice cC co ce,.slice cD cp cf] 28)).heap[w2.heap.size]? = some (.cells #[.int .i64 ch,.slice cA cl cc,.int .i64 cm,.slice cB cn cd,.slice cC co ce,.slice cD cp cf] 28)) := heap_alloc_new w2 _
    have BB4 := Lib.hid (HB2.out.alloc HB2.out.size (.cells #[.int .i64 ch,.slice cA cl cc,.int .i64 cm,.slice cB cn cd,.slice cC co ce,.slice cD cp cf] 28))
    have HC4 := Lib.hid (HCB.out _ _ HC2.out ((Below.refl _ w2).alloc (Nat.le_refl _) (.cells #[.int .i64 ch,.slice cA cl cc,.int .i64 cm,.slice cB cn cd,.slice cC co ce,.slice cD cp cf] 28)))
    clear HB2 HC2
    obtain ⟨W4,hW4⟩ : ∃ W,w2.alloc (.cells #[.int .i64 ch,.slice cA cl cc,.int .i64 cm,.slice cB cn cd,.slice cC co ce,.slice cD cp cf] 28) = W := ⟨_,rfl⟩
    rw [hW4] at CB4 BB4 HC4 ⊢
    clear hW4
    obtain ⟨cb,hcb⟩ : ∃ n,w2.heap.size = n := ⟨_,rfl⟩
    rw [hcb] at CB4 ⊢
    clear hcb
    go_upto_region 5 with (first
      | (go_at_call 9;(with_reducible refine (HLR.out _).mono ?_);rintro e w5 ⟨⟨dx,hdx,hhd,he⟩,hb5⟩
         (have HSY := HSX3.out dx hdx)
         (obtain ⟨dHeld,hdH⟩ : ∃ P : World → Prop,P = (fun W => Cx.Held W dx) := ⟨_,rfl⟩)
         (have HDB : Hid (∀ W W' : World,dHeld W → Below W.heap.size W W' → dHeld W') := by (rw [hdH];exact fun W W' h hb => Cx.Held.below h hb))
         (have HD5 : Hid (dHeld w5) := by (rw [hdH];exact hhd))
         (have HSY2 : Hid (∀ W,cHeld W → dHeld W → Calls Tryz.prog 10 #[.agg #[.int .i64 ch,.slice cA cl cc,.int .i64 cm,.slice cB cn cd,.slice cC co ce,.slice cD cp cf],dx.val] W fun e w' => e = .returned (.bool true) ∧ Below W.heap.size W w') := by (rw [hdH];exact HSY))
         (clear HSY hdH hhd hdx HSX3 HLR)
         (obtain ⟨dh,dA,dc,dL,dm,dB,dd,dWs,dC,de,dVs,dD,df,dPs⟩ := dx)
         (have he : e = .returned (.tuple #[.agg #[.int .i64 dh,.slice dA dL.length dc,.int .i64 dm,.slice dB dWs.length dd,.slice dC dVs.length de,.slice dD dPs.length df],.int .i64 0]) := he)
         (simp only [Cx.val] at HSY2)
         (obtain ⟨dl,hdl⟩ : ∃ n,dL.length = n := ⟨_,rfl⟩)
         (obtain ⟨dn,hdn⟩ : ∃ n,dWs.length = n := ⟨_,rfl⟩)
         (obtain ⟨do_,hdo⟩ : ∃ n,dVs.length = n := ⟨_,rfl⟩)
         (obtain ⟨dp,hdp⟩ : ∃ n,dPs.length = n := ⟨_,rfl⟩)
         (rw [hdl,hdn,hdo,hdp] at he HSY2)
         (subst he)
         (clear hdl hdn hdo hdp)
         (have HB5 := Lib.hid hb5)
         (clear hb5)))
    clear hzc
    have CB6 := Lib.hid (lies_alloc (o := .cells #[.int .i64 dh,.slice dA dl dc,.int .i64 dm,.slice dB dn dd,.slice dC do_ de,.slice dD dp df] 28) (lies_below CB4.out HB5.out (lies_lt CB4.out)))
    have DB6 : Hid ((w5.alloc (.cells #[.int .i64 dh,.slice dA dl dc,.int .i64 dm,.slice dB dn dd,.slice dC do_ de,.slice dD dp df] 28)).heap[w5.heap.size]? = some (.cells #[.int .i64 dh,.slice dA dl dc,.int .i64 dm,.slice dB dn dd,.slice dC do_ de,.slice dD dp df] 28)) := heap_alloc_new w5 _
    have BX := BB4.out.trans (HB5.out.mono BB4.out.size)
    have BB6 := Lib.hid (BX.alloc BX.size (.cells #[.int .i64 dh,.slice dA dl dc,.int .i64 dm,.slice dB dn dd,.slice dC do_ de,.slice dD dp df] 28))
    have HSF := Lib.hid (HSY2.out (w5.alloc (.cells #[.int .i64 dh,.slice dA dl dc,.int .i64 dm,.slice dB dn dd,.slice dC do_ de,.slice dD dp df] 28)) (HCB.out _ _ (HCB.out _ _ HC4.out HB5.out) ((Below.refl _ w5).alloc (Nat.le_refl _) _)) (HDB.out _ _ HD5.out ((Below.refl _ w5).alloc (Nat.le_refl _) _)))
    clear BX HB5 CB4 BB4 HSY2 HCB HDB HC4 HD5
    obtain ⟨W6,hW6⟩ : ∃ W,w5.alloc (.cells #[.int .i64 dh,.slice dA dl dc,.int .i64 dm,.slice dB dn dd,.slice dC do_ de,.slice dD dp df] 28) = W := ⟨_,rfl⟩
    rw [hW6] at CB6 DB6 BB6 HSF ⊢
    clear hW6
    obtain ⟨db,hdb⟩ : ∃ n,w5.heap.size = n := ⟨_,rfl⟩
    rw [hdb] at DB6 ⊢
    clear hdb
    obtain ⟨c0,c1,c2,c3,c4,c5⟩ := cells_6 CB6.out
    obtain ⟨d0,d1,d2,d3,d4,d5⟩ := cells_6 DB6.out
    go_wp2_with (first
      | (go_at_call 10;(with_reducible refine (HSF.out).mono ?_);rintro e w7 ⟨rfl,hb7⟩)
      | (go_at_call 7;(with_reducible refine (HA.out _).mono ?_);rintro e w8 ⟨rfl,hb8⟩))
    go_returns
    have k7 := BB6.out.trans (hb7.mono BB6.out.size)
    exact ⟨rfl,k7.trans (hb8.mono k7.size)⟩
set_option maxRecDepth 100000 in
theorem imageLoads_lifted (os : Os) (started : os.Started) (H : Type) (enc : TypeId × Value → H) :
    ReturnsInHanded {} Tryz.checked os 3 .any (Rows.imageLoadsSpec.pre6 enc Tryz.prog Tryz.f3 Rows.imageLoadsRow.domain false) (Rows.imageLoadsSpec.post enc Tryz.prog Tryz.f3 false true false false) := by
  refine returnsInHanded_of_change (C := Tryz.checked) imageLoads_own started (by kernel_rfl) Tryz.func3
    (ChangeSpec.witness6 (enc := enc) (C := Tryz.checked) false ⟨#[],#[.string ByteArray.empty],[]⟩ 8 (by kernel_rfl) (by kernel_rfl) (by kernel_rfl) (by kernel_rfl)) ?_
  intro W base args ds gs before hval0 hW hcnd _
  have hval : ∀ (j : Nat) t v,Tryz.f3.params[j]? = some t → args[j]? = some v → Value.okWide Tryz.prog W .any base t v := hval0
  have hW' := hW
  obtain ⟨p,q,hA0,hV,rfl,hfz,hnd⟩ := hW
  have hA : DataW.TrodAll enc Tryz.prog W 0 (fun _ => true) true Tryz.f3.params.toList args.toList ds p := hA0
  rw [Tryz.params3] at hA hval
  obtain ⟨v0,vs0,d0,ds0,p0,q0,hargs,rfl,rfl,h0,r0⟩ := trodAll_cons hA
  obtain ⟨rfl,rfl,rfl⟩ := trodAll_nil r0
  obtain rfl : args = #[v0] := by cases args;simp_all
  obtain ⟨rfl,rfl⟩ := trodVars_none hV
  obtain ⟨a0,rfl,rfl,rfl,w0⟩ := open_string Tryz.underlying9 (hval 0 9 v0 rfl rfl) h0
  clear hA0 hval0
  have hwalk := imageLoads_walk a0 w0 W
  refine hwalk.mono fun e W' ⟨he,bel⟩ => ?_
  subst he
  exact ⟨_,rfl,_,_,_,[],_,[],hW',trodAll_mk1 (shut_bool Tryz.underlying4 _),(trodAll_cons_mk (shut_string Tryz.underlying9 w0) trodAll_mk0),rfl,bel.frame _,fun h => by cases h⟩
theorem imageLoads_over : Rows.imageLoadsRow.holds Tryz.pinned (OpenSpec.ofChange Rows.imageLoadsSpec) :=
  OpenClaim.holds_of_wide 3 Tryz.f3 rfl rfl rfl rfl rfl rfl rfl ⟨rfl,rfl,rfl,rfl,rfl⟩ rfl rfl rfl rfl rfl (by kernel_rfl) Tryz.func3 (by kernel_rfl)
    (of_decide_eq_true (by kernel_rfl)) (by unfold Func.isWrapper;first | (rw [if_pos (by decide +kernel)];kernel_rfl) | (rw [if_neg (by decide +kernel)];exact ⟨rfl,rfl⟩))
    (fun os started H enc _ => imageLoads_lifted os started H enc)
theorem imageLoads_holds : Rows.ImageLoadsSaid := imageLoads_over
#print axioms imageLoads_holds
end Go.Proofs.YtdgkanamceeheaaGreat
