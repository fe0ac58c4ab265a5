/- For every text the law ImageAgain answers true: what is loaded is encoded as the same bytes, and may be. No conditions. -/
import Derived.Test.YtdgkanamceeheaaGreatRows
import Derived.Test.YtdgkanamceeheaaGreatM50
import Derived.WalkKit
import Derived.Handy
import Derived.Deep.RegionHeld3
import Derived.StillTailTactics
import Derived.ProofKit
import Derived.OpenShut
import Derived.ShutString
import Derived.ChangeOld
import Derived.Below
set_option linter.unusedVariables false
namespace Go.Proofs.YtdgkanamceeheaaGreat
open Go.ChangeShapes Go.WideShapes Go.ChangeAt Go.RowKit
open Go.ChangeMaps (open_string shut_string)
set_option linter.unusedVariables false

theorem imageAgain_own : ownKnob Tryz.prog.godebug = none := by kernel_rfl
set_option maxRecDepth 100000 in
set_option maxHeartbeats 8000000 in
theorem imageAgain_walk (S : ByteArray) (hs : S.size ≤ maxLen) (w : World) :
    Calls Tryz.prog 5 #[.string S] w fun e w' => e = .returned (.bool true) ∧ Below w.heap.size w w' := by
  unfold maxLen at hs
  have HA := Lib.hid Im.awake_any
  by_cases hbig : 5000 < S.size
  · have e1 : decide ((5000 : Int) < (S.size : Int)) = true := decide_eq_true (by omega)
    have e1' : decide (5000 < S.size) = true := decide_eq_true hbig
    go_enter Tryz.func5, Tryz.ntmps5
    go_wp2_with (go_at_call 7; (with_reducible refine (HA.out _).mono ?_); rintro e w2 ⟨rfl, hb2⟩)
    go_returns
    exact ⟨rfl, hb2⟩
  have e1 : decide ((5000 : Int) < (S.size : Int)) = false := decide_eq_false (by omega)
  have e1' : decide (5000 < S.size) = false := decide_eq_false hbig
  obtain ⟨l, hl⟩ : ∃ l, S.data.toList = l := ⟨_, rfl⟩
  have hSl : S = ⟨l.toArray⟩ := by rw [← hl]
  have hlen : l.length ≤ 5000 := by rw [← hl]; simp; omega
  have HLD : Hid (∀ w, Calls Tryz.prog 8 #[.string S] w fun e w' => Im.Ans (PitotImg.load l) e w' ∧ Below w.heap.size w w') := fun w => by rw [hSl]; exact Im.load_few l hlen w
  have HLE : Hid (∀ k, PitotImg.load l = .error k → k ≠ 0) := fun k h => Im.load_err h
  have HCK : Hid (∀ cx : Cx, PitotImg.load l = .ok cx.pl → ∃ a b : Int, ∀ W, cx.Held W → Calls Tryz.prog 13 #[cx.val] W fun e w' => e = .returned (.tuple #[.agg #[.int .i64 a, .int .i64 b], .int .i64 0]) ∧ Below W.heap.size W w') := fun cx h => by
    obtain ⟨h1, h2, h3, h4⟩ := Im.loaded hlen h
    refine ⟨(PitotConf.check cx.pl).1, (PitotConf.check cx.pl).2.1, fun W hh => ?_⟩
    have := Check_any cx h1 W hh
    rw [h3] at this
    exact this
  have HEN : Hid (∀ cx : Cx, PitotImg.load l = .ok cx.pl → ∀ W, cx.Held W → Calls Tryz.prog 12 #[cx.val] W fun e w' => e = .returned (.tuple #[.string S, .int .i64 0]) ∧ Below W.heap.size W w') := fun cx h W hh => by
    obtain ⟨h1, h2, h3, h4⟩ := Im.loaded hlen h
    have := Im.Encode_any cx h2 W hh
    rw [h4, ← hSl] at this
    exact this
  generalize PitotImg.load l = RL at HLD HLE HCK HEN
  clear hl hSl hlen hs hbig
  have hss : (S.toList == S.toList) = true := by simp
  have hzc := Im.zero_cf
  have hzf := Im.zero_fault
  cases RL with
  | error k =>
    have hk := HLE.out k rfl
    have g1 : (k == 0) = false := by simpa using hk
    have g2 : (k != 0) = true := by simpa using hk
    have HLD2 : Hid (∀ w, Calls Tryz.prog 8 #[.string S] w fun e w' => e = .returned (.tuple #[.agg #[.int .i64 0, .slice none 0 0, .int .i64 0, .slice none 0 0, .slice none 0 0, .slice none 0 0], .int .i64 k]) ∧ Below w.heap.size w w') := HLD.out
    clear HLD HLE HCK HEN hk hzf
    go_enter Tryz.func5, Tryz.ntmps5
    go_wp2_with (first
      | (go_at_call 8; (with_reducible refine (HLD2.out _).mono ?_); rintro e w2 ⟨rfl, hb2⟩)
      | (go_at_call 7; (with_reducible refine (HA.out _).mono ?_); rintro e w3 ⟨rfl, hb3⟩))
    go_returns
    have k2 := hb2.alloc hb2.size (.cells #[.int .i64 0, .slice none 0 0, .int .i64 0, .slice none 0 0, .slice none 0 0, .slice none 0 0] 28)
    exact ⟨rfl, k2.trans (hb3.mono k2.size)⟩
  | ok cf =>
    clear HLE
    go_enter Tryz.func5, Tryz.ntmps5
    go_upto_region 4 with (first
      | (go_at_call 8; (with_reducible refine (HLD.out _).mono ?_); rintro e w2 ⟨⟨cx, hcx, hhd, he⟩, hb2⟩
         (obtain ⟨a, b, hck⟩ := HCK.out cx (by rw [hcx]))
         (have hen := HEN.out cx (by rw [hcx]))
         (obtain ⟨dHeld, hdH⟩ : ∃ P : World → Prop, P = (fun W => Cx.Held W cx) := ⟨_, rfl⟩)
         (have HHB : Hid (∀ W W' : World, dHeld W → Below W.heap.size W W' → dHeld W') := by (rw [hdH]; exact fun W W' h hb => Cx.Held.below h hb))
         (have HH2 : Hid (dHeld w2) := by (rw [hdH]; exact hhd))
         (have HCK2 : Hid (∀ W, dHeld W → Calls Tryz.prog 13 #[cx.val] W fun e w' => e = .returned (.tuple #[.agg #[.int .i64 a, .int .i64 b], .int .i64 0]) ∧ Below W.heap.size W w') := by (rw [hdH]; exact hck))
         (have HEN2 : Hid (∀ W, dHeld W → Calls Tryz.prog 12 #[cx.val] W fun e w' => e = .returned (.tuple #[.string S, .int .i64 0]) ∧ Below W.heap.size W w') := by (rw [hdH]; exact hen))
         (clear hck hen hdH hhd hcx HCK HEN)
         (obtain ⟨dh, dA, dc, dL, dm, dB, dd, dWs, dC, de, dVs, dD, df, dPs⟩ := cx)
         (have he : e = .returned (.tuple #[.agg #[.int .i64 dh, .slice dA dL.length dc, .int .i64 dm, .slice dB dWs.length dd, .slice dC dVs.length de, .slice dD dPs.length df], .int .i64 0]) := he)
         (simp only [Cx.val] at HCK2 HEN2)
         (obtain ⟨dl, hdl⟩ : ∃ n, dL.length = n := ⟨_, rfl⟩)
         (obtain ⟨dn, hdn⟩ : ∃ n, dWs.length = n := ⟨_, rfl⟩)
         (obtain ⟨do_, hdo⟩ : ∃ n, dVs.length = n := ⟨_, rfl⟩)
         (obtain ⟨dp, hdp⟩ : ∃ n, dPs.length = n := ⟨_, rfl⟩)
         (rw [hdl, hdn, hdo, hdp] at he HCK2 HEN2)
         (subst he)
         (clear hdl hdn hdo hdp)
         (have HB2 := Lib.hid hb2)
         (clear hb2)))
    clear hzc
    have DB4 : Hid ((w2.alloc (.cells #[.int .i64 dh, .slice dA dl dc, .int .i64 dm, .slice dB dn dd, .slice dC do_ de, .slice dD dp df] 28)).heap[w2.heap.size]? = some (.cells #[.int .i64 dh, .slice dA dl dc, .int .i64 dm, .slice dB dn dd, .slice dC do_ de, .slice dD dp df] 28)) := heap_alloc_new w2 _
    have BB4 := Lib.hid (HB2.out.alloc HB2.out.size (.cells #[.int .i64 dh, .slice dA dl dc, .int .i64 dm, .slice dB dn dd, .slice dC do_ de, .slice dD dp df] 28))
    have HH4 := Lib.hid (HHB.out _ _ HH2.out ((Below.refl _ w2).alloc (Nat.le_refl _) (.cells #[.int .i64 dh, .slice dA dl dc, .int .i64 dm, .slice dB dn dd, .slice dC do_ de, .slice dD dp df] 28)))
    clear HB2 HH2
    obtain ⟨W4, hW4⟩ : ∃ W, w2.alloc (.cells #[.int .i64 dh, .slice dA dl dc, .int .i64 dm, .slice dB dn dd, .slice dC do_ de, .slice dD dp df] 28) = W := ⟨_, rfl⟩
    rw [hW4] at DB4 BB4 HH4 ⊢
    clear hW4
    obtain ⟨db, hdb⟩ : ∃ n, w2.heap.size = n := ⟨_, rfl⟩
    rw [hdb] at DB4 ⊢
    clear hdb
    obtain ⟨d0, d1, d2, d3, d4, d5⟩ := cells_6 DB4.out
    go_upto_region 7 with (first
      | (go_at_call 13; (with_reducible refine (HCK2.out _ HH4.out).mono ?_); rintro e w5 ⟨rfl, hb5⟩
         (have DB5 := Lib.hid (lies_below DB4.out hb5 (lies_lt DB4.out)))
         (have BB5 := Lib.hid (BB4.out.trans (hb5.mono BB4.out.size)))
         (have HH5 := Lib.hid (HHB.out _ _ HH4.out hb5))
         (clear hb5 DB4 BB4 HH4 d0 d1 d2 d3 d4 d5)))
    have DB6 := Lib.hid (lies_alloc (o := .cells #[.int .i64 a, .int .i64 b] 38) DB5.out)
    have BB6 := Lib.hid (BB5.out.alloc BB5.out.size (.cells #[.int .i64 a, .int .i64 b] 38))
    have HH6 := Lib.hid (HHB.out _ _ HH5.out ((Below.refl _ w5).alloc (Nat.le_refl _) (.cells #[.int .i64 a, .int .i64 b] 38)))
    clear DB5 BB5 HH5 hzf
    obtain ⟨W6, hW6⟩ : ∃ W, w5.alloc (.cells #[.int .i64 a, .int .i64 b] 38) = W := ⟨_, rfl⟩
    rw [hW6] at DB6 BB6 HH6 ⊢
    clear hW6
    obtain ⟨d0, d1, d2, d3, d4, d5⟩ := cells_6 DB6.out
    go_wp2_with (first
      | (go_at_call 12; (with_reducible refine (HEN2.out _ HH6.out).mono ?_); rintro e w7 ⟨rfl, hb7⟩)
      | (go_at_call 7; (with_reducible refine (HA.out _).mono ?_); rintro e w8 ⟨rfl, hb8⟩))
    go_returns
    have k7 := BB6.out.trans (hb7.mono BB6.out.size)
    exact ⟨rfl, k7.trans (hb8.mono k7.size)⟩


set_option maxRecDepth 100000 in
theorem imageAgain_lifted (os : Os) (started : os.Started) (H : Type) (enc : TypeId × Value → H) :
    ReturnsInHanded {} Tryz.checked os 5 .any (Rows.imageAgainSpec.pre6 enc Tryz.prog Tryz.f5 Rows.imageAgainRow.domain false) (Rows.imageAgainSpec.post enc Tryz.prog Tryz.f5 false true false false) := by
  refine returnsInHanded_of_change (C := Tryz.checked) imageAgain_own started (by kernel_rfl) Tryz.func5
    (ChangeSpec.witness6 (enc := enc) (C := Tryz.checked) false ⟨#[], #[.string ByteArray.empty], []⟩ 8 (by kernel_rfl) (by kernel_rfl) (by kernel_rfl) (by kernel_rfl)) ?_
  intro W base args ds gs before hval0 hW hcnd _
  have hval : ∀ (j : Nat) t v, Tryz.f5.params[j]? = some t → args[j]? = some v → Value.okWide Tryz.prog W .any base t v := hval0
  have hW' := hW
  obtain ⟨p, q, hA0, hV, rfl, hfz, hnd⟩ := hW
  have hA : DataW.TrodAll enc Tryz.prog W 0 (fun _ => true) true Tryz.f5.params.toList args.toList ds p := hA0
  rw [Tryz.params5] at hA hval
  obtain ⟨v0, vs0, d0, ds0, p0, q0, hargs, rfl, rfl, h0, r0⟩ := trodAll_cons hA
  obtain ⟨rfl, rfl, rfl⟩ := trodAll_nil r0
  obtain rfl : args = #[v0] := by cases args; simp_all
  obtain ⟨rfl, rfl⟩ := trodVars_none hV
  obtain ⟨a0, rfl, rfl, rfl, w0⟩ := open_string Tryz.underlying9 (hval 0 9 v0 rfl rfl) h0
  clear hA0 hval0
  have hwalk := imageAgain_walk a0 w0 W

  refine hwalk.mono fun e W' ⟨he, bel⟩ => ?_
  subst he
  exact ⟨_, rfl, _, _, _, [], _, [], hW', trodAll_mk1 (shut_bool Tryz.underlying4 _), (trodAll_cons_mk (shut_string Tryz.underlying9 w0) trodAll_mk0), rfl, bel.frame _, fun h => by cases h⟩

theorem imageAgain_over : Rows.imageAgainRow.holds Tryz.pinned (OpenSpec.ofChange Rows.imageAgainSpec) :=
  OpenClaim.holds_of_wide 5 Tryz.f5 rfl rfl rfl rfl rfl rfl rfl ⟨rfl, rfl, rfl, rfl, rfl⟩ rfl rfl rfl rfl rfl (by kernel_rfl) Tryz.func5 (by kernel_rfl)
    (of_decide_eq_true (by kernel_rfl)) (by unfold Func.isWrapper; first | (rw [if_pos (by decide +kernel)]; kernel_rfl) | (rw [if_neg (by decide +kernel)]; exact ⟨rfl, rfl⟩))
    (fun os started H enc _ => imageAgain_lifted os started H enc)

theorem imageAgain_holds : Rows.ImageAgainSaid := imageAgain_over
#print axioms imageAgain_holds
end Go.Proofs.YtdgkanamceeheaaGreat
