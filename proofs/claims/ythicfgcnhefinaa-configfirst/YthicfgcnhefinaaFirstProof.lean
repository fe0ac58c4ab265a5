/- For every network (its slices as long as any may be) the law ConfigFirst answers true: what is wrong is told first: a fault of a network without what is behind it is the same. No conditions. -/
import Derived.Test.YthicfgcnhefinaaRows
import Derived.Test.YthicfgcnhefinaaM12
import Derived.Test.YthicfgcnhefinaaM13
import Derived.Test.YthicfgcnhefinaaM14
import Derived.WalkKit
import Derived.Handy
import Derived.Deep.RegionHeld3
import Derived.Deep.CutRange
import Derived.StillTailTactics
import Derived.ProofKit
import Derived.OpenShut
import Derived.ShutString
import Derived.ChangeOld
import Derived.Below
set_option linter.unusedVariables false
namespace Go.Proofs.Ythicfgcnhefinaa
open Go.ChangeShapes Go.WideShapes Go.ChangeAt Go.RowKit
open Go.ChangeMaps (open_string shut_string)
set_option linter.unusedVariables false

theorem configFirst_own : ownKnob Try.prog.godebug = none := by kernel_rfl
theorem configFirst_laid : laidOutB Try.prog = true := by kernel_rfl

set_option maxRecDepth 100000 in
set_option maxHeartbeats 8000000 in
theorem configFirst_walk {w : World} (c : Cx) (co : c.Ok) (ch : c.Held w) (ck : c.Caps) (_w : World) :
    Calls Try.prog 7 #[c.val] w fun e w' => e = .returned (.bool true) ∧ Below w.heap.size w w' := by
  have HA := Lib.hid awake_any
  have HF := Lib.hid (fun (w' : World) (hb : Below w.heap.size w w') => few_any c w' (ch.below hb) ⟨co.2.1, co.2.2.2.2.1, co.2.2.2.2.2.2.1, co.2.2.2.2.2.2.2.2.1⟩)
  have HCK := Lib.hid (fun (hs : Sm c) (w' : World) (hb : Below w.heap.size w w') => Check_any c hs w' (ch.below hb))
  have HZ : Hid ((PitotConf.check c.pl).2.2 = 0 → PitotConf.check c.pl = (0, 0, 0)) := PitotConf.check_zero
  have HFT := Lib.hid (PitotConf.first_told (c := c.pl))
  have HD : Hid (few c = true → (PitotConf.check c.pl).2.2 ≠ 0 → ∀ (w' : World), Below w.heap.size w w' → Calls Try.prog 11 #[(dU c (PitotConf.check c.pl).1 (PitotConf.check c.pl).2.1).val] w' fun e w'' => e = .returned (.tuple #[.agg #[.int .i64 (PitotConf.check c.pl).1, .int .i64 (PitotConf.check c.pl).2.1], .int .i64 (PitotConf.check c.pl).2.2]) ∧ Below w'.heap.size w' w'') := fun hf h0 w' hb => by
    have := Check_any _ (dU_sm (few_sm co hf) (PitotConf.check c.pl).1 (PitotConf.check c.pl).2.1) w' (dU_held (ch.below hb) _ _)
    rw [dU_pl, (PitotConf.first_told h0).1] at this
    exact this
  have HSM : Hid (few c = true → Sm c) := few_sm co
  have HQN : Hid (0 < c.ports.length → ∃ b off, c.portsA = some ⟨b, off, none⟩) := fun h => by
    obtain ⟨b, off, e, _⟩ := ch.2.2.2.get h; exact ⟨b, off, e⟩
  have HWN : Hid (0 < c.wins.length → ∃ b off, c.winsA = some ⟨b, off, none⟩) := fun h => by
    obtain ⟨b, off, e, _⟩ := ch.2.1.get h; exact ⟨b, off, e⟩
  have HVN : Hid (0 < c.vls.length → ∃ b off, c.vlsA = some ⟨b, off, none⟩) := fun h => by
    obtain ⟨b, off, e, _⟩ := ch.2.2.1.get h; exact ⟨b, off, e⟩
  clear ch
  obtain ⟨k1, k2, k3, k4⟩ := ck
  have m2 := co.2.2.2.2.1
  have m3 := co.2.2.2.2.2.2.1
  have m4 := co.2.2.2.2.2.2.2.2.1
  unfold maxLen at m2 m3 m4
  clear co
  have ew : c.pl.wins.length = c.wins.length := by simp [Cx.pl]
  have ev : c.pl.vls.length = c.vls.length := by simp [Cx.pl]
  have ep : c.pl.ports.length = c.ports.length := by simp [Cx.pl]
  have HRG : Hid ((PitotConf.check c.pl).2.2 ≠ 0 → ((PitotConf.check c.pl).1 = 4 → 0 ≤ (PitotConf.check c.pl).2.1 ∧ (PitotConf.check c.pl).2.1 < c.wins.length) ∧ ((PitotConf.check c.pl).1 = 5 → 0 ≤ (PitotConf.check c.pl).2.1 ∧ (PitotConf.check c.pl).2.1 < c.vls.length) ∧ ((PitotConf.check c.pl).1 = 6 → 0 ≤ (PitotConf.check c.pl).2.1 ∧ (PitotConf.check c.pl).2.1 < c.ports.length) ∧ 1 ≤ (PitotConf.check c.pl).1 ∧ (PitotConf.check c.pl).1 ≤ 7) := fun h => by
    have := (HFT.out h).2
    rw [ew, ev, ep] at this
    exact this
  clear ew ev ep HFT
  generalize PitotConf.check c.pl = R at HCK HD HZ HRG
  obtain ⟨r1, r2, r3⟩ := R
  simp only at HCK HD HZ HRG
  generalize few c = fw at HF HCK HD HSM
  obtain ⟨hosts, pA, pc, parts, major, wA, wk, wins, vA, vc, vls, qA, qc, ports⟩ := c
  have HCW : Hid (fw = true → ∀ (w' : World), Below w.heap.size w w' → Calls Try.prog 11 #[.agg #[.int .i64 hosts, .slice pA parts.length pc, .int .i64 major, .slice wA wins.length wk, .slice vA vls.length vc, .slice qA ports.length qc]] w' fun e w'' => e = .returned (.tuple #[.agg #[.int .i64 r1, .int .i64 r2], .int .i64 r3]) ∧ Below w'.heap.size w' w'') := fun h => HCK.out (HSM.out h)
  clear HCK HSM
  simp only at HD k1 k2 k3 k4 m2 m3 m4 HQN HWN HVN HRG
  simp only [Cx.val] at HF ⊢
  have HDB : Hid (fw = true → r3 ≠ 0 → r1 = 1 ∨ r1 = 2 ∨ r1 = 3 → ∀ (w' : World), Below w.heap.size w w' → Calls Try.prog 11 #[.agg #[.int .i64 hosts, .slice pA parts.length pc, .int .i64 major, .slice none 0 0, .slice none 0 0, .slice none 0 0]] w' fun e w'' => e = .returned (.tuple #[.agg #[.int .i64 r1, .int .i64 r2], .int .i64 r3]) ∧ Below w'.heap.size w' w'') := fun h1 h2 h3 => by
    have := HD.out h1 h2
    rw [dU, if_neg (by omega), if_neg (by omega), if_neg (by omega), if_neg (by omega)] at this
    exact this
  have HDW : Hid (fw = true → r3 ≠ 0 → r1 = 4 → ∀ (n : Nat), (n : Int) = r2 + 1 → 0 ≤ r2 → n ≤ wins.length → ∀ (w' : World), Below w.heap.size w w' → Calls Try.prog 11 #[.agg #[.int .i64 hosts, .slice pA parts.length pc, .int .i64 major, .slice wA n wk, .slice none 0 0, .slice none 0 0]] w' fun e w'' => e = .returned (.tuple #[.agg #[.int .i64 r1, .int .i64 r2], .int .i64 r3]) ∧ Below w'.heap.size w' w'') := fun h1 h2 h3 n hn h0 hle => by
    have := HD.out h1 h2
    have e : r2.toNat + 1 = n := by omega
    have e2 : (wins.take n).length = n := by rw [List.length_take]; omega
    rw [dU, if_pos h3, e] at this
    simp only [Cx.val, e2] at this
    exact this
  have HDV : Hid (fw = true → r3 ≠ 0 → r1 = 5 → ∀ (n : Nat), (n : Int) = r2 + 1 → 0 ≤ r2 → n ≤ vls.length → ∀ (w' : World), Below w.heap.size w w' → Calls Try.prog 11 #[.agg #[.int .i64 hosts, .slice pA parts.length pc, .int .i64 major, .slice wA wins.length wk, .slice vA n vc, .slice none 0 0]] w' fun e w'' => e = .returned (.tuple #[.agg #[.int .i64 r1, .int .i64 r2], .int .i64 r3]) ∧ Below w'.heap.size w' w'') := fun h1 h2 h3 n hn h0 hle => by
    have := HD.out h1 h2
    have e : r2.toNat + 1 = n := by omega
    have e2 : (vls.take n).length = n := by rw [List.length_take]; omega
    rw [dU, if_neg (by omega), if_pos h3, e] at this
    simp only [Cx.val, e2] at this
    exact this
  have HDP : Hid (fw = true → r3 ≠ 0 → r1 = 6 → ∀ (n : Nat), (n : Int) = r2 + 1 → 0 ≤ r2 → n ≤ ports.length → ∀ (w' : World), Below w.heap.size w w' → Calls Try.prog 11 #[.agg #[.int .i64 hosts, .slice pA parts.length pc, .int .i64 major, .slice wA wins.length wk, .slice vA vls.length vc, .slice qA n qc]] w' fun e w'' => e = .returned (.tuple #[.agg #[.int .i64 r1, .int .i64 r2], .int .i64 r3]) ∧ Below w'.heap.size w' w'') := fun h1 h2 h3 n hn h0 hle => by
    have := HD.out h1 h2
    have e : r2.toNat + 1 = n := by omega
    have e2 : (ports.take n).length = n := by rw [List.length_take]; omega
    rw [dU, if_neg (by omega), if_neg (by omega), if_pos h3, e] at this
    simp only [Cx.val, e2] at this
    exact this
  clear HD
  generalize wins.length = wl, parts.length = pl, vls.length = vl, ports.length = ql at HF HCW HDB HDW HDV HDP HRG k1 k2 k3 k4 m2 m3 m4 HQN HWN HVN ⊢
  have HFW : Hid (∀ (w' : World), Below w.heap.size w w' → Calls Try.prog 9 #[.agg #[.int .i64 hosts, .slice pA pl pc, .int .i64 major, .slice wA wl wk, .slice vA vl vc, .slice qA ql qc]] w' fun e w'' => e = .returned (.bool fw) ∧ Below w'.heap.size w' w'') := HF
  clear HF
  cases fw
  · exact first_8 hosts major pA wA vA qA pl pc wl wk vl vc ql qc w HA HFW
  have HC := Lib.hid (HCW.out rfl); clear HCW
  by_cases g : r3 = 0
  · have hz := HZ.out g
    injection hz with h1 h2
    injection h2 with h2 h3
    subst h1; subst h2; subst h3
    exact first_0 hosts major pA wA vA qA pl pc wl wk vl vc ql qc w HA HFW HC trivial HC
  obtain ⟨hg4, hg5, hg6, hr1, hr7⟩ := HRG.out g
  have hcs : r1 = 1 ∨ r1 = 2 ∨ r1 = 3 ∨ r1 = 4 ∨ r1 = 5 ∨ r1 = 6 ∨ r1 = 7 := by omega
  rcases hcs with rfl | rfl | rfl | rfl | rfl | rfl | rfl
  · exact first_1 hosts major pA wA vA qA pl pc wl wk vl vc ql qc r2 r3 w HA HFW HC g (Lib.hid (HDB.out rfl g (by omega)))
  · exact first_2 hosts major pA wA vA qA pl pc wl wk vl vc ql qc r2 r3 w HA HFW HC g (Lib.hid (HDB.out rfl g (by omega)))
  · exact first_3 hosts major pA wA vA qA pl pc wl wk vl vc ql qc r2 r3 w HA HFW HC g (Lib.hid (HDB.out rfl g (by omega)))
  · obtain ⟨a0, a1⟩ := hg4 rfl
    obtain ⟨a, rfl⟩ : ∃ a : Nat, r2 = (a : Int) := ⟨r2.toNat, by omega⟩
    obtain ⟨b, off, eA⟩ := HWN.out (by omega)
    subst eA
    exact first_4 hosts major pA vA qA pl pc wl wk vl vc ql qc r3 b off a (by omega) k2 (by omega) w HA HFW HC g (Lib.hid (HDW.out rfl g rfl (a + 1) (by omega) a0 (by omega)))
  · obtain ⟨a0, a1⟩ := hg5 rfl
    obtain ⟨a, rfl⟩ : ∃ a : Nat, r2 = (a : Int) := ⟨r2.toNat, by omega⟩
    obtain ⟨b, off, eA⟩ := HVN.out (by omega)
    subst eA
    exact first_5 hosts major pA wA qA pl pc wl wk vl vc ql qc r3 b off a (by omega) k3 (by omega) w HA HFW HC g (Lib.hid (HDV.out rfl g rfl (a + 1) (by omega) a0 (by omega)))
  · obtain ⟨a0, a1⟩ := hg6 rfl
    obtain ⟨a, rfl⟩ : ∃ a : Nat, r2 = (a : Int) := ⟨r2.toNat, by omega⟩
    obtain ⟨b, off, eA⟩ := HQN.out (by omega)
    subst eA
    exact first_6 hosts major pA wA vA pl pc wl wk vl vc ql qc r3 b off a (by omega) k4 (by omega) w HA HFW HC g (Lib.hid (HDP.out rfl g rfl (a + 1) (by omega) a0 (by omega)))
  · exact first_7 hosts major pA wA vA qA pl pc wl wk vl vc ql qc r2 r3 w HA HFW HC g HC


set_option maxRecDepth 100000 in
theorem configFirst_lifted (os : Os) (started : os.Started) (H : Type) (enc : TypeId × Value → H) :
    ReturnsInHanded {} Try.checked os 7 .any (Rows.configFirstSpec.pre6 enc Try.prog Try.f7 Rows.configFirstRow.domain false) (Rows.configFirstSpec.post enc Try.prog Try.f7 false true false false) := by
  refine returnsInHanded_of_change (C := Try.checked) configFirst_own started (by kernel_rfl) Try.func7
    (ChangeSpec.witness6 (enc := enc) (C := Try.checked) false ⟨#[], #[.agg #[.int .i64 0, .slice none 0 0, .int .i64 0, .slice none 0 0, .slice none 0 0, .slice none 0 0]], []⟩ 8 (by kernel_rfl) (by kernel_rfl) (by kernel_rfl) (by kernel_rfl)) ?_
  intro W base args ds gs before hval0 hW hcnd _
  have hval : ∀ (j : Nat) t v, Try.f7.params[j]? = some t → args[j]? = some v → Value.okWide Try.prog W .any base t v := hval0
  have hW' := hW
  obtain ⟨p, q, hA0, hV, rfl, hfz, hnd⟩ := hW
  have hA : DataW.TrodAll enc Try.prog W 0 (fun _ => true) true Try.f7.params.toList args.toList ds p := hA0
  rw [Try.params7] at hA hval
  obtain ⟨v0, vs0, d0, ds0, p0, q0, hargs, rfl, rfl, h0, r0⟩ := trodAll_cons hA
  obtain ⟨rfl, rfl, rfl⟩ := trodAll_nil r0
  obtain rfl : args = #[v0] := by cases args; simp_all
  obtain ⟨rfl, rfl⟩ := trodVars_none hV
  have k0 := h0
  have lt0 : ∀ x ∈ p0, x.block < W.heap.size := by obtain ⟨m, hm⟩ := k0; exact DataW.trod_lt m _ _ _ hm
  obtain ⟨fu0, hf0⟩ := h0
  obtain ⟨c0, co0, ch0, ck0, rfl⟩ := Cx_open2 (hval 0 27 v0 rfl rfl) hf0
  clear hA0 hval0
  have hwalk := configFirst_walk c0 co0 ch0 ck0 W

  refine hwalk.mono fun e W' ⟨he, bel⟩ => ?_
  subst he
  exact ⟨_, rfl, _, _, _, [], _, [], hW', trodAll_mk1 (shut_bool Try.underlying4 _), (trodAll_cons_mk (Below.trod configFirst_laid (by kernel_rfl) (of_decide_eq_true (by kernel_rfl)) k0 bel lt0) trodAll_mk0), rfl, bel.frame _, fun h => by cases h⟩

theorem configFirst_over : Rows.configFirstRow.holds Try.pinned (OpenSpec.ofChange Rows.configFirstSpec) :=
  OpenClaim.holds_of_wide 7 Try.f7 rfl rfl rfl rfl rfl rfl rfl ⟨rfl, rfl, rfl, rfl, rfl⟩ rfl rfl rfl rfl rfl (by kernel_rfl) Try.func7 (by kernel_rfl)
    (of_decide_eq_true (by kernel_rfl)) (by unfold Func.isWrapper; first | (rw [if_pos (by decide +kernel)]; kernel_rfl) | (rw [if_neg (by decide +kernel)]; exact ⟨rfl, rfl⟩))
    (fun os started H enc _ => configFirst_lifted os started H enc)

theorem configFirst_holds : Rows.ConfigFirstSaid := configFirst_over
#print axioms configFirst_holds
end Go.Proofs.Ythicfgcnhefinaa
