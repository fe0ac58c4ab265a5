/- For every network (its slices as long as any may be) the law ConfigHosts answers true: a network that may be may be with one host more, which sends and takes nothing. No conditions. -/
import Derived.Test.YthicfgcnhefinaaRows
import Derived.Test.YthicfgcnhefinaaM12
import Derived.Test.YthicfgcnhefinaaM13
import Derived.WalkKit
import Derived.Handy
import Derived.Deep.RegionHeld3
import Derived.Deep.CutRange
import Derived.StillTailTactics
import Derived.ProofKit
import Derived.OpenShut
import Derived.ShutString
import Derived.ChangeOld
import Derived.Below
set_option linter.unusedVariables false
namespace Go.Proofs.Ythicfgcnhefinaa
open Go.ChangeShapes Go.WideShapes Go.ChangeAt Go.RowKit
open Go.ChangeMaps (open_string shut_string)
set_option linter.unusedVariables false

theorem configHosts_own : ownKnob Try.prog.godebug = none := by kernel_rfl
theorem configHosts_laid : laidOutB Try.prog = true := by kernel_rfl

/-- A network with one host more. -/
def dH (c : Cx) : Cx := ⟨c.hosts + 1, c.partsA, c.partsc, c.parts, c.major, c.winsA, c.winsc, c.wins, c.vlsA, c.vlsc, c.vls, c.portsA, c.portsc, c.ports⟩
theorem dH_sm {c : Cx} (h : Sm c) (h1 : 1 ≤ c.hosts) (h2 : c.hosts < 64) : Sm (dH c) := by
  obtain ⟨⟨o1, o2, o3, o4, o5, o6, o7, o8, o9, o10⟩, h2, h3, h4, h5, h6⟩ := h
  refine ⟨⟨?_, o2, o3, o4, o5, o6, o7, o8, o9, o10⟩, h2, h3, h4, h5, h6⟩
  show (Lit.int .i64 (c.hosts + 1)).wf = true
  simp [Lit.wf, IntKind.min, IntKind.max, IntKind.signed, IntKind.bits]
  omega
theorem dH_held {c : Cx} {w : World} (h : c.Held w) : (dH c).Held w := h
set_option maxRecDepth 100000 in
set_option maxHeartbeats 8000000 in
theorem configHosts_walk {w : World} (c : Cx) (co : c.Ok) (ch : c.Held w) (ck : c.Caps) (_w : World) :
    Calls Try.prog 8 #[c.val] w fun e w' => e = .returned (.bool true) ∧ Below w.heap.size w w' := by
  have HA := Lib.hid awake_any
  have HF := Lib.hid (fun (w' : World) (hb : Below w.heap.size w w') => few_any c w' (ch.below hb) ⟨co.2.1, co.2.2.2.2.1, co.2.2.2.2.2.2.1, co.2.2.2.2.2.2.2.2.1⟩)
  have HCK := Lib.hid (fun (hs : Sm c) (w' : World) (hb : Below w.heap.size w w') => Check_any c hs w' (ch.below hb))
  have HSM : Hid (few c = true → Sm c) := few_sm co
  have HMY : Hid ((PitotConf.check c.pl).2.2 = 0 → 1 ≤ c.hosts ∧ c.hosts ≤ 64) := fun h0 => (PitotConf.check_may h0).hosts
  have HM : Hid ((PitotConf.check c.pl).2.2 = 0 → c.hosts < 64 → PitotConf.check (dH c).pl = (0, 0, 0) ∧ PitotConf.jitter (c.vls.map Vx.pl) c.hosts = 500 ∧ PitotConf.gatherIds (c.vls.map Vx.pl) (fun v => decide (v.host = c.hosts)) = [] ∧ PitotConf.gatherIds (c.vls.map Vx.pl) (fun v => v.to.contains c.hosts) = [] ∧ ∀ v ∈ c.vls, 0 ≤ v.smax ∧ v.smax ≤ 10000) := fun h0 hl => by
    have hm := PitotConf.check_may h0
    obtain ⟨a, b, d, e⟩ := hm.more hl
    refine ⟨a.check, b, PitotConf.gatherIds_none (fun v hv => decide_eq_false (d v hv)), PitotConf.gatherIds_none (fun v hv => ?_), fun v hv => ?_⟩
    · have this : c.hosts ∉ v.to := e v hv
      simpa using this
    · have := hm.link (List.mem_map_of_mem (f := Vx.pl) hv)
      have h1 : 64 ≤ v.smax := this.2.2.1
      have h2 : v.smax ≤ 1518 := this.2.2.2.1
      omega
  have HD : Hid (few c = true → (PitotConf.check c.pl).2.2 = 0 → c.hosts < 64 → ∀ (w' : World), Below w.heap.size w w' → Calls Try.prog 11 #[(dH c).val] w' fun e w'' => e = .returned (.tuple #[.agg #[.int .i64 0, .int .i64 0], .int .i64 0]) ∧ Below w'.heap.size w' w'') := fun hf h0 hl w' hb => by
    have := Check_any (dH c) (dH_sm (few_sm co hf) (PitotConf.check_may h0).hosts.1 hl) w' (dH_held (ch.below hb))
    rw [(HM.out h0 hl).1] at this
    exact this
  have HS : Hid (few c = true → (PitotConf.check c.pl).2.2 = 0 → c.hosts < 64 → ∀ (w' : World), Below w.heap.size w w' → Calls Try.prog 20 #[(dH c).val, .int .i64 c.hosts] w' fun e w'' => (∃ A cap, e = .returned (.slice A 0 cap)) ∧ Below w'.heap.size w' w'') := fun hf h0 hl w' hb => by
    refine (sendsP_any (dH c) c.hosts w' (dH_held (ch.below hb)) (few_sm co hf).vls (few_sm co hf).tol).mono ?_
    rintro e w2 ⟨⟨A, cap, rfl, _⟩, hb2⟩
    have e1 : PitotConf.gatherIds ((dH c).vls.map Vx.pl) (fun v => decide (v.host = c.hosts)) = [] := (HM.out h0 hl).2.2.1
    rw [e1]
    exact ⟨⟨A, cap, rfl⟩, hb2⟩
  have HT : Hid (few c = true → (PitotConf.check c.pl).2.2 = 0 → c.hosts < 64 → ∀ (w' : World), Below w.heap.size w w' → Calls Try.prog 22 #[(dH c).val, .int .i64 c.hosts] w' fun e w'' => (∃ A cap, e = .returned (.slice A 0 cap)) ∧ Below w'.heap.size w' w'') := fun hf h0 hl w' hb => by
    refine (takesP_any (dH c) c.hosts w' (dH_held (ch.below hb)) (few_sm co hf).vls (few_sm co hf).tol).mono ?_
    rintro e w2 ⟨⟨A, cap, rfl, _⟩, hb2⟩
    have e1 : PitotConf.gatherIds ((dH c).vls.map Vx.pl) (fun v => v.to.contains c.hosts) = [] := (HM.out h0 hl).2.2.2.1
    rw [e1]
    exact ⟨⟨A, cap, rfl⟩, hb2⟩
  have HJ : Hid (few c = true → (PitotConf.check c.pl).2.2 = 0 → c.hosts < 64 → ∀ (w' : World), Below w.heap.size w w' → Calls Try.prog 18 #[(dH c).val, .int .i64 c.hosts] w' fun e w'' => e = .returned (.int .i64 500) ∧ Below w'.heap.size w' w'') := fun hf h0 hl w' hb => by
    have := jitterP_any (dH c) c.hosts w' (dH_held (ch.below hb)) (few_sm co hf).vls (HM.out h0 hl).2.2.2.2
    have e1 : PitotConf.jitter ((dH c).vls.map Vx.pl) c.hosts = 500 := (HM.out h0 hl).2.1
    rw [e1] at this
    exact this
  clear ch ck HM co
  generalize PitotConf.check c.pl = R at HCK HD HS HT HJ HMY
  obtain ⟨r1, r2, r3⟩ := R
  simp only at HCK HD HS HT HJ HMY
  generalize few c = fw at HF HCK HD HS HT HJ HSM
  obtain ⟨hosts, pA, pc, parts, major, wA, wk, wins, vA, vc, vls, qA, qc, ports⟩ := c
  have HCW : Hid (fw = true → ∀ (w' : World), Below w.heap.size w w' → Calls Try.prog 11 #[.agg #[.int .i64 hosts, .slice pA parts.length pc, .int .i64 major, .slice wA wins.length wk, .slice vA vls.length vc, .slice qA ports.length qc]] w' fun e w'' => e = .returned (.tuple #[.agg #[.int .i64 r1, .int .i64 r2], .int .i64 r3]) ∧ Below w'.heap.size w' w'') := fun h => HCK.out (HSM.out h)
  clear HCK HSM
  simp only [Cx.val, dH] at HF HD HS HT HJ HMY ⊢
  generalize wins.length = wl, parts.length = pl, vls.length = vl, ports.length = ql at HF HCW HD HS HT HJ ⊢
  have HFW : Hid (∀ (w' : World), Below w.heap.size w w' → Calls Try.prog 9 #[.agg #[.int .i64 hosts, .slice pA pl pc, .int .i64 major, .slice wA wl wk, .slice vA vl vc, .slice qA ql qc]] w' fun e w'' => e = .returned (.bool fw) ∧ Below w'.heap.size w' w'') := HF
  clear HF
  have CB0 : Hid ((w.alloc (.cells #[.int .i64 hosts, .slice pA pl pc, .int .i64 major, .slice wA wl wk, .slice vA vl vc, .slice qA ql qc] 27)).heap[w.heap.size]? = some (.cells #[.int .i64 hosts, .slice pA pl pc, .int .i64 major, .slice wA wl wk, .slice vA vl vc, .slice qA ql qc] 27)) := heap_alloc_new w _
  have BB0 : Hid (Below w.heap.size w (w.alloc (.cells #[.int .i64 hosts, .slice pA pl pc, .int .i64 major, .slice wA wl wk, .slice vA vl vc, .slice qA ql qc] 27))) := (Below.refl _ w).alloc (Nat.le_refl _) _
  go_enter Try.func8, Try.ntmps8
  go_upto_region 1 with (fail)
  have CB := CB0
  have BB := BB0
  clear CB0 BB0
  generalize w.alloc (.cells #[.int .i64 hosts, .slice pA pl pc, .int .i64 major, .slice wA wl wk, .slice vA vl vc, .slice qA ql qc] 27) = Wi at CB BB ⊢
  obtain ⟨c0, c1, c2, c3, c4, c5⟩ := cells_6 CB.out
  cases fw
  · go_wp2_with (first
      | (go_at_call 9; (with_reducible refine (HFW.out _ BB.out).mono ?_); rintro e w2 ⟨rfl, hb2⟩
         (have CBX := Lib.hid (lies_below CB.out hb2 (lies_lt CB.out)))
         (have BX := Lib.hid (BB.out.trans (hb2.mono BB.out.size)))
         (clear hb2 BB CB c0 c1 c2 c3 c4 c5)
         (have CB := CBX)
         (have BB := BX)
         (clear BX CBX)
         (obtain ⟨c0, c1, c2, c3, c4, c5⟩ := cells_6 CB.out))
      | (go_at_call 10; (with_reducible refine (HA.out _).mono ?_); rintro e w9 ⟨rfl, hb2⟩
         (have CBX := Lib.hid (lies_below CB.out hb2 (lies_lt CB.out)))
         (have BX := Lib.hid (BB.out.trans (hb2.mono BB.out.size)))
         (clear hb2 BB CB c0 c1 c2 c3 c4 c5)
         (have CB := CBX)
         (have BB := BX)
         (clear BX CBX)
         (obtain ⟨c0, c1, c2, c3, c4, c5⟩ := cells_6 CB.out)))
    go_returns
    exact ⟨rfl, BB.out⟩
  have HC := Lib.hid (HCW.out rfl); clear HCW
  go_upto_region 4 with (first
    | (go_at_call 9; (with_reducible refine (HFW.out _ BB.out).mono ?_); rintro e w2 ⟨rfl, hb2⟩
       (have CBX := Lib.hid (lies_below CB.out hb2 (lies_lt CB.out)))
       (have BX := Lib.hid (BB.out.trans (hb2.mono BB.out.size)))
       (clear hb2 BB CB c0 c1 c2 c3 c4 c5)
       (have CB := CBX)
       (have BB := BX)
       (clear BX CBX)
       (obtain ⟨c0, c1, c2, c3, c4, c5⟩ := cells_6 CB.out))
    | (go_at_call 11; (with_reducible refine (HC.out _ BB.out).mono ?_); rintro e w3 ⟨rfl, hb2⟩
       (have CBX := Lib.hid (lies_below CB.out hb2 (lies_lt CB.out)))
       (have BX := Lib.hid (BB.out.trans (hb2.mono BB.out.size)))
       (clear hb2 BB CB c0 c1 c2 c3 c4 c5)
       (have CB := CBX)
       (have BB := BX)
       (clear BX CBX)
       (obtain ⟨c0, c1, c2, c3, c4, c5⟩ := cells_6 CB.out)))
  have CBX := Lib.hid (lies_alloc (o := .cells #[.int .i64 r1, .int .i64 r2] 31) CB.out)
  have BX : Hid (Below w.heap.size w (w3.alloc (.cells #[.int .i64 r1, .int .i64 r2] 31))) := BB.out.alloc BB.out.size _
  clear BB CB c0 c1 c2 c3 c4 c5
  have CB := CBX
  have BB := BX
  clear BX CBX
  generalize w3.alloc (.cells #[.int .i64 r1, .int .i64 r2] 31) = W0 at BB CB ⊢
  obtain ⟨c0, c1, c2, c3, c4, c5⟩ := cells_6 CB.out
  by_cases g : r3 = 0
  case neg =>
    have g1 : (r3 == 0) = false := by simpa using g
    have g2 : decide (r3 = 0) = false := decide_eq_false g
    have g3 : (r3 != 0) = true := by simpa using g
    clear HD HS HT HJ HMY g
    go_wp2_with (first
      | (go_at_call 10; (with_reducible refine (HA.out _).mono ?_); rintro e w9 ⟨rfl, hb2⟩
         (have CBX := Lib.hid (lies_below CB.out hb2 (lies_lt CB.out)))
         (have BX := Lib.hid (BB.out.trans (hb2.mono BB.out.size)))
         (clear hb2 BB CB c0 c1 c2 c3 c4 c5)
         (have CB := CBX)
         (have BB := BX)
         (clear BX CBX)
         (obtain ⟨c0, c1, c2, c3, c4, c5⟩ := cells_6 CB.out)))
    go_returns
    exact ⟨rfl, BB.out⟩
  have g1 : (r3 == 0) = true := by rw [g]; rfl
  have g2 : decide (r3 = 0) = true := decide_eq_true g
  have g3 : (r3 != 0) = false := by rw [g]; rfl
  obtain ⟨h1, h2⟩ := HMY.out g
  by_cases h64 : 64 ≤ hosts
  · have i1 : decide (64 ≤ hosts) = true := decide_eq_true h64
    clear HD HS HT HJ HMY g
    go_wp2_with (first
      | (go_at_call 10; (with_reducible refine (HA.out _).mono ?_); rintro e w9 ⟨rfl, hb2⟩
         (have CBX := Lib.hid (lies_below CB.out hb2 (lies_lt CB.out)))
         (have BX := Lib.hid (BB.out.trans (hb2.mono BB.out.size)))
         (clear hb2 BB CB c0 c1 c2 c3 c4 c5)
         (have CB := CBX)
         (have BB := BX)
         (clear BX CBX)
         (obtain ⟨c0, c1, c2, c3, c4, c5⟩ := cells_6 CB.out)))
    go_returns
    exact ⟨rfl, BB.out⟩
  have i1 : decide (64 ≤ hosts) = false := decide_eq_false h64
  have HDa := Lib.hid (HD.out (by trivial) (by first | exact g | trivial) (by omega))
  have HSa := Lib.hid (HS.out (by trivial) (by first | exact g | trivial) (by omega))
  have HTa := Lib.hid (HT.out (by trivial) (by first | exact g | trivial) (by omega))
  have HJa := Lib.hid (HJ.out (by trivial) (by first | exact g | trivial) (by omega))
  clear HD HS HT HJ HMY g h64
  have i2 : IntKind.i64.wrap (hosts + 1) = hosts + 1 := IntWalk.i64_in _ (by omega)
  have fd := lies_frozen CB.out 0
  go_upto_region 8 with (fail)
  have CX : Hid ((W0.setCell ⟨w.heap.size, 0, none⟩ (.int .i64 (hosts + 1))).heap[w.heap.size]? = some (.cells #[.int .i64 (hosts + 1), .slice pA pl pc, .int .i64 major, .slice wA wl wk, .slice vA vl vc, .slice qA ql qc] 27)) := lies_set CB.out 0 _
  have BX : Hid (Below w.heap.size w (W0.setCell ⟨w.heap.size, 0, none⟩ (.int .i64 (hosts + 1)))) := BB.out.setCell (show w.heap.size ≤ (⟨w.heap.size, 0, none⟩ : Addr).block from Nat.le_refl _) _
  clear BB CB fd c0 c1 c2 c3 c4 c5
  have CB := CX
  have BB := BX
  clear CX BX
  generalize W0.setCell ⟨w.heap.size, 0, none⟩ (.int .i64 (hosts + 1)) = W1 at CB BB ⊢
  obtain ⟨c0, c1, c2, c3, c4, c5⟩ := cells_6 CB.out
  go_upto_region 9 with (first
    | (go_at_call 11; (with_reducible refine (HDa.out _ BB.out).mono ?_); rintro e w4 ⟨rfl, hb2⟩
       (have CBX := Lib.hid (lies_below CB.out hb2 (lies_lt CB.out)))
       (have BX := Lib.hid (BB.out.trans (hb2.mono BB.out.size)))
       (clear hb2 BB CB c0 c1 c2 c3 c4 c5)
       (have CB := CBX)
       (have BB := BX)
       (clear BX CBX)
       (obtain ⟨c0, c1, c2, c3, c4, c5⟩ := cells_6 CB.out)))
  have CBX := Lib.hid (lies_alloc (o := .cells #[.int .i64 0, .int .i64 0] 31) CB.out)
  have BX : Hid (Below w.heap.size w (w4.alloc (.cells #[.int .i64 0, .int .i64 0] 31))) := BB.out.alloc BB.out.size _
  clear BB CB c0 c1 c2 c3 c4 c5
  have CB := CBX
  have BB := BX
  clear BX CBX
  generalize w4.alloc (.cells #[.int .i64 0, .int .i64 0] 31) = W2 at BB CB ⊢
  obtain ⟨c0, c1, c2, c3, c4, c5⟩ := cells_6 CB.out
  go_wp2_with (first
    | (go_at_call 20; (with_reducible refine (HSa.out _ BB.out).mono ?_); rintro e w5 ⟨⟨A5, k5, rfl⟩, hb2⟩
       (have CBX := Lib.hid (lies_below CB.out hb2 (lies_lt CB.out)))
       (have BX := Lib.hid (BB.out.trans (hb2.mono BB.out.size)))
       (clear hb2 BB CB c0 c1 c2 c3 c4 c5)
       (have CB := CBX)
       (have BB := BX)
       (clear BX CBX)
       (obtain ⟨c0, c1, c2, c3, c4, c5⟩ := cells_6 CB.out))
    | (go_at_call 22; (with_reducible refine (HTa.out _ BB.out).mono ?_); rintro e w6 ⟨⟨A6, k6, rfl⟩, hb2⟩
       (have CBX := Lib.hid (lies_below CB.out hb2 (lies_lt CB.out)))
       (have BX := Lib.hid (BB.out.trans (hb2.mono BB.out.size)))
       (clear hb2 BB CB c0 c1 c2 c3 c4 c5)
       (have CB := CBX)
       (have BB := BX)
       (clear BX CBX)
       (obtain ⟨c0, c1, c2, c3, c4, c5⟩ := cells_6 CB.out))
    | (go_at_call 18; (with_reducible refine (HJa.out _ BB.out).mono ?_); rintro e w7 ⟨rfl, hb2⟩
       (have CBX := Lib.hid (lies_below CB.out hb2 (lies_lt CB.out)))
       (have BX := Lib.hid (BB.out.trans (hb2.mono BB.out.size)))
       (clear hb2 BB CB c0 c1 c2 c3 c4 c5)
       (have CB := CBX)
       (have BB := BX)
       (clear BX CBX)
       (obtain ⟨c0, c1, c2, c3, c4, c5⟩ := cells_6 CB.out))
    | (go_at_call 10; (with_reducible refine (HA.out _).mono ?_); rintro e w9 ⟨rfl, hb2⟩
       (have CBX := Lib.hid (lies_below CB.out hb2 (lies_lt CB.out)))
       (have BX := Lib.hid (BB.out.trans (hb2.mono BB.out.size)))
       (clear hb2 BB CB c0 c1 c2 c3 c4 c5)
       (have CB := CBX)
       (have BB := BX)
       (clear BX CBX)
       (obtain ⟨c0, c1, c2, c3, c4, c5⟩ := cells_6 CB.out)))
  go_returns
  exact ⟨rfl, BB.out⟩



set_option maxRecDepth 100000 in
theorem configHosts_lifted (os : Os) (started : os.Started) (H : Type) (enc : TypeId × Value → H) :
    ReturnsInHanded {} Try.checked os 8 .any (Rows.configHostsSpec.pre6 enc Try.prog Try.f8 Rows.configHostsRow.domain false) (Rows.configHostsSpec.post enc Try.prog Try.f8 false true false false) := by
  refine returnsInHanded_of_change (C := Try.checked) configHosts_own started (by kernel_rfl) Try.func8
    (ChangeSpec.witness6 (enc := enc) (C := Try.checked) false ⟨#[], #[.agg #[.int .i64 0, .slice none 0 0, .int .i64 0, .slice none 0 0, .slice none 0 0, .slice none 0 0]], []⟩ 8 (by kernel_rfl) (by kernel_rfl) (by kernel_rfl) (by kernel_rfl)) ?_
  intro W base args ds gs before hval0 hW hcnd _
  have hval : ∀ (j : Nat) t v, Try.f8.params[j]? = some t → args[j]? = some v → Value.okWide Try.prog W .any base t v := hval0
  have hW' := hW
  obtain ⟨p, q, hA0, hV, rfl, hfz, hnd⟩ := hW
  have hA : DataW.TrodAll enc Try.prog W 0 (fun _ => true) true Try.f8.params.toList args.toList ds p := hA0
  rw [Try.params8] at hA hval
  obtain ⟨v0, vs0, d0, ds0, p0, q0, hargs, rfl, rfl, h0, r0⟩ := trodAll_cons hA
  obtain ⟨rfl, rfl, rfl⟩ := trodAll_nil r0
  obtain rfl : args = #[v0] := by cases args; simp_all
  obtain ⟨rfl, rfl⟩ := trodVars_none hV
  have k0 := h0
  have lt0 : ∀ x ∈ p0, x.block < W.heap.size := by obtain ⟨m, hm⟩ := k0; exact DataW.trod_lt m _ _ _ hm
  obtain ⟨fu0, hf0⟩ := h0
  obtain ⟨c0, co0, ch0, ck0, rfl⟩ := Cx_open2 (hval 0 27 v0 rfl rfl) hf0
  clear hA0 hval0
  have hwalk := configHosts_walk c0 co0 ch0 ck0 W

  refine hwalk.mono fun e W' ⟨he, bel⟩ => ?_
  subst he
  exact ⟨_, rfl, _, _, _, [], _, [], hW', trodAll_mk1 (shut_bool Try.underlying4 _), (trodAll_cons_mk (Below.trod configHosts_laid (by kernel_rfl) (of_decide_eq_true (by kernel_rfl)) k0 bel lt0) trodAll_mk0), rfl, bel.frame _, fun h => by cases h⟩

theorem configHosts_over : Rows.configHostsRow.holds Try.pinned (OpenSpec.ofChange Rows.configHostsSpec) :=
  OpenClaim.holds_of_wide 8 Try.f8 rfl rfl rfl rfl rfl rfl rfl ⟨rfl, rfl, rfl, rfl, rfl⟩ rfl rfl rfl rfl rfl (by kernel_rfl) Try.func8 (by kernel_rfl)
    (of_decide_eq_true (by kernel_rfl)) (by unfold Func.isWrapper; first | (rw [if_pos (by decide +kernel)]; kernel_rfl) | (rw [if_neg (by decide +kernel)]; exact ⟨rfl, rfl⟩))
    (fun os started H enc _ => configHosts_lifted os started H enc)

theorem configHosts_holds : Rows.ConfigHostsSaid := configHosts_over
#print axioms configHosts_holds
end Go.Proofs.Ythicfgcnhefinaa
