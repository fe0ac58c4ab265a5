/- For every network (its slices as long as any may be) and any two numbers the law ConfigFinds answers true: which links and ports there are, what an end system sends and takes, and how late it may be. No conditions. -/
import Derived.Test.YthicfgcnhefinaaRows
import Derived.Test.YthicfgcnhefinaaM15
import Derived.WalkKit
import Derived.Handy
import Derived.Deep.RegionHeld3
import Derived.Deep.CutRange
import Derived.StillTailTactics
import Derived.ProofKit
import Derived.OpenShut
import Derived.ShutString
import Derived.ChangeOld
import Derived.Below
set_option linter.unusedVariables false
namespace Go.Proofs.Ythicfgcnhefinaa
open Go.ChangeShapes Go.WideShapes Go.ChangeAt Go.RowKit
open Go.ChangeMaps (open_string shut_string)
set_option linter.unusedVariables false

theorem configFinds_own : ownKnob Try.prog.godebug = none := by kernel_rfl
theorem configFinds_laid : laidOutB Try.prog = true := by kernel_rfl

set_option maxRecDepth 100000 in
set_option maxHeartbeats 40000000 in
theorem configFinds_walk {w : World} (c : Cx) (co : c.Ok) (ch : c.Held w) (ck : c.Caps) (id : Int) (_hi : (Lit.int .i64 id).wf = true) (h : Int) (_hh : (Lit.int .i64 h).wf = true) (_w : World) :
    Calls Try.prog 4 #[c.val, .int .i64 id, .int .i64 h] w fun e w' => e = .returned (.bool true) ∧ Below w.heap.size w w' := by
  have HA := Lib.hid awake_any
  have HF := Lib.hid (fun (w' : World) (hb : Below w.heap.size w w') => few_any c w' (ch.below hb) ⟨co.2.1, co.2.2.2.2.1, co.2.2.2.2.2.2.1, co.2.2.2.2.2.2.2.2.1⟩)
  have HSM : Hid (few c = true → Sm c) := few_sm co
  have HVA : Hid (VxsAt w c.vlsA c.vls) := ch.2.2.1
  have H13 := Lib.hid (fun (hs : Sm c) (w' : World) (hb : Below w.heap.size w w') => VL_any c id w' (ch.below hb) (by have := hs.vls; unfold maxLen; omega) hs.tol)
  have H14 := Lib.hid (fun (hs : Sm c) (w' : World) (hb : Below w.heap.size w w') => vl_any c id w' (ch.below hb) (by have := hs.vls; unfold maxLen; omega))
  have H15 := Lib.hid (fun (hs : Sm c) (w' : World) (hb : Below w.heap.size w w') => Port_any c id w' (ch.below hb) (by have := hs.ports; unfold maxLen; omega))
  have H16 := Lib.hid (fun (hs : Sm c) (w' : World) (hb : Below w.heap.size w w') => port_any c id w' (ch.below hb) (by have := hs.ports; unfold maxLen; omega))
  have H18 := Lib.hid (fun (hs : Sm c) (hv : ∀ v ∈ c.vls, 0 ≤ v.smax ∧ v.smax ≤ 10000) (w' : World) (hb : Below w.heap.size w w') => jitterP_any c h w' (ch.below hb) hs.vls hv)
  have H19 := Lib.hid (fun (hs : Sm c) (hv : ∀ v ∈ c.vls, 0 ≤ v.smax ∧ v.smax ≤ 10000) (w' : World) (hb : Below w.heap.size w w') => jitter_any c h w' (ch.below hb) hs.vls hv)
  have H20 := Lib.hid (fun (hs : Sm c) (w' : World) (hb : Below w.heap.size w w') => sendsP_any c h w' (ch.below hb) hs.vls hs.tol)
  have H22 := Lib.hid (fun (hs : Sm c) (w' : World) (hb : Below w.heap.size w w') => takesP_any c h w' (ch.below hb) hs.vls hs.tol)
  have H21 := Lib.hid (fun (hs : Sm c) (w' : World) (hb : Below w.heap.size w w') => (sends_any c h w' (ch.below hb) hs.vls).mono (fun e w2 (hq : (∃ v, e = .returned v ∧ w2.ownsRow w'.heap.size 3 1 v _ _) ∧ _) => show (∃ A cap, e = .returned (.slice A (PitotConf.gatherIds (c.vls.map Vx.pl) (fun v => decide (v.host = h))).length cap) ∧ IntsAt w2 A (PitotConf.gatherIds (c.vls.map Vx.pl) (fun v => decide (v.host = h)))) ∧ Below w'.heap.size w' w2 from by
    obtain ⟨⟨v, rfl, hr⟩, hb2⟩ := hq
    obtain ⟨A, cap, rfl, hi⟩ := row_ints hr
    exact ⟨⟨A, cap, rfl, hi⟩, hb2⟩))
  have H23 := Lib.hid (fun (hs : Sm c) (w' : World) (hb : Below w.heap.size w w') => (takes_any c h w' (ch.below hb) hs.vls (fun v hv => by have := hs.tol v hv; unfold maxLen; omega)).mono (fun e w2 (hq : (∃ v, e = .returned v ∧ w2.ownsRow w'.heap.size 3 1 v _ _) ∧ _) => show (∃ A cap, e = .returned (.slice A (PitotConf.gatherIds (c.vls.map Vx.pl) (fun v => v.to.contains h)).length cap) ∧ IntsAt w2 A (PitotConf.gatherIds (c.vls.map Vx.pl) (fun v => v.to.contains h))) ∧ Below w'.heap.size w' w2 from by
    obtain ⟨⟨v, rfl, hr⟩, hb2⟩ := hq
    obtain ⟨A, cap, rfl, hi⟩ := row_ints hr
    exact ⟨⟨A, cap, rfl, hi⟩, hb2⟩))
  have hg1 : (PitotConf.gatherIds (c.vls.map Vx.pl) (fun v => decide (v.host = h))).length ≤ c.vls.length := by simpa using gather_length (c.vls.map Vx.pl) (fun v => decide (v.host = h))
  have hg2 : (PitotConf.gatherIds (c.vls.map Vx.pl) (fun v => v.to.contains h)).length ≤ c.vls.length := by simpa using gather_length (c.vls.map Vx.pl) (fun v => v.to.contains h)
  have HVH : Hid (Sm c → ((findVx c.vls id).getD vz).to.length ≤ 1000) := fun hs => by
    cases hf : findVx c.vls id with
    | none => show 0 ≤ 1000; omega
    | some x => exact hs.tol x (List.mem_of_find?_eq_some hf)
  have HVO : Hid (∀ w', Below w.heap.size w w' → IntsAt w' ((findVx c.vls id).getD vz).toA ((findVx c.vls id).getD vz).to) := fun w' hb => by
    cases hf : findVx c.vls id with
    | none => exact fun h => absurd rfl h
    | some x =>
      have hm := List.mem_of_find?_eq_some hf
      obtain ⟨k, hk, rfl⟩ := List.mem_iff_getElem.1 hm
      obtain ⟨_, _, _, _, _, hx⟩ := ch.2.2.1.get hk
      exact IntsAt.below hx hb
  have hvl : few c = true → c.vls.length ≤ 300 := fun h => (few_sm co h).vls
  have HVO2 : Hid (∀ x, (findVx c.vls id).getD vz = x → ∀ w', Below w.heap.size w w' → IntsAt w' x.toA x.to) := fun x hx w' hb => by rw [← hx]; exact HVO.out w' hb
  clear ch ck co HVO
  generalize hgx : (findVx c.vls id).getD vz = x at H13 H14 HVH HVO2
  have HVO := Lib.hid (HVO2.out x rfl)
  clear HVO2 hgx
  generalize (findVx c.vls id).isSome = is at H13 H14
  generalize (findPx c.ports id).getD pz = p at H15 H16
  generalize (findPx c.ports id).isSome = has at H15 H16
  generalize PitotConf.jitter (c.vls.map Vx.pl) h = J at H18 H19
  generalize PitotConf.gatherIds (c.vls.map Vx.pl) (fun v => decide (v.host = h)) = G1 at H20 H21 hg1
  generalize PitotConf.gatherIds (c.vls.map Vx.pl) (fun v => v.to.contains h) = G2 at H22 H23 hg2
  generalize few c = fw at HF HSM hvl
  obtain ⟨hosts, pA, pc, parts, major, wA, wk, wins, vA, vc, vls, qA, qc, ports⟩ := c
  obtain ⟨vid, vhost, vbag, vsmax, vhigh, vsubs, vskew, tA, tc, tol⟩ := x
  obtain ⟨qid, qhost, qpart, qkind, qout, qvl, qsub, qudp, qsize, qdepth, qfresh⟩ := p
  obtain ⟨vl, hvll⟩ : ∃ vl, vls.length = vl := ⟨_, rfl⟩
  simp only [Cx.val] at HF H13 H14 H15 H16 H18 H19 H20 H21 H22 H23 HVA HVH HVO hg1 hg2 hvl ⊢
  rw [hvll] at HF H13 H14 H15 H16 H18 H19 H20 H21 H22 H23 hg1 hg2 hvl ⊢
  have K13 : Hid (fw = true → ∀ (w' : World), Below w.heap.size w w' → Calls Try.prog 13 #[.agg #[.int .i64 hosts, .slice pA parts.length pc, .int .i64 major, .slice wA wins.length wk, .slice vA vl vc, .slice qA ports.length qc], .int .i64 id] w' fun e w'' => (∃ A cap, e = .returned (.tuple #[.agg #[.int .i64 vid, .int .i64 vhost, .int .i64 vbag, .int .i64 vsmax, .bool vhigh, .int .i64 vsubs, .int .i64 vskew, .slice A tol.length cap], .bool is]) ∧ IntsAt w'' A tol) ∧ Below w'.heap.size w' w'') := fun hf => H13.out (HSM.out hf)
  have K14 : Hid (fw = true → ∀ (w' : World), Below w.heap.size w w' → Calls Try.prog 14 #[.agg #[.int .i64 hosts, .slice pA parts.length pc, .int .i64 major, .slice wA wins.length wk, .slice vA vl vc, .slice qA ports.length qc], .int .i64 id] w' fun e w'' => e = .returned (.tuple #[.agg #[.int .i64 vid, .int .i64 vhost, .int .i64 vbag, .int .i64 vsmax, .bool vhigh, .int .i64 vsubs, .int .i64 vskew, .slice tA tol.length tc], .bool is]) ∧ Below w'.heap.size w' w'') := fun hf => H14.out (HSM.out hf)
  have K15 : Hid (fw = true → ∀ (w' : World), Below w.heap.size w w' → Calls Try.prog 15 #[.agg #[.int .i64 hosts, .slice pA parts.length pc, .int .i64 major, .slice wA wins.length wk, .slice vA vl vc, .slice qA ports.length qc], .int .i64 id] w' fun e w'' => e = .returned (.tuple #[.agg #[.int .i64 qid, .int .i64 qhost, .int .i64 qpart, .int .i64 qkind, .bool qout, .int .i64 qvl, .int .i64 qsub, .int .i64 qudp, .int .i64 qsize, .int .i64 qdepth, .int .i64 qfresh], .bool has]) ∧ Below w'.heap.size w' w'') := fun hf => H15.out (HSM.out hf)
  have K16 : Hid (fw = true → ∀ (w' : World), Below w.heap.size w w' → Calls Try.prog 16 #[.agg #[.int .i64 hosts, .slice pA parts.length pc, .int .i64 major, .slice wA wins.length wk, .slice vA vl vc, .slice qA ports.length qc], .int .i64 id] w' fun e w'' => e = .returned (.tuple #[.agg #[.int .i64 qid, .int .i64 qhost, .int .i64 qpart, .int .i64 qkind, .bool qout, .int .i64 qvl, .int .i64 qsub, .int .i64 qudp, .int .i64 qsize, .int .i64 qdepth, .int .i64 qfresh], .bool has]) ∧ Below w'.heap.size w' w'') := fun hf => H16.out (HSM.out hf)
  have K18 : Hid (fw = true → (∀ v ∈ vls, 0 ≤ v.smax ∧ v.smax ≤ 10000) → ∀ (w' : World), Below w.heap.size w w' → Calls Try.prog 18 #[.agg #[.int .i64 hosts, .slice pA parts.length pc, .int .i64 major, .slice wA wins.length wk, .slice vA vl vc, .slice qA ports.length qc], .int .i64 h] w' fun e w'' => e = .returned (.int .i64 J) ∧ Below w'.heap.size w' w'') := fun hf hv => H18.out (HSM.out hf) hv
  have K19 : Hid (fw = true → (∀ v ∈ vls, 0 ≤ v.smax ∧ v.smax ≤ 10000) → ∀ (w' : World), Below w.heap.size w w' → Calls Try.prog 19 #[.agg #[.int .i64 hosts, .slice pA parts.length pc, .int .i64 major, .slice wA wins.length wk, .slice vA vl vc, .slice qA ports.length qc], .int .i64 h] w' fun e w'' => e = .returned (.int .i64 J) ∧ Below w'.heap.size w' w'') := fun hf hv => H19.out (HSM.out hf) hv
  have K20 : Hid (fw = true → ∀ (w' : World), Below w.heap.size w w' → Calls Try.prog 20 #[.agg #[.int .i64 hosts, .slice pA parts.length pc, .int .i64 major, .slice wA wins.length wk, .slice vA vl vc, .slice qA ports.length qc], .int .i64 h] w' fun e w'' => (∃ A cap, e = .returned (.slice A G1.length cap) ∧ IntsAt w'' A G1) ∧ Below w'.heap.size w' w'') := fun hf => H20.out (HSM.out hf)
  have K21 : Hid (fw = true → ∀ (w' : World), Below w.heap.size w w' → Calls Try.prog 21 #[.agg #[.int .i64 hosts, .slice pA parts.length pc, .int .i64 major, .slice wA wins.length wk, .slice vA vl vc, .slice qA ports.length qc], .int .i64 h] w' fun e w'' => (∃ A cap, e = .returned (.slice A G1.length cap) ∧ IntsAt w'' A G1) ∧ Below w'.heap.size w' w'') := fun hf => H21.out (HSM.out hf)
  have K22 : Hid (fw = true → ∀ (w' : World), Below w.heap.size w w' → Calls Try.prog 22 #[.agg #[.int .i64 hosts, .slice pA parts.length pc, .int .i64 major, .slice wA wins.length wk, .slice vA vl vc, .slice qA ports.length qc], .int .i64 h] w' fun e w'' => (∃ A cap, e = .returned (.slice A G2.length cap) ∧ IntsAt w'' A G2) ∧ Below w'.heap.size w' w'') := fun hf => H22.out (HSM.out hf)
  have K23 : Hid (fw = true → ∀ (w' : World), Below w.heap.size w w' → Calls Try.prog 23 #[.agg #[.int .i64 hosts, .slice pA parts.length pc, .int .i64 major, .slice wA wins.length wk, .slice vA vl vc, .slice qA ports.length qc], .int .i64 h] w' fun e w'' => (∃ A cap, e = .returned (.slice A G2.length cap) ∧ IntsAt w'' A G2) ∧ Below w'.heap.size w' w'') := fun hf => H23.out (HSM.out hf)
  have HVT : Hid (fw = true → tol.length ≤ 1000) := fun hf => HVH.out (HSM.out hf)
  clear H13 H14 H15 H16 H18 H19 H20 H21 H22 H23 HVH HSM
  generalize wins.length = wl, parts.length = pl, ports.length = ql at HF K13 K14 K15 K16 K18 K19 K20 K21 K22 K23 ⊢
  have HI : ∀ (G : List Int), G.length ≤ 1000 → Hid (∀ A B ca cb w, IntsAt w A G → IntsAt w B G → Calls Try.prog 17 #[.slice A G.length ca, .slice B G.length cb] w fun e w' => e = .returned (.bool true) ∧ Below w.heap.size w w') := fun G hG A B ca cb w ha hb => by
    have := ints_any A B ca cb G G w ha hb (by unfold maxLen; omega) (by unfold maxLen; omega)
    rw [decide_eq_true rfl] at this
    exact this
  have HFW : Hid (∀ (w' : World), Below w.heap.size w w' → Calls Try.prog 9 #[.agg #[.int .i64 hosts, .slice pA pl pc, .int .i64 major, .slice wA wl wk, .slice vA vl vc, .slice qA ql qc]] w' fun e w'' => e = .returned (.bool fw) ∧ Below w'.heap.size w' w'') := HF
  clear HF
  have CB0 : Hid ((w.alloc (.cells #[.int .i64 hosts, .slice pA pl pc, .int .i64 major, .slice wA wl wk, .slice vA vl vc, .slice qA ql qc] 27)).heap[w.heap.size]? = some (.cells #[.int .i64 hosts, .slice pA pl pc, .int .i64 major, .slice wA wl wk, .slice vA vl vc, .slice qA ql qc] 27)) := heap_alloc_new w _
  have BB0 : Hid (Below w.heap.size w (w.alloc (.cells #[.int .i64 hosts, .slice pA pl pc, .int .i64 major, .slice wA wl wk, .slice vA vl vc, .slice qA ql qc] 27))) := (Below.refl _ w).alloc (Nat.le_refl _) _
  go_enter Try.func4, Try.ntmps4
  go_upto_region 1 with (fail)
  have CB := CB0
  have BB := BB0
  clear CB0 BB0
  generalize w.alloc (.cells #[.int .i64 hosts, .slice pA pl pc, .int .i64 major, .slice wA wl wk, .slice vA vl vc, .slice qA ql qc] 27) = Wi at CB BB ⊢
  obtain ⟨c0, c1, c2, c3, c4, c5⟩ := cells_6 CB.out
  cases fw
  · clear K13 K14 K15 K16 K18 K19 K20 K21 K22 K23 HVT HVA HVO HI
    go_wp2_with (first
      | (go_at_call 9; (with_reducible refine (HFW.out _ BB.out).mono ?_); rintro e w2 ⟨rfl, hb2⟩
         (have CBX := Lib.hid (lies_below CB.out hb2 (lies_lt CB.out)))
         (have BX := Lib.hid (BB.out.trans (hb2.mono BB.out.size)))
         (clear hb2 BB CB c0 c1 c2 c3 c4 c5)
         (have CB := CBX)
         (have BB := BX)
         (clear BX CBX)
         (obtain ⟨c0, c1, c2, c3, c4, c5⟩ := cells_6 CB.out))
      | (go_at_call 10; (with_reducible refine (HA.out _).mono ?_); rintro e w9 ⟨rfl, hb2⟩
         (have CBX := Lib.hid (lies_below CB.out hb2 (lies_lt CB.out)))
         (have BX := Lib.hid (BB.out.trans (hb2.mono BB.out.size)))
         (clear hb2 BB CB c0 c1 c2 c3 c4 c5)
         (have CB := CBX)
         (have BB := BX)
         (clear BX CBX)
         (obtain ⟨c0, c1, c2, c3, c4, c5⟩ := cells_6 CB.out)))
    go_returns
    exact ⟨rfl, BB.out⟩
  have hvl := hvl rfl
  have htol := HVT.out rfl
  have HI0 := HI tol htol
  have HI1 := HI G1 (by omega)
  have HI2 := HI G2 (by omega)
  have M13 := Lib.hid (K13.out rfl)
  have M14 := Lib.hid (K14.out rfl)
  have M15 := Lib.hid (K15.out rfl)
  have M16 := Lib.hid (K16.out rfl)
  have M18 := Lib.hid (K18.out rfl)
  have M19 := Lib.hid (K19.out rfl)
  have M20 := Lib.hid (K20.out rfl)
  have M21 := Lib.hid (K21.out rfl)
  have M22 := Lib.hid (K22.out rfl)
  have M23 := Lib.hid (K23.out rfl)
  clear K13 K14 K15 K16 K18 K19 K20 K21 K22 K23
  generalize G1.length = n1 at HI1 M20 M21 hg1
  generalize G2.length = n2 at HI2 M22 M23 hg2
  generalize tol.length = tl at HI0 M13 M14 htol
  clear HI HVT hg1 hg2
  go_upto_region 4 with (first
    | (go_at_call 9; (with_reducible refine (HFW.out _ BB.out).mono ?_); rintro e w2 ⟨rfl, hb2⟩
       (have CBX := Lib.hid (lies_below CB.out hb2 (lies_lt CB.out)))
       (have BX := Lib.hid (BB.out.trans (hb2.mono BB.out.size)))
       (clear hb2 BB CB c0 c1 c2 c3 c4 c5)
       (have CB := CBX)
       (have BB := BX)
       (clear BX CBX)
       (obtain ⟨c0, c1, c2, c3, c4, c5⟩ := cells_6 CB.out)))
  have hvl2 := Lib.hid hvll
  clear hvll c0 c1 c2 c3 c4 c5
  go_loopw [7] (fun v7 wr => ∃ k : Nat, k ≤ vl ∧ v7 = .int .i64 k ∧ Hid (∀ q (hq : q < vls.length), q < k → 0 ≤ vls[q].smax ∧ vls[q].smax ≤ 10000) ∧ wr.heap[w.heap.size]? = some (.cells #[.int .i64 hosts, .slice pA pl pc, .int .i64 major, .slice wA wl wk, .slice vA vl vc, .slice qA ql qc] 27) ∧ Below w.heap.size w wr) (fun v7 _ => vl - (intOf v7).toNat)
  case atStart => exact ⟨0, Nat.zero_le _, rfl, fun q hq h => by omega, CB.out, BB.out⟩
  case round =>
    obtain ⟨k, hk, rfl, hpr, hC, hB⟩ := hrel
    have CB2 := Lib.hid hC; have BB2 := Lib.hid hB
    clear hC hB CB BB
    have CB := CB2
    have BB := BB2
    clear CB2 BB2
    obtain ⟨c0, c1, c2, c3, c4, c5⟩ := cells_6 CB.out
    by_cases hkm : k < vl
    · have hkl : k < vls.length := by rw [hvl2.out]; exact hkm
      have e1 : decide ((k : Int) < (vl : Int)) = true := decide_eq_true (by omega)
      have e1' : decide (k < vl) = true := decide_eq_true hkm
      have hkI : (k : Int) < (vl : Int) := by omega
      have hk0 : 0 ≤ (k : Int) := by omega
      obtain ⟨b, off, rfl, hbw, hat, _⟩ := HVA.out.get hkl
      have hat := hat.below BB.out hbw
      have hps : ∀ sm : Int, sm = vls[k].smax → 0 ≤ sm → sm ≤ 10000 → Hid (∀ q (hq : q < vls.length), q < k + 1 → 0 ≤ vls[q].smax ∧ vls[q].smax ≤ 10000) := fun sm hsm h1 h2 q hq hqk => by
        by_cases e : q = k
        · subst e; omega
        · exact hpr.out q hq (by omega)
      obtain ⟨_, _, _, a3, _⟩ := hat
      generalize hsm : vls[k].smax = sm at a3 hps
      by_cases s0 : sm < 0
      · have s1 : decide (sm < 0) = true := decide_eq_true s0
        clear hps hsm
        go_wp2_with (first
          | (go_at_call 10; (with_reducible refine (HA.out _).mono ?_); rintro e w9 ⟨rfl, hb2⟩
             (have CBX := Lib.hid (lies_below CB.out hb2 (lies_lt CB.out)))
             (have BX := Lib.hid (BB.out.trans (hb2.mono BB.out.size)))
             (clear hb2 BB CB c0 c1 c2 c3 c4 c5)
             (have CB := CBX)
             (have BB := BX)
             (clear BX CBX)
             (obtain ⟨c0, c1, c2, c3, c4, c5⟩ := cells_6 CB.out)))
        go_returns
        exact ⟨rfl, BB.out⟩
      · have s1 : decide (sm < 0) = false := decide_eq_false s0
        by_cases s2 : 10000 < sm
        · have s3 : decide (10000 < sm) = true := decide_eq_true s2
          clear hps hsm
          go_wp2_with (first
            | (go_at_call 10; (with_reducible refine (HA.out _).mono ?_); rintro e w9 ⟨rfl, hb2⟩
               (have CBX := Lib.hid (lies_below CB.out hb2 (lies_lt CB.out)))
               (have BX := Lib.hid (BB.out.trans (hb2.mono BB.out.size)))
               (clear hb2 BB CB c0 c1 c2 c3 c4 c5)
               (have CB := CBX)
               (have BB := BX)
               (clear BX CBX)
               (obtain ⟨c0, c1, c2, c3, c4, c5⟩ := cells_6 CB.out)))
          go_returns
          exact ⟨rfl, BB.out⟩
        · have s3 : decide (10000 < sm) = false := decide_eq_false s2
          have hpn := hps sm rfl (by omega) (by omega)
          clear hps hsm
          go_wp2
          go_roundw
          case rel => exact ⟨k + 1, by omega, by go_num, hpn, CB.out, BB.out⟩
          case measure => simp [intOf]; omega
    · have e1 : decide ((k : Int) < (vl : Int)) = false := decide_eq_false (by omega)
      have e1' : decide (k < vl) = false := decide_eq_false hkm
      have hall : ∀ v ∈ vls, 0 ≤ v.smax ∧ v.smax ≤ 10000 := fun v hv => by
        obtain ⟨q, hq, rfl⟩ := List.mem_iff_getElem.1 hv
        exact hpr.out q hq (by rw [hvl2.out] at hq; omega)
      have N18 := Lib.hid (M18.out hall)
      have N19 := Lib.hid (M19.out hall)
      clear M18 M19 hall hpr HVA
      go_upto_region 9 with (first
        | (go_at_call 13; (with_reducible refine (M13.out _ BB.out).mono ?_); rintro e w13 ⟨⟨A4, cap4, rfl, hi4⟩, hb2⟩
           (have CBX := Lib.hid (lies_below CB.out hb2 (lies_lt CB.out)))
           (have BX := Lib.hid (BB.out.trans (hb2.mono BB.out.size)))
           (clear hb2 BB CB c0 c1 c2 c3 c4 c5)
           (have CB := CBX)
           (have BB := BX)
           (clear BX CBX)
           (obtain ⟨c0, c1, c2, c3, c4, c5⟩ := cells_6 CB.out)))
      have VB : Hid ((w13.alloc (.cells #[.int .i64 vid, .int .i64 vhost, .int .i64 vbag, .int .i64 vsmax, .bool vhigh, .int .i64 vsubs, .int .i64 vskew, .slice A4 tl cap4] 38)).heap[w13.heap.size]? = some (.cells #[.int .i64 vid, .int .i64 vhost, .int .i64 vbag, .int .i64 vsmax, .bool vhigh, .int .i64 vsubs, .int .i64 vskew, .slice A4 tl cap4] 38)) := heap_alloc_new w13 _
      have I4 : Hid (IntsAt (w13.alloc (.cells #[.int .i64 vid, .int .i64 vhost, .int .i64 vbag, .int .i64 vsmax, .bool vhigh, .int .i64 vsubs, .int .i64 vskew, .slice A4 tl cap4] 38)) A4 tol) := IntsAt.below hi4 ((Below.refl _ w13).alloc (Nat.le_refl _) _)
      clear hi4
      have CBX := Lib.hid (lies_alloc (o := .cells #[.int .i64 vid, .int .i64 vhost, .int .i64 vbag, .int .i64 vsmax, .bool vhigh, .int .i64 vsubs, .int .i64 vskew, .slice A4 tl cap4] 38) CB.out)
      have BX : Hid (Below w.heap.size w (w13.alloc (.cells #[.int .i64 vid, .int .i64 vhost, .int .i64 vbag, .int .i64 vsmax, .bool vhigh, .int .i64 vsubs, .int .i64 vskew, .slice A4 tl cap4] 38))) := BB.out.alloc BB.out.size _
      clear BB CB c0 c1 c2 c3 c4 c5
      have CB := CBX
      have BB := BX
      clear BX CBX
      generalize w13.alloc (.cells #[.int .i64 vid, .int .i64 vhost, .int .i64 vbag, .int .i64 vsmax, .bool vhigh, .int .i64 vsubs, .int .i64 vskew, .slice A4 tl cap4] 38) = W13 at BB CB VB I4 ⊢
      obtain ⟨c0, c1, c2, c3, c4, c5⟩ := cells_6 CB.out
      generalize w13.heap.size = b13 at VB ⊢
      obtain ⟨x0, x1, x2, x3, x4, x5, x6, x7⟩ := cells_8 VB.out
      go_upto_region 10 with (first
        | (go_at_call 14; (with_reducible refine (M14.out _ BB.out).mono ?_); rintro e w14 ⟨rfl, hb2⟩
           (have I4X := Lib.hid (IntsAt.below I4.out hb2))
           (clear I4)
           (have I4 := I4X)
           (clear I4X)
           (have CBX := Lib.hid (lies_below CB.out hb2 (lies_lt CB.out)))
           (have VBX := Lib.hid (lies_below VB.out hb2 (lies_lt VB.out)))
           (have BX := Lib.hid (BB.out.trans (hb2.mono BB.out.size)))
           (clear hb2 BB CB VB c0 c1 c2 c3 c4 c5 x0 x1 x2 x3 x4 x5 x6 x7)
           (have CB := CBX)
           (have VB := VBX)
           (have BB := BX)
           (clear BX CBX VBX)
           (obtain ⟨c0, c1, c2, c3, c4, c5⟩ := cells_6 CB.out)
           (obtain ⟨x0, x1, x2, x3, x4, x5, x6, x7⟩ := cells_8 VB.out)))
      have UB : Hid ((w14.alloc (.cells #[.int .i64 vid, .int .i64 vhost, .int .i64 vbag, .int .i64 vsmax, .bool vhigh, .int .i64 vsubs, .int .i64 vskew, .slice tA tl tc] 38)).heap[w14.heap.size]? = some (.cells #[.int .i64 vid, .int .i64 vhost, .int .i64 vbag, .int .i64 vsmax, .bool vhigh, .int .i64 vsubs, .int .i64 vskew, .slice tA tl tc] 38)) := heap_alloc_new w14 _
      have I4X : Hid (IntsAt (w14.alloc (.cells #[.int .i64 vid, .int .i64 vhost, .int .i64 vbag, .int .i64 vsmax, .bool vhigh, .int .i64 vsubs, .int .i64 vskew, .slice tA tl tc] 38)) A4 tol) := IntsAt.below I4.out ((Below.refl _ w14).alloc (Nat.le_refl _) _)
      clear I4
      have I4 := I4X
      clear I4X
      have CBX := Lib.hid (lies_alloc (o := .cells #[.int .i64 vid, .int .i64 vhost, .int .i64 vbag, .int .i64 vsmax, .bool vhigh, .int .i64 vsubs, .int .i64 vskew, .slice tA tl tc] 38) CB.out)
      have VBX := Lib.hid (lies_alloc (o := .cells #[.int .i64 vid, .int .i64 vhost, .int .i64 vbag, .int .i64 vsmax, .bool vhigh, .int .i64 vsubs, .int .i64 vskew, .slice tA tl tc] 38) VB.out)
      have BX : Hid (Below w.heap.size w (w14.alloc (.cells #[.int .i64 vid, .int .i64 vhost, .int .i64 vbag, .int .i64 vsmax, .bool vhigh, .int .i64 vsubs, .int .i64 vskew, .slice tA tl tc] 38))) := BB.out.alloc BB.out.size _
      clear BB CB VB c0 c1 c2 c3 c4 c5 x0 x1 x2 x3 x4 x5 x6 x7
      have CB := CBX
      have VB := VBX
      have BB := BX
      clear BX CBX VBX
      generalize w14.alloc (.cells #[.int .i64 vid, .int .i64 vhost, .int .i64 vbag, .int .i64 vsmax, .bool vhigh, .int .i64 vsubs, .int .i64 vskew, .slice tA tl tc] 38) = W14 at BB CB VB UB I4 ⊢
      obtain ⟨c0, c1, c2, c3, c4, c5⟩ := cells_6 CB.out
      obtain ⟨x0, x1, x2, x3, x4, x5, x6, x7⟩ := cells_8 VB.out
      generalize w14.heap.size = b14 at UB ⊢
      obtain ⟨y0, y1, y2, y3, y4, y5, y6, y7⟩ := cells_8 UB.out
      go_upto_region 11 with (first
        | (go_at_call 15; (with_reducible refine (M15.out _ BB.out).mono ?_); rintro e w15 ⟨rfl, hb2⟩
           (have I4X := Lib.hid (IntsAt.below I4.out hb2))
           (clear I4)
           (have I4 := I4X)
           (clear I4X)
           (have CBX := Lib.hid (lies_below CB.out hb2 (lies_lt CB.out)))
           (have VBX := Lib.hid (lies_below VB.out hb2 (lies_lt VB.out)))
           (have UBX := Lib.hid (lies_below UB.out hb2 (lies_lt UB.out)))
           (have BX := Lib.hid (BB.out.trans (hb2.mono BB.out.size)))
           (clear hb2 BB CB VB UB c0 c1 c2 c3 c4 c5 x0 x1 x2 x3 x4 x5 x6 x7 y0 y1 y2 y3 y4 y5 y6 y7)
           (have CB := CBX)
           (have VB := VBX)
           (have UB := UBX)
           (have BB := BX)
           (clear BX CBX VBX UBX)
           (obtain ⟨c0, c1, c2, c3, c4, c5⟩ := cells_6 CB.out)
           (obtain ⟨x0, x1, x2, x3, x4, x5, x6, x7⟩ := cells_8 VB.out)
           (obtain ⟨y0, y1, y2, y3, y4, y5, y6, y7⟩ := cells_8 UB.out)))
      have PB : Hid ((w15.alloc (.cells #[.int .i64 qid, .int .i64 qhost, .int .i64 qpart, .int .i64 qkind, .bool qout, .int .i64 qvl, .int .i64 qsub, .int .i64 qudp, .int .i64 qsize, .int .i64 qdepth, .int .i64 qfresh] 42)).heap[w15.heap.size]? = some (.cells #[.int .i64 qid, .int .i64 qhost, .int .i64 qpart, .int .i64 qkind, .bool qout, .int .i64 qvl, .int .i64 qsub, .int .i64 qudp, .int .i64 qsize, .int .i64 qdepth, .int .i64 qfresh] 42)) := heap_alloc_new w15 _
      have I4X : Hid (IntsAt (w15.alloc (.cells #[.int .i64 qid, .int .i64 qhost, .int .i64 qpart, .int .i64 qkind, .bool qout, .int .i64 qvl, .int .i64 qsub, .int .i64 qudp, .int .i64 qsize, .int .i64 qdepth, .int .i64 qfresh] 42)) A4 tol) := IntsAt.below I4.out ((Below.refl _ w15).alloc (Nat.le_refl _) _)
      clear I4
      have I4 := I4X
      clear I4X
      have CBX := Lib.hid (lies_alloc (o := .cells #[.int .i64 qid, .int .i64 qhost, .int .i64 qpart, .int .i64 qkind, .bool qout, .int .i64 qvl, .int .i64 qsub, .int .i64 qudp, .int .i64 qsize, .int .i64 qdepth, .int .i64 qfresh] 42) CB.out)
      have VBX := Lib.hid (lies_alloc (o := .cells #[.int .i64 qid, .int .i64 qhost, .int .i64 qpart, .int .i64 qkind, .bool qout, .int .i64 qvl, .int .i64 qsub, .int .i64 qudp, .int .i64 qsize, .int .i64 qdepth, .int .i64 qfresh] 42) VB.out)
      have UBX := Lib.hid (lies_alloc (o := .cells #[.int .i64 qid, .int .i64 qhost, .int .i64 qpart, .int .i64 qkind, .bool qout, .int .i64 qvl, .int .i64 qsub, .int .i64 qudp, .int .i64 qsize, .int .i64 qdepth, .int .i64 qfresh] 42) UB.out)
      have BX : Hid (Below w.heap.size w (w15.alloc (.cells #[.int .i64 qid, .int .i64 qhost, .int .i64 qpart, .int .i64 qkind, .bool qout, .int .i64 qvl, .int .i64 qsub, .int .i64 qudp, .int .i64 qsize, .int .i64 qdepth, .int .i64 qfresh] 42))) := BB.out.alloc BB.out.size _
      clear BB CB VB UB c0 c1 c2 c3 c4 c5 x0 x1 x2 x3 x4 x5 x6 x7 y0 y1 y2 y3 y4 y5 y6 y7
      have CB := CBX
      have VB := VBX
      have UB := UBX
      have BB := BX
      clear BX CBX VBX UBX
      generalize w15.alloc (.cells #[.int .i64 qid, .int .i64 qhost, .int .i64 qpart, .int .i64 qkind, .bool qout, .int .i64 qvl, .int .i64 qsub, .int .i64 qudp, .int .i64 qsize, .int .i64 qdepth, .int .i64 qfresh] 42) = W15 at BB CB VB UB PB I4 ⊢
      obtain ⟨c0, c1, c2, c3, c4, c5⟩ := cells_6 CB.out
      obtain ⟨x0, x1, x2, x3, x4, x5, x6, x7⟩ := cells_8 VB.out
      obtain ⟨y0, y1, y2, y3, y4, y5, y6, y7⟩ := cells_8 UB.out
      generalize w15.heap.size = b15 at PB ⊢
      obtain ⟨p0, p1, p2, p3, p4, p5, p6, p7, p8, p9, p10⟩ := cells_11 PB.out
      go_upto_region 12 with (first
        | (go_at_call 16; (with_reducible refine (M16.out _ BB.out).mono ?_); rintro e w16 ⟨rfl, hb2⟩
           (have I4X := Lib.hid (IntsAt.below I4.out hb2))
           (clear I4)
           (have I4 := I4X)
           (clear I4X)
           (have CBX := Lib.hid (lies_below CB.out hb2 (lies_lt CB.out)))
           (have VBX := Lib.hid (lies_below VB.out hb2 (lies_lt VB.out)))
           (have UBX := Lib.hid (lies_below UB.out hb2 (lies_lt UB.out)))
           (have PBX := Lib.hid (lies_below PB.out hb2 (lies_lt PB.out)))
           (have BX := Lib.hid (BB.out.trans (hb2.mono BB.out.size)))
           (clear hb2 BB CB VB UB PB c0 c1 c2 c3 c4 c5 x0 x1 x2 x3 x4 x5 x6 x7 y0 y1 y2 y3 y4 y5 y6 y7 p0 p1 p2 p3 p4 p5 p6 p7 p8 p9 p10)
           (have CB := CBX)
           (have VB := VBX)
           (have UB := UBX)
           (have PB := PBX)
           (have BB := BX)
           (clear BX CBX VBX UBX PBX)
           (obtain ⟨c0, c1, c2, c3, c4, c5⟩ := cells_6 CB.out)
           (obtain ⟨x0, x1, x2, x3, x4, x5, x6, x7⟩ := cells_8 VB.out)
           (obtain ⟨y0, y1, y2, y3, y4, y5, y6, y7⟩ := cells_8 UB.out)
           (obtain ⟨p0, p1, p2, p3, p4, p5, p6, p7, p8, p9, p10⟩ := cells_11 PB.out)))
      have QB : Hid ((w16.alloc (.cells #[.int .i64 qid, .int .i64 qhost, .int .i64 qpart, .int .i64 qkind, .bool qout, .int .i64 qvl, .int .i64 qsub, .int .i64 qudp, .int .i64 qsize, .int .i64 qdepth, .int .i64 qfresh] 42)).heap[w16.heap.size]? = some (.cells #[.int .i64 qid, .int .i64 qhost, .int .i64 qpart, .int .i64 qkind, .bool qout, .int .i64 qvl, .int .i64 qsub, .int .i64 qudp, .int .i64 qsize, .int .i64 qdepth, .int .i64 qfresh] 42)) := heap_alloc_new w16 _
      have I4X : Hid (IntsAt (w16.alloc (.cells #[.int .i64 qid, .int .i64 qhost, .int .i64 qpart, .int .i64 qkind, .bool qout, .int .i64 qvl, .int .i64 qsub, .int .i64 qudp, .int .i64 qsize, .int .i64 qdepth, .int .i64 qfresh] 42)) A4 tol) := IntsAt.below I4.out ((Below.refl _ w16).alloc (Nat.le_refl _) _)
      clear I4
      have I4 := I4X
      clear I4X
      have CBX := Lib.hid (lies_alloc (o := .cells #[.int .i64 qid, .int .i64 qhost, .int .i64 qpart, .int .i64 qkind, .bool qout, .int .i64 qvl, .int .i64 qsub, .int .i64 qudp, .int .i64 qsize, .int .i64 qdepth, .int .i64 qfresh] 42) CB.out)
      have VBX := Lib.hid (lies_alloc (o := .cells #[.int .i64 qid, .int .i64 qhost, .int .i64 qpart, .int .i64 qkind, .bool qout, .int .i64 qvl, .int .i64 qsub, .int .i64 qudp, .int .i64 qsize, .int .i64 qdepth, .int .i64 qfresh] 42) VB.out)
      have UBX := Lib.hid (lies_alloc (o := .cells #[.int .i64 qid, .int .i64 qhost, .int .i64 qpart, .int .i64 qkind, .bool qout, .int .i64 qvl, .int .i64 qsub, .int .i64 qudp, .int .i64 qsize, .int .i64 qdepth, .int .i64 qfresh] 42) UB.out)
      have PBX := Lib.hid (lies_alloc (o := .cells #[.int .i64 qid, .int .i64 qhost, .int .i64 qpart, .int .i64 qkind, .bool qout, .int .i64 qvl, .int .i64 qsub, .int .i64 qudp, .int .i64 qsize, .int .i64 qdepth, .int .i64 qfresh] 42) PB.out)
      have BX : Hid (Below w.heap.size w (w16.alloc (.cells #[.int .i64 qid, .int .i64 qhost, .int .i64 qpart, .int .i64 qkind, .bool qout, .int .i64 qvl, .int .i64 qsub, .int .i64 qudp, .int .i64 qsize, .int .i64 qdepth, .int .i64 qfresh] 42))) := BB.out.alloc BB.out.size _
      clear BB CB VB UB PB c0 c1 c2 c3 c4 c5 x0 x1 x2 x3 x4 x5 x6 x7 y0 y1 y2 y3 y4 y5 y6 y7 p0 p1 p2 p3 p4 p5 p6 p7 p8 p9 p10
      have CB := CBX
      have VB := VBX
      have UB := UBX
      have PB := PBX
      have BB := BX
      clear BX CBX VBX UBX PBX
      generalize w16.alloc (.cells #[.int .i64 qid, .int .i64 qhost, .int .i64 qpart, .int .i64 qkind, .bool qout, .int .i64 qvl, .int .i64 qsub, .int .i64 qudp, .int .i64 qsize, .int .i64 qdepth, .int .i64 qfresh] 42) = W16 at BB CB VB UB PB QB I4 ⊢
      obtain ⟨c0, c1, c2, c3, c4, c5⟩ := cells_6 CB.out
      obtain ⟨x0, x1, x2, x3, x4, x5, x6, x7⟩ := cells_8 VB.out
      obtain ⟨y0, y1, y2, y3, y4, y5, y6, y7⟩ := cells_8 UB.out
      obtain ⟨p0, p1, p2, p3, p4, p5, p6, p7, p8, p9, p10⟩ := cells_11 PB.out
      generalize w16.heap.size = b16 at QB ⊢
      obtain ⟨q0, q1, q2, q3, q4, q5, q6, q7, q8, q9, q10⟩ := cells_11 QB.out
      have HOA := Lib.hid (HVO.out _ BB.out)
      go_upto_region 14 with (first
        | (go_at_call 17; (with_reducible refine (HI0.out _ _ _ _ _ I4.out HOA.out).mono ?_); rintro e w17 ⟨rfl, hb2⟩
           (have CBX := Lib.hid (lies_below CB.out hb2 (lies_lt CB.out)))
           (have VBX := Lib.hid (lies_below VB.out hb2 (lies_lt VB.out)))
           (have UBX := Lib.hid (lies_below UB.out hb2 (lies_lt UB.out)))
           (have PBX := Lib.hid (lies_below PB.out hb2 (lies_lt PB.out)))
           (have QBX := Lib.hid (lies_below QB.out hb2 (lies_lt QB.out)))
           (have BX := Lib.hid (BB.out.trans (hb2.mono BB.out.size)))
           (clear hb2 BB CB VB UB PB QB c0 c1 c2 c3 c4 c5 x0 x1 x2 x3 x4 x5 x6 x7 y0 y1 y2 y3 y4 y5 y6 y7 p0 p1 p2 p3 p4 p5 p6 p7 p8 p9 p10 q0 q1 q2 q3 q4 q5 q6 q7 q8 q9 q10)
           (have CB := CBX)
           (have VB := VBX)
           (have UB := UBX)
           (have PB := PBX)
           (have QB := QBX)
           (have BB := BX)
           (clear BX CBX VBX UBX PBX QBX)
           (obtain ⟨c0, c1, c2, c3, c4, c5⟩ := cells_6 CB.out)
           (obtain ⟨x0, x1, x2, x3, x4, x5, x6, x7⟩ := cells_8 VB.out)
           (obtain ⟨y0, y1, y2, y3, y4, y5, y6, y7⟩ := cells_8 UB.out)
           (obtain ⟨p0, p1, p2, p3, p4, p5, p6, p7, p8, p9, p10⟩ := cells_11 PB.out)
           (obtain ⟨q0, q1, q2, q3, q4, q5, q6, q7, q8, q9, q10⟩ := cells_11 QB.out)))
      clear c0 c1 c2 c3 c4 c5 x0 x1 x2 x3 x4 x5 x6 x7 y0 y1 y2 y3 y4 y5 y6 y7 p0 p1 p2 p3 p4 p5 p6 p7 p8 p9 p10 q0 q1 q2 q3 q4 q5 q6 q7 q8 q9 q10
      have L18 := Lib.hid (fun w' (hb : Below w17.heap.size w17 w') => N18.out w' (BB.out.trans (hb.mono BB.out.size)))
      have L19 := Lib.hid (fun w' (hb : Below w17.heap.size w17 w') => N19.out w' (BB.out.trans (hb.mono BB.out.size)))
      have L20 := Lib.hid (fun w' (hb : Below w17.heap.size w17 w') => M20.out w' (BB.out.trans (hb.mono BB.out.size)))
      have L21 := Lib.hid (fun w' (hb : Below w17.heap.size w17 w') => M21.out w' (BB.out.trans (hb.mono BB.out.size)))
      have L22 := Lib.hid (fun w' (hb : Below w17.heap.size w17 w') => M22.out w' (BB.out.trans (hb.mono BB.out.size)))
      have L23 := Lib.hid (fun w' (hb : Below w17.heap.size w17 w') => M23.out w' (BB.out.trans (hb.mono BB.out.size)))
      refine finds14 CB L18 L19 L20 L21 L22 L23 HI1 HI2 HA (fun _ _ _ _ _ h => h) ?_
      intro wc hwc z110 z111 z112 z113 z114 z115 z116 z117 z118 z119 z120 z121 z122 z123 z124 z125 z126 z127 z128 z129 z130 z131 z132 z133 z134 z135 z136 z137
      have BE : Hid (Below w.heap.size w wc) := BB.out.trans (hwc.mono BB.out.size)
      go_wp2
      go_returns
      exact ⟨rfl, BE.out⟩



set_option maxRecDepth 100000 in
theorem configFinds_lifted (os : Os) (started : os.Started) (H : Type) (enc : TypeId × Value → H) :
    ReturnsInHanded {} Try.checked os 4 .any (Rows.configFindsSpec.pre6 enc Try.prog Try.f4 Rows.configFindsRow.domain false) (Rows.configFindsSpec.post enc Try.prog Try.f4 false true false false) := by
  refine returnsInHanded_of_change (C := Try.checked) configFinds_own started (by kernel_rfl) Try.func4
    (ChangeSpec.witness6 (enc := enc) (C := Try.checked) false ⟨#[], #[.agg #[.int .i64 0, .slice none 0 0, .int .i64 0, .slice none 0 0, .slice none 0 0, .slice none 0 0], .int .i64 0, .int .i64 0], []⟩ 8 (by kernel_rfl) (by kernel_rfl) (by kernel_rfl) (by kernel_rfl)) ?_
  intro W base args ds gs before hval0 hW hcnd _
  have hval : ∀ (j : Nat) t v, Try.f4.params[j]? = some t → args[j]? = some v → Value.okWide Try.prog W .any base t v := hval0
  have hW' := hW
  obtain ⟨p, q, hA0, hV, rfl, hfz, hnd⟩ := hW
  have hA : DataW.TrodAll enc Try.prog W 0 (fun _ => true) true Try.f4.params.toList args.toList ds p := hA0
  rw [Try.params4] at hA hval
  obtain ⟨v0, vs0, d0, ds0, p0, q0, hargs, rfl, rfl, h0, r0⟩ := trodAll_cons hA
  obtain ⟨v1, vs1, d1, ds1, p1, q1, rfl, rfl, rfl, h1, r1⟩ := trodAll_cons r0
  obtain ⟨v2, vs2, d2, ds2, p2, q2, rfl, rfl, rfl, h2, r2⟩ := trodAll_cons r1
  obtain ⟨rfl, rfl, rfl⟩ := trodAll_nil r2
  obtain rfl : args = #[v0, v1, v2] := by cases args; simp_all
  obtain ⟨rfl, rfl⟩ := trodVars_none hV
  have k0 := h0
  have lt0 : ∀ x ∈ p0, x.block < W.heap.size := by obtain ⟨m, hm⟩ := k0; exact DataW.trod_lt m _ _ _ hm
  obtain ⟨fu0, hf0⟩ := h0
  obtain ⟨c0, co0, ch0, ck0, rfl⟩ := Cx_open2 (hval 0 27 v0 rfl rfl) hf0
  obtain ⟨a1, rfl, rfl, rfl, w1⟩ := open_int Try.underlying3 (hval 1 3 v1 rfl rfl) h1
  obtain ⟨a2, rfl, rfl, rfl, w2⟩ := open_int Try.underlying3 (hval 2 3 v2 rfl rfl) h2
  clear hA0 hval0
  have hwalk := configFinds_walk c0 co0 ch0 ck0 a1 w1 a2 w2 W

  refine hwalk.mono fun e W' ⟨he, bel⟩ => ?_
  subst he
  exact ⟨_, rfl, _, _, _, [], _, [], hW', trodAll_mk1 (shut_bool Try.underlying4 _), (trodAll_cons_mk (Below.trod configFinds_laid (by kernel_rfl) (of_decide_eq_true (by kernel_rfl)) k0 bel lt0) (trodAll_cons_mk (shut_int Try.underlying3 w1) (trodAll_cons_mk (shut_int Try.underlying3 w2) trodAll_mk0))), rfl, bel.frame _, fun h => by cases h⟩

theorem configFinds_over : Rows.configFindsRow.holds Try.pinned (OpenSpec.ofChange Rows.configFindsSpec) :=
  OpenClaim.holds_of_wide 4 Try.f4 rfl rfl rfl rfl rfl rfl rfl ⟨rfl, rfl, rfl, rfl, rfl⟩ rfl rfl rfl rfl rfl (by kernel_rfl) Try.func4 (by kernel_rfl)
    (of_decide_eq_true (by kernel_rfl)) (by unfold Func.isWrapper; first | (rw [if_pos (by decide +kernel)]; kernel_rfl) | (rw [if_neg (by decide +kernel)]; exact ⟨rfl, rfl⟩))
    (fun os started H enc _ => configFinds_lifted os started H enc)

theorem configFinds_holds : Rows.ConfigFindsSaid := configFinds_over
#print axioms configFinds_holds
end Go.Proofs.Ythicfgcnhefinaa
