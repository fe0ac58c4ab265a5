/- For every network (its slices as long as any may be) the law ConfigHolds answers true: of a network that may be each port has a link that goes from, or to, its host, no two windows of a host are open at the same time, and a Sampling message goes into one frame. No conditions. -/
import Derived.Test.YthicfgcnhefinaaRows
import Derived.Test.YthicfgcnhefinaaM13
import Derived.Test.YthicfgcnhefinaaM14
import Derived.Test.YthicfgcnhefinaaM15
import Derived.WalkKit
import Derived.Handy
import Derived.Deep.RegionHeld3
import Derived.Deep.CutRange
import Derived.StillTailTactics
import Derived.ProofKit
import Derived.OpenShut
import Derived.ShutString
import Derived.ChangeOld
import Derived.Below
set_option linter.unusedVariables false
namespace Go.Proofs.Ythicfgcnhefinaa
open Go.ChangeShapes Go.WideShapes Go.ChangeAt Go.RowKit
open Go.ChangeMaps (open_string shut_string)
set_option linter.unusedVariables false

theorem configHolds_own : ownKnob Try.prog.godebug = none := by kernel_rfl
theorem configHolds_laid : laidOutB Try.prog = true := by kernel_rfl

theorem vl_found {c : Cx} (h : PitotConf.May c.pl) {k : Nat} (hk : k < c.ports.length) : ∃ v, findVx c.vls c.ports[k].vl = some v ∧ (0 ≤ c.ports[k].part ∧ c.ports[k].part < c.parts.length) ∧ PitotConf.hostOf c.parts c.ports[k].part = some c.ports[k].host ∧ (c.ports[k].out = true → v.host = c.ports[k].host) ∧ (c.ports[k].out = false → v.to.contains c.ports[k].host = true) ∧ (c.ports[k].kind = 1 → c.ports[k].size + 47 ≤ v.smax) ∧ 1 ≤ c.ports[k].size ∧ c.ports[k].size ≤ 8192 := by
  have hm : c.ports[k].pl ∈ c.pl.ports := List.mem_map_of_mem (List.getElem_mem hk)
  obtain ⟨v', h1, h2, h3, h4, h5, h6, h7⟩ := h.port hm
  have hvl : PitotConf.vlOf (c.vls.map Vx.pl) c.ports[k].vl = (findVx c.vls c.ports[k].vl).map Vx.pl := findVx_pl _ _
  have h1 : PitotConf.vlOf (c.vls.map Vx.pl) c.ports[k].vl = some v' := h1
  rw [hvl] at h1
  cases hf : findVx c.vls c.ports[k].vl with
  | none => rw [hf] at h1; cases h1
  | some v =>
    rw [hf] at h1
    injection h1 with h1
    subst h1
    have h2' : PitotConf.hostOf c.parts c.ports[k].part = some c.ports[k].host := h2
    exact ⟨v, rfl, PitotConf.hostOf_some (by rw [h2']; simp), h2', h3, fun ho => by have := h4 ho; simpa using this, h5, h6, h7⟩
theorem win_found {c : Cx} (h : PitotConf.May c.pl) {k : Nat} (hk : k < c.wins.length) : (0 ≤ c.wins[k].part ∧ c.wins[k].part < c.parts.length) ∧ 0 ≤ c.wins[k].beg ∧ 1 ≤ c.wins[k].long ∧ c.wins[k].beg + c.wins[k].long ≤ 1073741824 := by
  have hk2 : k < c.pl.wins.length := by simpa [Cx.pl] using hk
  have := h.win k hk2
  have e : c.pl.wins[k] = c.wins[k].pl := by simp [Cx.pl]
  rw [e] at this
  have hj := h.major.2
  exact ⟨PitotConf.hostOf_some this.1, this.2.1, this.2.2.1, Int.le_trans this.2.2.2.1 hj⟩
theorem win_apart {c : Cx} (h : PitotConf.May c.pl) {k i : Nat} (hki : k < i) (hi : i < c.wins.length) (e : PitotConf.hostOf c.parts c.wins[i].part = PitotConf.hostOf c.parts (c.wins[k]'(by omega)).part) : (c.wins[k]'(by omega)).beg + (c.wins[k]'(by omega)).long ≤ c.wins[i].beg := by
  have hi2 : i < c.pl.wins.length := by simpa [Cx.pl] using hi
  have := h.apart k i hki hi2 (by simpa [Cx.pl] using e)
  simpa [Cx.pl] using this
set_option maxRecDepth 100000 in
set_option maxHeartbeats 40000000 in
theorem configHolds_walk {w : World} (c : Cx) (co : c.Ok) (ch : c.Held w) (ck : c.Caps) (_w : World) :
    Calls Try.prog 5 #[c.val] w fun e w' => e = .returned (.bool true) ∧ Below w.heap.size w w' := by
  have HA := Lib.hid awake_any
  have HF := Lib.hid (fun (w' : World) (hb : Below w.heap.size w w') => few_any c w' (ch.below hb) ⟨co.2.1, co.2.2.2.2.1, co.2.2.2.2.2.2.1, co.2.2.2.2.2.2.2.2.1⟩)
  have HCK := Lib.hid (fun (hs : Sm c) (w' : World) (hb : Below w.heap.size w w') => Check_any c hs w' (ch.below hb))
  have HSM : Hid (few c = true → Sm c) := few_sm co
  have HMY : Hid ((PitotConf.check c.pl).2.2 = 0 → PitotConf.May c.pl) := PitotConf.check_may
  have HVL := Lib.hid (fun (hs : Sm c) (w' : World) (hb : Below w.heap.size w w') (id : Int) (x : Vx) (h : findVx c.vls id = some x) => VL_some c id x w' (ch.below hb) (by have := hs.vls; unfold maxLen; omega) h (hs.tol x (List.mem_of_find?_eq_some h)))
  have HPA : Hid (IntsAt w c.partsA c.parts) := ch.1
  have HWA : Hid (WnsAt w c.winsA c.wins) := ch.2.1
  have HQA : Hid (PxsAt w c.portsA c.ports) := ch.2.2.2
  have HPF := Lib.hid (fun (h : PitotConf.May c.pl) (k : Nat) (hk : k < c.ports.length) => vl_found h hk)
  have HWF := Lib.hid (fun (h : PitotConf.May c.pl) (k : Nat) (hk : k < c.wins.length) => win_found h hk)
  have HWP := Lib.hid (fun (h : PitotConf.May c.pl) (k i : Nat) (hki : k < i) (hi : i < c.wins.length) => win_apart h hki hi)
  clear ch ck co
  generalize few c = fw at HF HCK HSM
  obtain ⟨R, hR⟩ : ∃ R, PitotConf.check c.pl = R := ⟨_, rfl⟩
  rw [hR] at HCK HMY
  clear hR
  obtain ⟨r1, r2, r3⟩ := R
  simp only at HCK HMY
  have HCW0 : Hid (fw = true → ∀ (w' : World), Below w.heap.size w w' → Calls Try.prog 11 #[c.val] w' fun e w'' => e = .returned (.tuple #[.agg #[.int .i64 r1, .int .i64 r2], .int .i64 r3]) ∧ Below w'.heap.size w' w'') := fun h => HCK.out (HSM.out h)
  clear HCK
  obtain ⟨hosts, pA, pc, parts, major, wA, wk, wins, vA, vc, vls, qA, qc, ports⟩ := c
  obtain ⟨pl, hpl⟩ : ∃ pl, parts.length = pl := ⟨_, rfl⟩
  obtain ⟨wl, hwl⟩ : ∃ wl, wins.length = wl := ⟨_, rfl⟩
  obtain ⟨ql, hql⟩ : ∃ ql, ports.length = ql := ⟨_, rfl⟩
  have hql1 : fw = true → ql ≤ 1000 ∧ wl ≤ 1000 := fun h => by
    have h1 := (HSM.out h).ports
    have h2 := (HSM.out h).wins
    simp only at h1 h2
    omega
  simp only [Cx.val] at HF HCW0 HVL HPA HWA HQA HPF HWF HWP HSM HMY ⊢
  rw [hpl, hwl, hql] at HF HCW0 ⊢
  rw [hpl, hwl, hql] at HVL
  generalize vls.length = vl at HF HCW0 HVL ⊢
  have HFW : Hid (∀ (w' : World), Below w.heap.size w w' → Calls Try.prog 9 #[.agg #[.int .i64 hosts, .slice pA pl pc, .int .i64 major, .slice wA wl wk, .slice vA vl vc, .slice qA ql qc]] w' fun e w'' => e = .returned (.bool fw) ∧ Below w'.heap.size w' w'') := HF
  have HCW : Hid (fw = true → ∀ (w' : World), Below w.heap.size w w' → Calls Try.prog 11 #[.agg #[.int .i64 hosts, .slice pA pl pc, .int .i64 major, .slice wA wl wk, .slice vA vl vc, .slice qA ql qc]] w' fun e w'' => e = .returned (.tuple #[.agg #[.int .i64 r1, .int .i64 r2], .int .i64 r3]) ∧ Below w'.heap.size w' w'') := HCW0
  clear HF HCW0
  have HL := Lib.hid (And.intro hpl (And.intro hwl hql))
  clear hpl hwl hql
  have CB0 : Hid ((w.alloc (.cells #[.int .i64 hosts, .slice pA pl pc, .int .i64 major, .slice wA wl wk, .slice vA vl vc, .slice qA ql qc] 27)).heap[w.heap.size]? = some (.cells #[.int .i64 hosts, .slice pA pl pc, .int .i64 major, .slice wA wl wk, .slice vA vl vc, .slice qA ql qc] 27)) := heap_alloc_new w _
  have BB0 : Hid (Below w.heap.size w (w.alloc (.cells #[.int .i64 hosts, .slice pA pl pc, .int .i64 major, .slice wA wl wk, .slice vA vl vc, .slice qA ql qc] 27))) := (Below.refl _ w).alloc (Nat.le_refl _) _
  go_enter Try.func5, Try.ntmps5
  go_upto_region 1 with (fail)
  have CB := CB0
  have BB := BB0
  clear CB0 BB0
  generalize w.alloc (.cells #[.int .i64 hosts, .slice pA pl pc, .int .i64 major, .slice wA wl wk, .slice vA vl vc, .slice qA ql qc] 27) = Wi at CB BB ⊢
  obtain ⟨c0, c1, c2, c3, c4, c5⟩ := cells_6 CB.out
  cases fw
  · clear HVL HPA HWA HQA HPF HWF HWP HSM HMY HCW HL hql1
    go_wp2_with (first
      | (go_at_call 9; (with_reducible refine (HFW.out _ BB.out).mono ?_); rintro e w2 ⟨rfl, hb2⟩
         (have CBX := Lib.hid (lies_below CB.out hb2 (lies_lt CB.out)))
         (have BX := Lib.hid (BB.out.trans (hb2.mono BB.out.size)))
         (clear hb2 BB CB c0 c1 c2 c3 c4 c5)
         (have CB := CBX)
         (have BB := BX)
         (clear BX CBX)
         (obtain ⟨c0, c1, c2, c3, c4, c5⟩ := cells_6 CB.out))
      | (go_at_call 10; (with_reducible refine (HA.out _).mono ?_); rintro e w9 ⟨rfl, hb2⟩
         (have CBX := Lib.hid (lies_below CB.out hb2 (lies_lt CB.out)))
         (have BX := Lib.hid (BB.out.trans (hb2.mono BB.out.size)))
         (clear hb2 BB CB c0 c1 c2 c3 c4 c5)
         (have CB := CBX)
         (have BB := BX)
         (clear BX CBX)
         (obtain ⟨c0, c1, c2, c3, c4, c5⟩ := cells_6 CB.out)))
    go_returns
    exact ⟨rfl, BB.out⟩
  have HC := Lib.hid (HCW.out rfl); clear HCW
  obtain ⟨hq1, hw1⟩ := hql1 rfl
  clear hql1
  go_upto_region 4 with (first
    | (go_at_call 9; (with_reducible refine (HFW.out _ BB.out).mono ?_); rintro e w2 ⟨rfl, hb2⟩
       (have CBX := Lib.hid (lies_below CB.out hb2 (lies_lt CB.out)))
       (have BX := Lib.hid (BB.out.trans (hb2.mono BB.out.size)))
       (clear hb2 BB CB c0 c1 c2 c3 c4 c5)
       (have CB := CBX)
       (have BB := BX)
       (clear BX CBX)
       (obtain ⟨c0, c1, c2, c3, c4, c5⟩ := cells_6 CB.out))
    | (go_at_call 11; (with_reducible refine (HC.out _ BB.out).mono ?_); rintro e w3 ⟨rfl, hb2⟩
       (have CBX := Lib.hid (lies_below CB.out hb2 (lies_lt CB.out)))
       (have BX := Lib.hid (BB.out.trans (hb2.mono BB.out.size)))
       (clear hb2 BB CB c0 c1 c2 c3 c4 c5)
       (have CB := CBX)
       (have BB := BX)
       (clear BX CBX)
       (obtain ⟨c0, c1, c2, c3, c4, c5⟩ := cells_6 CB.out)))
  have CBX := Lib.hid (lies_alloc (o := .cells #[.int .i64 r1, .int .i64 r2] 31) CB.out)
  have BX : Hid (Below w.heap.size w (w3.alloc (.cells #[.int .i64 r1, .int .i64 r2] 31))) := BB.out.alloc BB.out.size _
  clear BB CB c0 c1 c2 c3 c4 c5
  have CB := CBX
  have BB := BX
  clear BX CBX
  generalize w3.alloc (.cells #[.int .i64 r1, .int .i64 r2] 31) = W0 at BB CB ⊢
  obtain ⟨c0, c1, c2, c3, c4, c5⟩ := cells_6 CB.out
  by_cases g : r3 = 0
  case neg =>
    have g1 : (r3 == 0) = false := by simpa using g
    have g2 : decide (r3 = 0) = false := decide_eq_false g
    have g3 : (r3 != 0) = true := by simpa using g
    clear HVL HPA HWA HQA HPF HWF HWP HSM HMY HL g
    go_wp2_with (first
      | (go_at_call 10; (with_reducible refine (HA.out _).mono ?_); rintro e w9 ⟨rfl, hb2⟩
         (have CBX := Lib.hid (lies_below CB.out hb2 (lies_lt CB.out)))
         (have BX := Lib.hid (BB.out.trans (hb2.mono BB.out.size)))
         (clear hb2 BB CB c0 c1 c2 c3 c4 c5)
         (have CB := CBX)
         (have BB := BX)
         (clear BX CBX)
         (obtain ⟨c0, c1, c2, c3, c4, c5⟩ := cells_6 CB.out)))
    go_returns
    exact ⟨rfl, BB.out⟩
  have g1 : (r3 == 0) = true := by rw [g]; rfl
  have g2 : decide (r3 = 0) = true := decide_eq_true g
  have g3 : (r3 != 0) = false := by rw [g]; rfl
  have hmay := HMY.out g
  have HPFa := Lib.hid (HPF.out hmay)
  have HWFa := Lib.hid (HWF.out hmay)
  have HWPa := Lib.hid (HWP.out hmay)
  have HVLa := Lib.hid (HVL.out (HSM.out (by trivial)))
  have HTOL : Hid (∀ v ∈ vls, v.to.length ≤ 1000) := (HSM.out (by trivial)).tol
  clear HPF HWF HWP HVL HSM HMY hmay HC HFW g
  go_upto_region 7 with (fail)
  clear g1 g2 g3 c0 c1 c2 c3 c4 c5
  go_loopw [5] (fun v5 wr => ∃ k : Nat, k ≤ ql ∧ v5 = .int .i64 k ∧ wr.heap[w.heap.size]? = some (.cells #[.int .i64 hosts, .slice pA pl pc, .int .i64 major, .slice wA wl wk, .slice vA vl vc, .slice qA ql qc] 27) ∧ Below w.heap.size w wr) (fun v5 _ => ql - (intOf v5).toNat)
  case atStart => exact ⟨0, Nat.zero_le _, rfl, CB.out, BB.out⟩
  case round =>
    obtain ⟨k, hk, rfl, hC, hB⟩ := hrel
    have CB2 := Lib.hid hC; have BB2 := Lib.hid hB
    clear hC hB CB BB
    have CB := CB2
    have BB := BB2
    clear CB2 BB2
    by_cases hkm : k < ql
    · have hkl : k < ports.length := by rw [HL.out.2.2]; exact hkm
      have e1 : decide ((k : Int) < (ql : Int)) = true := decide_eq_true (by omega)
      have e1' : decide (k < ql) = true := decide_eq_true hkm
      have hkI : (k : Int) < (ql : Int) := by omega
      have hk0 : 0 ≤ (k : Int) := by omega
      obtain ⟨b, off, rfl, hbw, hat⟩ := HQA.out.get hkl
      have hat := hat.below BB.out hbw
      obtain ⟨v, hf, ⟨hp0, hp1⟩, hho, ho1, ho2, hkd, hz1, hz2⟩ := HPFa.out k hkl
      have hjl : ports[k].part.toNat < parts.length := by omega
      have hho2 : parts[ports[k].part.toNat] = ports[k].host := by
        rw [PitotConf.hostOf, if_pos hp0, List.getElem?_eq_getElem hjl] at hho
        injection hho
      obtain ⟨pb_, pf_, rfl, hpw, hpat⟩ := HPA.out.get hjl
      rw [hho2] at hpat
      clear hho hho2
      have hjl2 : ports[k].part.toNat < pl := by rw [← HL.out.1]; exact hjl
      have hvm := List.mem_of_find?_eq_some hf
      have htl := HTOL.out v hvm
      have HVC := fun (w' : World) (hb : Below w.heap.size w w') => HVLa.out w' hb _ v hf
      clear hf hvm hjl
      generalize ports[k] = x at hat hp0 hp1 hpat hjl2 ho1 ho2 hkd hz1 hz2 HVC
      obtain ⟨qid, qhost, qpart, qkind, qout, qvl, qsub, qudp, qsize, qdepth, qfresh⟩ := x
      obtain ⟨vid, vhost, vbag, vsmax, vhigh, vsubs, vskew, vA', vc', vto⟩ := v
      simp only [PxAt] at hat
      simp only at hp0 hp1 hpat hjl2 ho1 ho2 hkd hz1 hz2 HVC htl
      generalize htol : vto.length = tl at HVC htl
      have HVC := Lib.hid HVC
      obtain ⟨a0, a1, a2, a3, a4, a5, a6, a7, a8, a9, a10⟩ := hat
      obtain ⟨c0, c1, c2, c3, c4, c5⟩ := cells_6 CB.out
      go_upto_region 10 with (fail)
      have PB : Hid ((wr.alloc (.cells #[.int .i64 qid, .int .i64 qhost, .int .i64 qpart, .int .i64 qkind, .bool qout, .int .i64 qvl, .int .i64 qsub, .int .i64 qudp, .int .i64 qsize, .int .i64 qdepth, .int .i64 qfresh] 42)).heap[wr.heap.size]? = some (.cells #[.int .i64 qid, .int .i64 qhost, .int .i64 qpart, .int .i64 qkind, .bool qout, .int .i64 qvl, .int .i64 qsub, .int .i64 qudp, .int .i64 qsize, .int .i64 qdepth, .int .i64 qfresh] 42)) := heap_alloc_new wr _
      clear a0 a1 a2 a3 a4 a5 a6 a7 a8 a9 a10
      have CBX := Lib.hid (lies_alloc (o := .cells #[.int .i64 qid, .int .i64 qhost, .int .i64 qpart, .int .i64 qkind, .bool qout, .int .i64 qvl, .int .i64 qsub, .int .i64 qudp, .int .i64 qsize, .int .i64 qdepth, .int .i64 qfresh] 42) CB.out)
      have BX : Hid (Below w.heap.size w (wr.alloc (.cells #[.int .i64 qid, .int .i64 qhost, .int .i64 qpart, .int .i64 qkind, .bool qout, .int .i64 qvl, .int .i64 qsub, .int .i64 qudp, .int .i64 qsize, .int .i64 qdepth, .int .i64 qfresh] 42))) := BB.out.alloc BB.out.size _
      clear BB CB c0 c1 c2 c3 c4 c5
      have CB := CBX
      have BB := BX
      clear BX CBX
      generalize wr.alloc (.cells #[.int .i64 qid, .int .i64 qhost, .int .i64 qpart, .int .i64 qkind, .bool qout, .int .i64 qvl, .int .i64 qsub, .int .i64 qudp, .int .i64 qsize, .int .i64 qdepth, .int .i64 qfresh] 42) = W1 at BB CB PB ⊢
      obtain ⟨c0, c1, c2, c3, c4, c5⟩ := cells_6 CB.out
      generalize wr.heap.size = pb at PB ⊢
      obtain ⟨p0, p1, p2, p3, p4, p5, p6, p7, p8, p9, p10⟩ := cells_11 PB.out
      go_upto_region 11 with (first
        | (go_at_call 13; (with_reducible refine (HVC.out _ BB.out).mono ?_); rintro e w4 ⟨⟨A4, cap4, rfl, hi4⟩, hb2⟩
           (have CBX := Lib.hid (lies_below CB.out hb2 (lies_lt CB.out)))
           (have PBX := Lib.hid (lies_below PB.out hb2 (lies_lt PB.out)))
           (have BX := Lib.hid (BB.out.trans (hb2.mono BB.out.size)))
           (clear hb2 BB CB PB c0 c1 c2 c3 c4 c5 p0 p1 p2 p3 p4 p5 p6 p7 p8 p9 p10)
           (have CB := CBX)
           (have PB := PBX)
           (have BB := BX)
           (clear BX CBX PBX)
           (obtain ⟨c0, c1, c2, c3, c4, c5⟩ := cells_6 CB.out)
           (obtain ⟨p0, p1, p2, p3, p4, p5, p6, p7, p8, p9, p10⟩ := cells_11 PB.out)))
      have VB : Hid ((w4.alloc (.cells #[.int .i64 vid, .int .i64 vhost, .int .i64 vbag, .int .i64 vsmax, .bool vhigh, .int .i64 vsubs, .int .i64 vskew, .slice A4 tl cap4] 38)).heap[w4.heap.size]? = some (.cells #[.int .i64 vid, .int .i64 vhost, .int .i64 vbag, .int .i64 vsmax, .bool vhigh, .int .i64 vsubs, .int .i64 vskew, .slice A4 tl cap4] 38)) := heap_alloc_new w4 _
      have HI4 : Hid (IntsAt (w4.alloc (.cells #[.int .i64 vid, .int .i64 vhost, .int .i64 vbag, .int .i64 vsmax, .bool vhigh, .int .i64 vsubs, .int .i64 vskew, .slice A4 tl cap4] 38)) A4 vto) := IntsAt.below hi4 ((Below.refl _ w4).alloc (Nat.le_refl _) _)
      clear hi4
      have CBX := Lib.hid (lies_alloc (o := .cells #[.int .i64 vid, .int .i64 vhost, .int .i64 vbag, .int .i64 vsmax, .bool vhigh, .int .i64 vsubs, .int .i64 vskew, .slice A4 tl cap4] 38) CB.out)
      have PBX := Lib.hid (lies_alloc (o := .cells #[.int .i64 vid, .int .i64 vhost, .int .i64 vbag, .int .i64 vsmax, .bool vhigh, .int .i64 vsubs, .int .i64 vskew, .slice A4 tl cap4] 38) PB.out)
      have BX : Hid (Below w.heap.size w (w4.alloc (.cells #[.int .i64 vid, .int .i64 vhost, .int .i64 vbag, .int .i64 vsmax, .bool vhigh, .int .i64 vsubs, .int .i64 vskew, .slice A4 tl cap4] 38))) := BB.out.alloc BB.out.size _
      clear BB CB PB c0 c1 c2 c3 c4 c5 p0 p1 p2 p3 p4 p5 p6 p7 p8 p9 p10
      have CB := CBX
      have PB := PBX
      have BB := BX
      clear BX CBX PBX
      generalize w4.alloc (.cells #[.int .i64 vid, .int .i64 vhost, .int .i64 vbag, .int .i64 vsmax, .bool vhigh, .int .i64 vsubs, .int .i64 vskew, .slice A4 tl cap4] 38) = W2 at BB CB PB VB HI4 ⊢
      obtain ⟨c0, c1, c2, c3, c4, c5⟩ := cells_6 CB.out
      obtain ⟨p0, p1, p2, p3, p4, p5, p6, p7, p8, p9, p10⟩ := cells_11 PB.out
      generalize w4.heap.size = vb at VB ⊢
      clear c0 c1 c2 c3 c4 c5 p0 p1 p2 p3 p4 p5 p6 p7 p8 p9 p10
      have hpat2 := Lib.hid ((BB.out.cell hpw).trans hpat)
      have hplt : Hid (pb_ < W2.heap.size) := Nat.lt_of_lt_of_le hpw BB.out.size
      refine holds11 CB PB hpat2 hplt (by omega) hjl2 (fun _ _ _ _ _ h => h) ?_
      intro wc hwc z46 z47 z48 z49 z50 z51 z52 z53 z54 z55 z56 z57 z58 z59 z60 z61 z62 z63 z64 z65 z66 z67 z68 z69 z70
      have CX := Lib.hid (lies_below CB.out hwc (lies_lt CB.out))
      have PX := Lib.hid (lies_below PB.out hwc (lies_lt PB.out))
      have VX := Lib.hid (lies_below VB.out hwc (lies_lt VB.out))
      have BX : Hid (Below w.heap.size w wc) := BB.out.trans (hwc.mono BB.out.size)
      have HI5 : Hid (IntsAt wc A4 vto) := IntsAt.below HI4.out hwc
      clear hwc CB PB VB BB HI4 hpat2 hplt
      have CB := CX
      have PB := PX
      have VB := VX
      have BB := BX
      have HI4 := HI5
      clear CX PX VX BX HI5
      go_upto_region 15 with (fail)
      go_loopw [9, 10] (fun v9 v10 wr => ∃ j : Nat, j ≤ tl ∧ v10 = .int .i64 j ∧ v9 = .bool ((vto.take j).contains qhost) ∧ Below wc.heap.size wc wr) (fun _ v10 _ => tl - (intOf v10).toNat)
      case atStart => exact ⟨0, Nat.zero_le _, rfl, rfl, Below.refl _ _⟩
      case round =>
        obtain ⟨j, hj, rfl, rfl, hB3⟩ := hrel
        have B3 := Lib.hid hB3
        have PB3 := Lib.hid (lies_below PB.out hB3 (lies_lt PB.out))
        have VB3 := Lib.hid (lies_below VB.out hB3 (lies_lt VB.out))
        clear hB3
        obtain ⟨x0, x1, x2, x3, x4, x5, x6, x7⟩ := cells_8 VB3.out
        by_cases hjm : j < tl
        · have i1 : decide ((j : Int) < (tl : Int)) = true := decide_eq_true (by omega)
          have i1' : decide (j < tl) = true := decide_eq_true hjm
          have hjv : j < vto.length := by omega
          obtain ⟨tb, tf, rfl, hbt, hct⟩ := HI4.out.get hjv
          have hct2 := Lib.hid ((B3.out.cell hbt).trans hct)
          have hbt2 : Hid (tb < wr.heap.size) := Nat.lt_of_lt_of_le hbt B3.out.size
          have hst : (vto.take (j + 1)).contains qhost = ((vto.take j).contains qhost || (vto[j] == qhost)) := by
            rw [List.take_succ_eq_append_getElem hjv, List.contains_eq_any_beq, List.any_append, ← List.contains_eq_any_beq]
            simp only [List.any_cons, List.any_nil, Bool.or_false]
            congr 1
            rw [Bool.eq_iff_iff, beq_iff_eq, beq_iff_eq]; exact eq_comm
          clear hct
          generalize vto[j] = z at hct2 hst
          have HST := Lib.hid hst
          clear hst
          go_upto_region 17 with (fail)
          clear x0 x1 x2 x3 x4 x5 x6 x7 i1 i1'
          cases hth : (vto.take j).contains qhost
          · refine holds17_f PB3 VB3 (th := false) (k := j) rfl rfl hct2 hbt2 hjm (fun _ _ _ _ _ h => h) ?_
            intro wd hwd z79 z80 z81 z82 z83 z84 z85 z86 z87 z88 z89
            have B4 : Hid (Below wc.heap.size wc wd) := B3.out.trans (hwd.mono B3.out.size)
            clear hwd PB3 VB3 B3
            go_wp2
            go_roundw
            case rel => exact ⟨j + 1, by omega, by go_num, by rw [HST.out, hth]; simp, B4.out⟩
            case measure => simp [intOf]; omega
          · refine holds17_t PB3 VB3 (th := true) (k := j) rfl rfl (fun _ _ _ _ _ h => h) ?_
            intro wd hwd z79 z80 z81 z82 z83 z84 z85 z86 z87 z88 z89
            have B4 : Hid (Below wc.heap.size wc wd) := B3.out.trans (hwd.mono B3.out.size)
            clear hwd PB3 VB3 B3
            go_wp2
            go_roundw
            case rel => exact ⟨j + 1, by omega, by go_num, by rw [HST.out, hth]; simp, B4.out⟩
            case measure => simp [intOf]; omega
        · have i1 : decide ((j : Int) < (tl : Int)) = false := decide_eq_false (by omega)
          have i1' : decide (j < tl) = false := decide_eq_false hjm
          have hfull : vto.take j = vto := List.take_of_length_le (by omega)
          rw [hfull]
          have B5 : Hid (Below w.heap.size w wr) := BB.out.trans (B3.out.mono BB.out.size)
          have C5 := Lib.hid (lies_below CB.out B3.out (lies_lt CB.out))
          obtain ⟨p0, p1, p2, p3, p4, p5, p6, p7, p8, p9, p10⟩ := cells_11 PB3.out
          have hsum : IntKind.i64.wrap (qsize + 47) = qsize + 47 := IntWalk.i64_in _ (by omega)
          have hkl2 : k ≤ 1000 := by omega
          cases qout
          · have o1 := ho2 rfl
            rw [o1]
            clear ho1 ho2 o1
            by_cases hkk : qkind = 1
            · have k1 : (qkind == 1) = true := by simpa using hkk
              have k2 : decide (vsmax < qsize + 47) = false := decide_eq_false (by have := hkd hkk; omega)
              clear hkk
              go_wp2
              go_roundw
              case rel => exact ⟨k + 1, by omega, by go_num, C5.out, B5.out⟩
              case measure => simp [intOf]; omega
            · have k1 : (qkind == 1) = false := by simpa using hkk
              clear hkk
              go_wp2
              go_roundw
              case rel => exact ⟨k + 1, by omega, by go_num, C5.out, B5.out⟩
              case measure => simp [intOf]; omega
          · have o1 := ho1 rfl
            have o2 : (vhost == qhost) = true := by simpa using o1
            have o3 : (vhost != qhost) = false := by simpa using o1
            have o4 : decide (vhost = qhost) = true := decide_eq_true o1
            clear ho1 ho2 o1
            by_cases hkk : qkind = 1
            · have k1 : (qkind == 1) = true := by simpa using hkk
              have k2 : decide (vsmax < qsize + 47) = false := decide_eq_false (by have := hkd hkk; omega)
              clear hkk
              go_wp2
              go_roundw
              case rel => exact ⟨k + 1, by omega, by go_num, C5.out, B5.out⟩
              case measure => simp [intOf]; omega
            · have k1 : (qkind == 1) = false := by simpa using hkk
              clear hkk
              go_wp2
              go_roundw
              case rel => exact ⟨k + 1, by omega, by go_num, C5.out, B5.out⟩
              case measure => simp [intOf]; omega
    · have e1 : decide ((k : Int) < (ql : Int)) = false := decide_eq_false (by omega)
      have e1' : decide (k < ql) = false := decide_eq_false hkm
      obtain ⟨c0, c1, c2, c3, c4, c5⟩ := cells_6 CB.out
      clear HPFa HVLa HTOL HQA
      go_upto_region 21 with (fail)
      clear c0 c1 c2 c3 c4 c5
      go_loopw [11] (fun v11 wr => ∃ i : Nat, i ≤ wl ∧ v11 = .int .i64 i ∧ wr.heap[w.heap.size]? = some (.cells #[.int .i64 hosts, .slice pA pl pc, .int .i64 major, .slice wA wl wk, .slice vA vl vc, .slice qA ql qc] 27) ∧ Below w.heap.size w wr) (fun v11 _ => wl - (intOf v11).toNat)
      case atStart => exact ⟨0, Nat.zero_le _, rfl, CB.out, BB.out⟩
      case round =>
        obtain ⟨i, hi, rfl, hC, hB⟩ := hrel
        have CB2 := Lib.hid hC; have BB2 := Lib.hid hB
        clear hC hB CB BB e1 e1'
        have CB := CB2
        have BB := BB2
        clear CB2 BB2
        obtain ⟨c0, c1, c2, c3, c4, c5⟩ := cells_6 CB.out
        by_cases him : i < wl
        · have i1 : decide ((i : Int) < (wl : Int)) = true := decide_eq_true (by omega)
          have i1' : decide (i < wl) = true := decide_eq_true him
          have hil : i < wins.length := by rw [HL.out.2.1]; exact him
          obtain ⟨b, off, rfl, hbw, hatb⟩ := HWA.out.get hil
          obtain ⟨⟨q0, q1⟩, q2, q3, q4⟩ := HWFa.out i hil
          have hjb : wins[i].part.toNat < parts.length := by omega
          obtain ⟨pb_, pf_, rfl, hpw, hpatb⟩ := HPA.out.get hjb
          have hhb : PitotConf.hostOf parts wins[i].part = some parts[wins[i].part.toNat] := by
            rw [PitotConf.hostOf, if_pos q0, List.getElem?_eq_getElem hjb]
          have HWPi := Lib.hid (fun k (hk : k < i) => HWPa.out k i hk hil)
          go_upto_region 24 with (fail)
          clear i1 i1' c0 c1 c2 c3 c4 c5
          generalize wr = W6 at CB BB ⊢
          go_loopw [12] (fun v12 wr => ∃ k : Nat, k ≤ i ∧ v12 = .int .i64 k ∧ Below W6.heap.size W6 wr) (fun v12 _ => i - (intOf v12).toNat)
          case atStart => exact ⟨0, Nat.zero_le _, rfl, Below.refl _ _⟩
          case round =>
            obtain ⟨k, hk, rfl, hB3⟩ := hrel
            have CB3 := Lib.hid (lies_below CB.out hB3 (lies_lt CB.out))
            have BB3 : Hid (Below w.heap.size w wr) := BB.out.trans (hB3.mono BB.out.size)
            have B6 := Lib.hid hB3
            clear hB3
            by_cases hki : k < i
            · have j1 : decide ((k : Int) < (i : Int)) = true := decide_eq_true (by omega)
              have j1' : decide (k < i) = true := decide_eq_true hki
              have hkl : k < wins.length := by omega
              obtain ⟨b', off', eb, hbw', hata⟩ := HWA.out.get hkl
              injection eb with eb; injection eb with eb e3 _; subst eb; subst e3
              obtain ⟨⟨s0, s1⟩, s2, s3, s4⟩ := HWFa.out k hkl
              have hja : wins[k].part.toNat < parts.length := by omega
              obtain ⟨pb', pf', ep, hpw', hpata⟩ := HPA.out.get hja
              injection ep with ep; injection ep with ep e3 _; subst ep; subst e3
              have hha : PitotConf.hostOf parts wins[k].part = some parts[wins[k].part.toNat] := by
                rw [PitotConf.hostOf, if_pos s0, List.getElem?_eq_getElem hja]
              have hap := HWPi.out k hki
              rw [hha, hhb] at hap
              have hata := hata.below BB3.out hbw'
              have hatb := hatb.below BB3.out hbw
              have hjl1 : wins[k].part.toNat < pl := by rw [← HL.out.1]; exact hja
              have hjl2 : wins[i].part.toNat < pl := by rw [← HL.out.1]; exact hjb
              generalize parts[wins[k].part.toNat] = ha at hap hpata
              generalize parts[wins[i].part.toNat] = hb at hap hpatb
              generalize wins[k] = x at hata hap hpata s0 s1 s2 s3 s4 hjl1
              generalize wins[i] = y at hatb hap hpatb q0 q1 q2 q3 q4 hjl2
              obtain ⟨apart, abeg, along⟩ := x
              obtain ⟨bpart, bbeg, blong⟩ := y
              simp only [WnAt] at hata
              simp only at hap hpata s0 s1 s2 s3 s4 hjl1 hpatb q0 q1 q2 q3 q4 hjl2
              have hkI : (k : Int) < (wl : Int) := by omega
              have hk0 : 0 ≤ (k : Int) := by omega
              have hiI : (i : Int) < (wl : Int) := by omega
              have hi0 : 0 ≤ (i : Int) := by omega
              obtain ⟨a0, a1, a2⟩ := hata
              obtain ⟨c0, c1, c2, c3, c4, c5⟩ := cells_6 CB3.out
              go_upto_region 27 with (fail)
              have AB : Hid ((wr.alloc (.cells #[.int .i64 apart, .int .i64 abeg, .int .i64 along] 50)).heap[wr.heap.size]? = some (.cells #[.int .i64 apart, .int .i64 abeg, .int .i64 along] 50)) := heap_alloc_new wr _
              have A1 : Hid (Below wr.heap.size wr (wr.alloc (.cells #[.int .i64 apart, .int .i64 abeg, .int .i64 along] 50))) := (Below.refl _ wr).alloc (Nat.le_refl _) _
              have B7 : Hid (Below W6.heap.size W6 (wr.alloc (.cells #[.int .i64 apart, .int .i64 abeg, .int .i64 along] 50))) := B6.out.trans (A1.out.mono B6.out.size)
              have CB4 := Lib.hid (lies_alloc (o := .cells #[.int .i64 apart, .int .i64 abeg, .int .i64 along] 50) CB3.out)
              have hatb := WnAt.below hatb A1.out (Nat.lt_of_lt_of_le hbw BB3.out.size)
              have BB4 : Hid (Below w.heap.size w (wr.alloc (.cells #[.int .i64 apart, .int .i64 abeg, .int .i64 along] 50))) := BB3.out.trans (A1.out.mono BB3.out.size)
              clear a0 a1 a2 c0 c1 c2 c3 c4 c5 CB3 BB3 B6 A1 j1 j1'
              generalize wr.alloc (.cells #[.int .i64 apart, .int .i64 abeg, .int .i64 along] 50) = W7 at AB B7 CB4 hatb BB4 ⊢
              generalize wr.heap.size = ab at AB ⊢
              simp only [WnAt] at hatb
              obtain ⟨b0, b1, b2⟩ := hatb
              obtain ⟨c0, c1, c2, c3, c4, c5⟩ := cells_6 CB4.out
              go_upto_region 28 with (fail)
              have DB : Hid ((W7.alloc (.cells #[.int .i64 bpart, .int .i64 bbeg, .int .i64 blong] 50)).heap[W7.heap.size]? = some (.cells #[.int .i64 bpart, .int .i64 bbeg, .int .i64 blong] 50)) := heap_alloc_new W7 _
              have A1 : Hid (Below W7.heap.size W7 (W7.alloc (.cells #[.int .i64 bpart, .int .i64 bbeg, .int .i64 blong] 50))) := (Below.refl _ W7).alloc (Nat.le_refl _) _
              have B8 : Hid (Below W6.heap.size W6 (W7.alloc (.cells #[.int .i64 bpart, .int .i64 bbeg, .int .i64 blong] 50))) := B7.out.trans (A1.out.mono B7.out.size)
              have CB5 := Lib.hid (lies_alloc (o := .cells #[.int .i64 bpart, .int .i64 bbeg, .int .i64 blong] 50) CB4.out)
              have AB5 := Lib.hid (lies_alloc (o := .cells #[.int .i64 bpart, .int .i64 bbeg, .int .i64 blong] 50) AB.out)
              have BB5 : Hid (Below w.heap.size w (W7.alloc (.cells #[.int .i64 bpart, .int .i64 bbeg, .int .i64 blong] 50))) := BB4.out.trans (A1.out.mono BB4.out.size)
              clear b0 b1 b2 c0 c1 c2 c3 c4 c5 CB4 BB4 B7 A1 AB
              generalize W7.alloc (.cells #[.int .i64 bpart, .int .i64 bbeg, .int .i64 blong] 50) = W8 at DB B8 CB5 AB5 BB5 ⊢
              generalize W7.heap.size = bb at DB ⊢
              obtain ⟨a0, a1, a2⟩ := cells_3 AB5.out
              obtain ⟨b0, b1, b2⟩ := cells_3 DB.out
              obtain ⟨c0, c1, c2, c3, c4, c5⟩ := cells_6 CB5.out
              have t1 : decide (apart < 0) = false := decide_eq_false (by omega)
              have t2 : decide ((pl : Int) ≤ apart) = false := decide_eq_false (by omega)
              have t3 : decide (bpart < 0) = false := decide_eq_false (by omega)
              have t4 : decide ((pl : Int) ≤ bpart) = false := decide_eq_false (by omega)
              go_upto_region 30 with (fail)
              clear a0 a1 a2 b0 b1 b2 c0 c1 c2 c3 c4 c5 t1 t2 t3 t4
              have HI := Lib.hid ((BB5.out.cell hpw').trans hpata)
              have HJ := Lib.hid ((BB5.out.cell hpw).trans hpatb)
              have HLT : Hid (pb_ < W8.heap.size) := Nat.lt_of_lt_of_le hpw BB5.out.size
              cases hne : (ha == hb)
              · refine holds30_n CB5 AB5 DB HI HJ HLT (by omega) (by omega) hjl1 hjl2 hne (fun _ _ _ _ _ h => h) ?_
                intro wd hwd z167 z168 z169 z170 z171 z172 z173 z174 z175 z176 z177 z178 z179 z180 z181 z182 z183 z184 z185 z186 z187 z188 z189 z190 z191 z192 z193 z194 z195 z196 z197 z198
                have B9 : Hid (Below W6.heap.size W6 wd) := B8.out.trans (hwd.mono B8.out.size)
                clear hwd
                go_wp2
                go_roundw
                case rel => exact ⟨k + 1, by omega, by go_num, B9.out⟩
                case measure => simp [intOf]; omega
              · have hap2 : abeg + along ≤ bbeg := hap (by rw [show ha = hb by simpa using hne])
                refine holds30_e CB5 AB5 DB HI HJ HLT (by omega) (by omega) hjl1 hjl2 hne (IntWalk.i64_in _ (by omega)) (IntWalk.i64_in _ (by omega)) (decide_eq_true (by omega)) (decide_eq_false (by omega)) (fun _ _ _ _ _ h => h) ?_
                intro wd hwd z167 z168 z169 z170 z171 z172 z173 z174 z175 z176 z177 z178 z179 z180 z181 z182 z183 z184 z185 z186 z187 z188 z189 z190 z191 z192 z193 z194 z195 z196 z197 z198
                have B9 : Hid (Below W6.heap.size W6 wd) := B8.out.trans (hwd.mono B8.out.size)
                clear hwd
                go_wp2
                go_roundw
                case rel => exact ⟨k + 1, by omega, by go_num, B9.out⟩
                case measure => simp [intOf]; omega
            · have j1 : decide ((k : Int) < (i : Int)) = false := decide_eq_false (by omega)
              have j1' : decide (k < i) = false := decide_eq_false hki
              have hi1 : i ≤ 1000 := by omega
              go_wp2
              go_roundw
              case rel => exact ⟨i + 1, by omega, by go_num, CB3.out, BB3.out⟩
              case measure => simp [intOf]; omega
        · have i1 : decide ((i : Int) < (wl : Int)) = false := decide_eq_false (by omega)
          have i1' : decide (i < wl) = false := decide_eq_false him
          clear HWFa HWPa HWA HPA
          go_wp2_with (go_at_call 10; (with_reducible refine (HA.out _).mono ?_); rintro e w9 ⟨rfl, hb9⟩)
          go_returns
          exact ⟨rfl, BB.out.trans (hb9.mono BB.out.size)⟩




set_option maxRecDepth 100000 in
theorem configHolds_lifted (os : Os) (started : os.Started) (H : Type) (enc : TypeId × Value → H) :
    ReturnsInHanded {} Try.checked os 5 .any (Rows.configHoldsSpec.pre6 enc Try.prog Try.f5 Rows.configHoldsRow.domain false) (Rows.configHoldsSpec.post enc Try.prog Try.f5 false true false false) := by
  refine returnsInHanded_of_change (C := Try.checked) configHolds_own started (by kernel_rfl) Try.func5
    (ChangeSpec.witness6 (enc := enc) (C := Try.checked) false ⟨#[], #[.agg #[.int .i64 0, .slice none 0 0, .int .i64 0, .slice none 0 0, .slice none 0 0, .slice none 0 0]], []⟩ 8 (by kernel_rfl) (by kernel_rfl) (by kernel_rfl) (by kernel_rfl)) ?_
  intro W base args ds gs before hval0 hW hcnd _
  have hval : ∀ (j : Nat) t v, Try.f5.params[j]? = some t → args[j]? = some v → Value.okWide Try.prog W .any base t v := hval0
  have hW' := hW
  obtain ⟨p, q, hA0, hV, rfl, hfz, hnd⟩ := hW
  have hA : DataW.TrodAll enc Try.prog W 0 (fun _ => true) true Try.f5.params.toList args.toList ds p := hA0
  rw [Try.params5] at hA hval
  obtain ⟨v0, vs0, d0, ds0, p0, q0, hargs, rfl, rfl, h0, r0⟩ := trodAll_cons hA
  obtain ⟨rfl, rfl, rfl⟩ := trodAll_nil r0
  obtain rfl : args = #[v0] := by cases args; simp_all
  obtain ⟨rfl, rfl⟩ := trodVars_none hV
  have k0 := h0
  have lt0 : ∀ x ∈ p0, x.block < W.heap.size := by obtain ⟨m, hm⟩ := k0; exact DataW.trod_lt m _ _ _ hm
  obtain ⟨fu0, hf0⟩ := h0
  obtain ⟨c0, co0, ch0, ck0, rfl⟩ := Cx_open2 (hval 0 27 v0 rfl rfl) hf0
  clear hA0 hval0
  have hwalk := configHolds_walk c0 co0 ch0 ck0 W

  refine hwalk.mono fun e W' ⟨he, bel⟩ => ?_
  subst he
  exact ⟨_, rfl, _, _, _, [], _, [], hW', trodAll_mk1 (shut_bool Try.underlying4 _), (trodAll_cons_mk (Below.trod configHolds_laid (by kernel_rfl) (of_decide_eq_true (by kernel_rfl)) k0 bel lt0) trodAll_mk0), rfl, bel.frame _, fun h => by cases h⟩

theorem configHolds_over : Rows.configHoldsRow.holds Try.pinned (OpenSpec.ofChange Rows.configHoldsSpec) :=
  OpenClaim.holds_of_wide 5 Try.f5 rfl rfl rfl rfl rfl rfl rfl ⟨rfl, rfl, rfl, rfl, rfl⟩ rfl rfl rfl rfl rfl (by kernel_rfl) Try.func5 (by kernel_rfl)
    (of_decide_eq_true (by kernel_rfl)) (by unfold Func.isWrapper; first | (rw [if_pos (by decide +kernel)]; kernel_rfl) | (rw [if_neg (by decide +kernel)]; exact ⟨rfl, rfl⟩))
    (fun os started H enc _ => configHolds_lifted os started H enc)

theorem configHolds_holds : Rows.ConfigHoldsSaid := configHolds_over
#print axioms configHolds_holds
end Go.Proofs.Ythicfgcnhefinaa
