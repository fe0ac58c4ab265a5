/- Merged: Cn, Pc, Pd, Pe, Pf, Sv. -/
import Derived.Test.YtdphapjeohkbjaaM4
import Derived.Test.YtdphapjeohkbjaaM5
import Derived.Deep.CutRange
import Derived.BigQuiet
import Derived.WalkSmall
import Derived.Shelf.Strings.Builder1
import Derived.Shelf.Strings.Builder2
import Derived.Shelf.Strings.OnBuilder
import Derived.Shelf.Slices.Turned
import Derived.Ground.Names2Prog
import Derived.Shelf.Slices.ReverseS
import Derived.Shelf.Slices.Clone
import Derived.Shelf.Slices.Cells
import Derived.Test.YtdphapjeohkbjaaProg
set_option linter.unusedVariables false
/- The document's link: the rest (trial). -/
set_option maxRecDepth 100000
namespace Go.Proofs.Ytdphapjeohkbjaa
open Go.RowKit

theorem rises_iff : ∀ (l : List Int), PitotConf.rises l = true ↔ ∀ k (h : k + 1 < l.length), l[k] < l[k + 1]
  | [] => by simp [PitotConf.rises]
  | [a] => by simp [PitotConf.rises]
  | a :: b :: r => by
    rw [PitotConf.rises, Bool.and_eq_true, rises_iff (b :: r), decide_eq_true_eq]
    constructor
    · rintro ⟨h1, h2⟩ k hk
      cases k with
      | zero => exact h1
      | succ k => exact h2 k (by simpa using hk)
    · intro H
      exact ⟨H 0 (by simp), fun k hk => H (k + 1) (by simpa using hk)⟩
/-- What is wrong with a link of which all numbers may be. -/
def linkR (hosts pid : Int) (i : Nat) (x : Vx) : Int :=
  if (decide (0 < i) && decide (x.id ≤ pid)) = true then 25 else if PitotConf.rises x.to = false then 25 else if x.to.any (fun t => !PitotConf.isHost hosts t || decide (t = x.host)) = true then 20 else 0
set_option maxHeartbeats 8000000 in
theorem link_good (c : Cx) (i : Nat) (x : Vx) (pid : Int) (w : World) (hc : c.Held w) (hi : i < c.vls.length) (hx : c.vls[i] = x) (h256 : i < 256)
    (hg : 1 ≤ x.id ∧ x.id ≤ 65535 ∧ PitotConf.isHost c.hosts x.host = true ∧ 0 ≤ x.bag ∧ x.bag ≤ 7 ∧ 64 ≤ x.smax ∧ x.smax ≤ 1518 ∧ 1 ≤ x.subs ∧ x.subs ≤ 4 ∧ 0 ≤ x.skew ∧ x.skew ≤ 1073741824 ∧ 0 < x.to.length) (htl : x.to.length ≤ maxLen)
    (hp : ∀ j (hj : j + 1 = i), (c.vls[j]'(by omega)).id = pid) : Calls Try.prog 47 #[c.val, .int .i64 i] w fun e w' => e = .returned (.int .i64 (linkR c.hosts pid i x)) ∧ Below w.heap.size w w' := by
  unfold maxLen at htl
  obtain ⟨R, HR⟩ : ∃ R, Hid (linkR c.hosts pid i x = R) := ⟨_, rfl⟩
  rw [HR.out]
  obtain ⟨hosts, pA, pc, parts, major, wA, wk, wins, vA, vc, vls, qA, qc, ports⟩ := c
  obtain ⟨n, Hn⟩ : ∃ n, Hid (vls.length = n) := ⟨_, rfl⟩
  simp only at hc hi hx hg hp HR ⊢
  have HV : Hid (VxsAt w vA vls) := hc.2.2.1
  clear hc
  show Calls Try.prog 47 #[.agg #[.int .i64 hosts, .slice pA parts.length pc, .int .i64 major, .slice wA wins.length wk, .slice vA vls.length vc, .slice qA ports.length qc], .int .i64 i] w _
  rw [Hn.out] at hi ⊢
  have hil : i < vls.length := by rw [Hn.out]; exact hi
  obtain ⟨b, off, rfl, hb, hat, hxh⟩ := HV.out.get hil
  rw [hx] at hat hxh
  have HXH := Lib.hid hxh; clear hxh
  have HXI := Lib.hid hx; clear hx
  have k1 : Below w.heap.size w (w.alloc (.cells #[.int .i64 hosts, .slice pA parts.length pc, .int .i64 major, .slice wA wins.length wk, .slice (some ⟨b, off, none⟩) n vc, .slice qA ports.length qc] 27)) := (Below.refl _ w).alloc (Nat.le_refl _) _
  have hat := hat.below k1 hb
  obtain ⟨tl, Htl⟩ : ∃ tl, Hid (x.to.length = tl) := ⟨_, rfl⟩
  unfold VxAt at hat
  rw [Htl.out] at hat
  obtain ⟨a0, a1, a2, a3, a4, a5, a6, a7⟩ := hat
  have hiI : (i : Int) < (n : Int) := by omega
  have hH := fun w => host_any ⟨hosts, pA, pc, parts, major, wA, wk, wins, some ⟨b, off, none⟩, vc, vls, qA, qc, ports⟩ x.host w
  obtain ⟨P, HPP⟩ : ∃ P, Hid (PitotConf.isHost hosts x.host = P) := ⟨_, rfl⟩
  have hP : ∀ w, Calls Try.prog 45 #[.agg #[.int .i64 hosts, .slice pA parts.length pc, .int .i64 major, .slice wA wins.length wk, .slice (some ⟨b, off, none⟩) n vc, .slice qA ports.length qc], .int .i64 x.host] w fun e w' => e = .returned (.bool P) ∧ Below w.heap.size w w' := fun w => by
    have := hH w
    rw [show PitotConf.isHost hosts x.host = P from HPP.out] at this
    rw [← Hn.out]
    exact this
  rw [show P = true from HPP.out.symm.trans hg.2.2.1] at hP
  have HP := Lib.hid hP
  clear hP hH
  have HPI := Lib.hid hp; clear hp
  have ht0 : 0 < tl := by have := hg.2.2.2.2.2.2.2.2.2.2.2; rw [Htl.out] at this; exact this
  rw [Htl.out] at htl
  go_enter Try.func47, Try.ntmps47
  go_upto_region 2 with (fail)
  have CB : Hid (((w.alloc (.cells #[.int .i64 hosts, .slice pA parts.length pc, .int .i64 major, .slice wA wins.length wk, .slice (some ⟨b, off, none⟩) n vc, .slice qA ports.length qc] 27)).alloc (.cells #[.int .i64 x.id, .int .i64 x.host, .int .i64 x.bag, .int .i64 x.smax, .bool x.high, .int .i64 x.subs, .int .i64 x.skew, .slice x.toA tl x.toc] 34)).heap[w.heap.size]? = some (.cells #[.int .i64 hosts, .slice pA parts.length pc, .int .i64 major, .slice wA wins.length wk, .slice (some ⟨b, off, none⟩) n vc, .slice qA ports.length qc] 27)) := lies_alloc (heap_alloc_new w _) _
  have XB : Hid (((w.alloc (.cells #[.int .i64 hosts, .slice pA parts.length pc, .int .i64 major, .slice wA wins.length wk, .slice (some ⟨b, off, none⟩) n vc, .slice qA ports.length qc] 27)).alloc (.cells #[.int .i64 x.id, .int .i64 x.host, .int .i64 x.bag, .int .i64 x.smax, .bool x.high, .int .i64 x.subs, .int .i64 x.skew, .slice x.toA tl x.toc] 34)).heap[w.heap.size + 1]? = some (.cells #[.int .i64 x.id, .int .i64 x.host, .int .i64 x.bag, .int .i64 x.smax, .bool x.high, .int .i64 x.subs, .int .i64 x.skew, .slice x.toA tl x.toc] 34)) := by
    have := heap_alloc_new (w.alloc (.cells #[.int .i64 hosts, .slice pA parts.length pc, .int .i64 major, .slice wA wins.length wk, .slice (some ⟨b, off, none⟩) n vc, .slice qA ports.length qc] 27)) (.cells #[.int .i64 x.id, .int .i64 x.host, .int .i64 x.bag, .int .i64 x.smax, .bool x.high, .int .i64 x.subs, .int .i64 x.skew, .slice x.toA tl x.toc] 34)
    rw [World.size_alloc] at this
    exact this
  have BB : Hid (Below w.heap.size w ((w.alloc (.cells #[.int .i64 hosts, .slice pA parts.length pc, .int .i64 major, .slice wA wins.length wk, .slice (some ⟨b, off, none⟩) n vc, .slice qA ports.length qc] 27)).alloc (.cells #[.int .i64 x.id, .int .i64 x.host, .int .i64 x.bag, .int .i64 x.smax, .bool x.high, .int .i64 x.subs, .int .i64 x.skew, .slice x.toA tl x.toc] 34))) := k1.alloc k1.size _
  clear a0 a1 a2 a3 a4 a5 a6 a7 k1
  generalize (w.alloc (.cells #[.int .i64 hosts, .slice pA parts.length pc, .int .i64 major, .slice wA wins.length wk, .slice (some ⟨b, off, none⟩) n vc, .slice qA ports.length qc] 27)).alloc (.cells #[.int .i64 x.id, .int .i64 x.host, .int .i64 x.bag, .int .i64 x.smax, .bool x.high, .int .i64 x.subs, .int .i64 x.skew, .slice x.toA tl x.toc] 34) = W1 at CB XB BB ⊢
  obtain ⟨c0, c1, c2, c3, c4, c5⟩ := cells_6 CB.out
  obtain ⟨x0, x1, x2, x3, x4, x5, x6, x7⟩ := cells_8 XB.out
  obtain ⟨g1, g2, g3, g4, g5, g6, g7, g8, g9, g10, g11, g12⟩ := hg
  have ft : ((tl : Int) == 0) = false := by simp; omega
  have ft' : (tl == 0) = false := by simp; omega
  have f0 : decide (256 ≤ (i : Int)) = false := decide_eq_false (by omega)
  have f0' : decide (256 ≤ i) = false := decide_eq_false (by omega)
  have f1 : decide (x.id < 1) = false := decide_eq_false (by omega)
  have f2 : decide (65535 < x.id) = false := decide_eq_false (by omega)
  have f4 : decide (x.bag < 0) = false := decide_eq_false (by omega)
  have f5 : decide (7 < x.bag) = false := decide_eq_false (by omega)
  have f6 : decide (x.smax < 64) = false := decide_eq_false (by omega)
  have f7 : decide (1518 < x.smax) = false := decide_eq_false (by omega)
  have f8 : decide (x.subs < 1) = false := decide_eq_false (by omega)
  have f9 : decide (4 < x.subs) = false := decide_eq_false (by omega)
  have f10 : decide (x.skew < 0) = false := decide_eq_false (by omega)
  have f11 : decide (1073741824 < x.skew) = false := decide_eq_false (by omega)
  have G3 := Lib.hid g3
  clear g3
  go_upto_region 4 with (first
    | (go_at_call 45; (with_reducible refine (HP.out _).mono ?_); rintro e w2 ⟨rfl, hb2⟩
       (have C2 := Lib.hid (lies_below CB.out hb2 (lies_lt CB.out)))
       (have X2 := Lib.hid (lies_below XB.out hb2 (lies_lt XB.out)))
       (have B2 := Lib.hid (BB.out.trans (hb2.mono BB.out.size)))
       (clear hb2 c0 c1 c2 c3 c4 c5 x0 x1 x2 x3 x4 x5 x6 x7)
       (obtain ⟨c0, c1, c2, c3, c4, c5⟩ := cells_6 C2.out)
       (obtain ⟨x0, x1, x2, x3, x4, x5, x6, x7⟩ := cells_8 X2.out)))
  clear f0 f0' f1 f2 f4 f5 f6 f7 f8 f9 f10 f11 ft ft' c0 c1 c2 c3 c4 c5 x0 x1 x2 x3 x4 x5 x6 x7
  obtain ⟨pv, Hpv⟩ : ∃ pv, Hid ((decide (0 < i) && decide (x.id ≤ pid)) = pv) := ⟨_, rfl⟩
  go_cut [91] from 78 to 90 (fun v91 wz => v91 = .bool pv ∧ wz.heap[w.heap.size]? = some (.cells #[.int .i64 hosts, .slice pA parts.length pc, .int .i64 major, .slice wA wins.length wk, .slice (some ⟨b, off, none⟩) n vc, .slice qA ports.length qc] 27) ∧ wz.heap[w.heap.size + 1]? = some (.cells #[.int .i64 x.id, .int .i64 x.host, .int .i64 x.bag, .int .i64 x.smax, .bool x.high, .int .i64 x.subs, .int .i64 x.skew, .slice x.toA tl x.toc] 34) ∧ Below w.heap.size w wz)
  case first =>
    by_cases hi0 : 0 < i
    · obtain ⟨j, rfl⟩ : ∃ j, i = j + 1 := ⟨i - 1, by omega⟩
      have hjl : j < vls.length := by omega
      obtain ⟨b2, off2, e2, hb2, hat2, _⟩ := HV.out.get hjl
      injection e2 with e2; injection e2 with e2 e3 _; subst e2; subst e3
      have hpi := HPI.out j rfl
      have hy := hat2.1
      rw [hpi] at hy
      have HY : Hid (w2.cell? ⟨b, off + j * 8, none⟩ = some (.int .i64 pid)) := (B2.out.cell (p := ⟨b, off + j * 8, none⟩) hb).trans hy
      have HLB : Hid (b < w2.heap.size) := Nat.lt_of_lt_of_le hb B2.out.size
      have hpv : decide (x.id ≤ pid) = pv := by rw [← Hpv.out, decide_eq_true hi0, Bool.true_and]
      clear hat2 hy hpi
      refine link4_pos C2 X2 HY HLB hpv (decide_eq_true (by omega)) (decide_eq_true hi0) (by omega) (IntWalk.i64_in _ (by omega)) (by rw [← Hn.out]; exact hjl) (fun _ _ _ _ _ h => h) ?_
      intro wd hwd z78 z79 z80 z81 z82 z83 z84 z85 z86 z87 z88 z89 z90
      go_wp2
      go_meet
      case rel => exact ⟨rfl, lies_below C2.out hwd (lies_lt C2.out), lies_below X2.out hwd (lies_lt X2.out), B2.out.trans (hwd.mono B2.out.size)⟩
    · have hpv : pv = false := by rw [← Hpv.out, decide_eq_false hi0]; rfl
      refine link4_zero C2 X2 hpv (decide_eq_false (by omega)) (decide_eq_false hi0) (fun _ _ _ _ _ h => h) ?_
      intro wd hwd z78 z79 z80 z81 z82 z83 z84 z85 z86 z87 z88 z89 z90
      go_wp2
      go_meet
      case rel => exact ⟨rfl, lies_below C2.out hwd (lies_lt C2.out), lies_below X2.out hwd (lies_lt X2.out), B2.out.trans (hwd.mono B2.out.size)⟩
  case rest =>
    obtain ⟨rfl, hC, hX, hB⟩ := hcut
    have C3 := Lib.hid hC; have X3 := Lib.hid hX; have B3 := Lib.hid hB
    clear hC hX hB
    cases pv with
    | true =>
      have HT : Hid (R = 25) := by show _ = _; rw [← HR.out, linkR, if_pos Hpv.out]
      go_wp2
      go_returns
      rw [HT.out]
      exact ⟨rfl, B3.out⟩
    | false =>
      obtain ⟨tb, tf, e7, htb, _⟩ := IntsAt.get HXH.out (k := 0) (by rw [Htl.out]; exact ht0)
      rw [e7] at X3
      have HCELL : Hid (∀ q (h : q < x.to.length), w.cell? ⟨tb, tf + q, none⟩ = some (.int .i64 x.to[q])) := fun q h => by
        obtain ⟨tb', tf', e8, _, hcl⟩ := IntsAt.get HXH.out h
        rw [e7] at e8
        injection e8 with e8; injection e8 with e8 e9 _; subst e8; subst e9
        exact hcl
      have HTB : Hid (tb < w.heap.size) := htb
      clear htb e7 HXH HV HPI
      obtain ⟨c0, c1, c2, c3, c4, c5⟩ := cells_6 C3.out
      obtain ⟨x0, x1, x2, x3, x4, x5, x6, x7⟩ := cells_8 X3.out
      go_wp2
      clear c0 c1 c2 c3 c4 c5 x0 x1 x2 x3 x4 x5 x6 x7
      go_loopw [6] (fun v6 wr => ∃ k : Nat, 1 ≤ k ∧ k ≤ tl ∧ v6 = .int .i64 k ∧ Hid (∀ q (h : q + 1 < x.to.length), q + 1 < k → x.to[q] < x.to[q + 1]) ∧ wr.heap[w.heap.size]? = some (.cells #[.int .i64 hosts, .slice pA parts.length pc, .int .i64 major, .slice wA wins.length wk, .slice (some ⟨b, off, none⟩) n vc, .slice qA ports.length qc] 27) ∧ wr.heap[w.heap.size + 1]? = some (.cells #[.int .i64 x.id, .int .i64 x.host, .int .i64 x.bag, .int .i64 x.smax, .bool x.high, .int .i64 x.subs, .int .i64 x.skew, .slice (some ⟨tb, tf, none⟩) tl x.toc] 34) ∧ Below w.heap.size w wr) (fun v6 _ => tl - (intOf v6).toNat)
      case atStart => exact ⟨1, Nat.le_refl _, by omega, rfl, fun q h hq => by omega, C3.out, X3.out, B3.out⟩
      case round =>
        obtain ⟨k, hk1, hk, rfl, hri, hC, hX, hB⟩ := hrel
        have C4 := Lib.hid hC; have X4 := Lib.hid hX; have B4 := Lib.hid hB
        clear hC hX hB
        obtain ⟨c0, c1, c2, c3, c4, c5⟩ := cells_6 C4.out
        obtain ⟨x0, x1, x2, x3, x4, x5, x6, x7⟩ := cells_8 X4.out
        by_cases hkt : k < tl
        · have e1 : decide ((k : Int) < (tl : Int)) = true := decide_eq_true (by omega)
          have e1' : decide (k < tl) = true := decide_eq_true hkt
          obtain ⟨j, hj⟩ : ∃ j, k = j + 1 := ⟨k - 1, by omega⟩
          have hkl : k < x.to.length := by rw [Htl.out]; exact hkt
          have hjl : j < x.to.length := by omega
          have H1 : Hid (wr.cell? ⟨tb, tf + j, none⟩ = some (.int .i64 x.to[j])) := (B4.out.cell (p := ⟨tb, tf + j, none⟩) HTB.out).trans (HCELL.out j hjl)
          have H2 : Hid (wr.cell? ⟨tb, tf + k, none⟩ = some (.int .i64 x.to[k])) := (B4.out.cell (p := ⟨tb, tf + k, none⟩) HTB.out).trans (HCELL.out k hkl)
          have HLT : Hid (tb < wr.heap.size) := Nat.lt_of_lt_of_le HTB.out B4.out.size
          have HJ := Lib.hid hj
          obtain ⟨pp, HPP2⟩ : ∃ pp, Hid (x.to[j] = pp) := ⟨x.to[j], Lib.hid rfl⟩
          obtain ⟨qq, HQQ⟩ : ∃ pp, Hid (x.to[k] = pp) := ⟨x.to[k], Lib.hid rfl⟩
          rw [HPP2.out] at H1
          rw [HQQ.out] at H2
          go_upto_region 9 with (fail)
          by_cases hle : qq ≤ pp
          · refine link9 C4 X4 H1 H2 HLT (decide_eq_true hle) (by omega) (IntWalk.i64_in _ (by omega)) (by omega) hkt (fun _ _ _ _ _ h => h) ?_
            intro wd hwd z99 z100 z101 z102 z103 z104 z105 z106 z107 z108 z109
            have HWD := Lib.hid hwd
            have HT : Hid (R = 25) := by
              show _ = _
              rw [← HR.out, linkR, if_neg (by rw [Hpv.out]; simp), if_pos]
              cases hr : PitotConf.rises x.to with
              | false => rfl
              | true =>
                have h5 := (rises_iff x.to).1 hr j (by omega)
                have h6 : x.to[j] = pp := HPP2.out
                have h7 : x.to[j + 1] = qq := by rw [← HQQ.out]; congr 1; exact HJ.out.symm
                omega
            clear hwd hle hj c0 c1 c2 c3 c4 c5 x0 x1 x2 x3 x4 x5 x6 x7
            go_wp2
            go_returns
            rw [HT.out]
            exact ⟨rfl, B4.out.trans (HWD.out.mono B4.out.size)⟩
          · refine link9 C4 X4 H1 H2 HLT (decide_eq_false hle) (by omega) (IntWalk.i64_in _ (by omega)) (by omega) hkt (fun _ _ _ _ _ h => h) ?_
            intro wd hwd z99 z100 z101 z102 z103 z104 z105 z106 z107 z108 z109
            have HWD := Lib.hid hwd
            have HRI : Hid (∀ q (h : q + 1 < x.to.length), q + 1 < k + 1 → x.to[q] < x.to[q + 1]) := by
              show ∀ q (h : q + 1 < x.to.length), q + 1 < k + 1 → x.to[q] < x.to[q + 1]
              intro q h hq
              by_cases e : q + 1 = k
              · have h6 : x.to[q] = pp := by rw [← HPP2.out]; congr 1; omega
                have h7 : x.to[q + 1] = qq := by rw [← HQQ.out]; congr 1
                omega
              · exact hri.out q h (by omega)
            clear hwd hle hj c0 c1 c2 c3 c4 c5 x0 x1 x2 x3 x4 x5 x6 x7
            go_wp2
            go_roundw
            case rel => exact ⟨k + 1, by omega, by omega, by go_num, HRI.out, lies_below C4.out HWD.out (lies_lt C4.out), lies_below X4.out HWD.out (lies_lt X4.out), B4.out.trans (HWD.out.mono B4.out.size)⟩
            case measure => simp [intOf]; omega
        · have e1 : decide ((k : Int) < (tl : Int)) = false := decide_eq_false (by omega)
          have e1' : decide (k < tl) = false := decide_eq_false hkt
          have HRT : Hid (PitotConf.rises x.to = true) := (rises_iff x.to).2 fun q h => hri.out q h (by rw [Htl.out] at h; omega)
          go_wp2
          clear c0 c1 c2 c3 c4 c5 x0 x1 x2 x3 x4 x5 x6 x7
          go_loopw [7] (fun v7 wr => ∃ k : Nat, k ≤ tl ∧ v7 = .int .i64 k ∧ Hid (∀ q (h : q < x.to.length), q < k → (!PitotConf.isHost hosts x.to[q] || decide (x.to[q] = x.host)) = false) ∧ wr.heap[w.heap.size]? = some (.cells #[.int .i64 hosts, .slice pA parts.length pc, .int .i64 major, .slice wA wins.length wk, .slice (some ⟨b, off, none⟩) n vc, .slice qA ports.length qc] 27) ∧ wr.heap[w.heap.size + 1]? = some (.cells #[.int .i64 x.id, .int .i64 x.host, .int .i64 x.bag, .int .i64 x.smax, .bool x.high, .int .i64 x.subs, .int .i64 x.skew, .slice (some ⟨tb, tf, none⟩) tl x.toc] 34) ∧ Below w.heap.size w wr) (fun v7 _ => tl - (intOf v7).toNat)
          case atStart => exact ⟨0, Nat.zero_le _, rfl, fun q h hq => by omega, C4.out, X4.out, B4.out⟩
          case round =>
            obtain ⟨k, hk, rfl, hno, hC, hX, hB⟩ := hrel
            have C5 := Lib.hid hC; have X5 := Lib.hid hX; have B5 := Lib.hid hB
            clear hC hX hB
            obtain ⟨c0, c1, c2, c3, c4, c5⟩ := cells_6 C5.out
            obtain ⟨x0, x1, x2, x3, x4, x5, x6, x7⟩ := cells_8 X5.out
            by_cases hkt : k < tl
            · have e2 : decide ((k : Int) < (tl : Int)) = true := decide_eq_true (by omega)
              have e2' : decide (k < tl) = true := decide_eq_true hkt
              have hkl : k < x.to.length := by rw [Htl.out]; exact hkt
              have H2 : Hid (wr.cell? ⟨tb, tf + k, none⟩ = some (.int .i64 x.to[k])) := (B5.out.cell (p := ⟨tb, tf + k, none⟩) HTB.out).trans (HCELL.out k hkl)
              have HLT : Hid (tb < wr.heap.size) := Nat.lt_of_lt_of_le HTB.out B5.out.size
              obtain ⟨qq, HQQ⟩ : ∃ pp, Hid (x.to[k] = pp) := ⟨x.to[k], Lib.hid rfl⟩
              rw [HQQ.out] at H2
              have hHT := fun w => host_any ⟨hosts, pA, pc, parts, major, wA, wk, wins, some ⟨b, off, none⟩, vc, vls, qA, qc, ports⟩ qq w
              have hall : x.to.any (fun t => !PitotConf.isHost hosts t || decide (t = x.host)) = true ↔ ∃ t ∈ x.to, (!PitotConf.isHost hosts t || decide (t = x.host)) = true := List.any_eq_true
              have hbadR : (!PitotConf.isHost hosts qq || decide (qq = x.host)) = true → R = 20 := fun hb => by
                rw [← HR.out, linkR, if_neg (by rw [Hpv.out]; simp), if_neg (by rw [HRT.out]; simp), if_pos (hall.2 ⟨qq, by rw [← HQQ.out]; exact List.getElem_mem _, hb⟩)]
              have HBADR := Lib.hid hbadR
              clear hbadR hall
              go_upto_region 14 with (fail)
              cases hh : PitotConf.isHost hosts qq with
              | false =>
                have hP : ∀ w, Calls Try.prog 45 #[.agg #[.int .i64 hosts, .slice pA parts.length pc, .int .i64 major, .slice wA wins.length wk, .slice (some ⟨b, off, none⟩) n vc, .slice qA ports.length qc], .int .i64 qq] w fun e w' => e = .returned (.bool false) ∧ Below w.heap.size w w' := fun w => by
                  have := hHT w
                  rw [show PitotConf.isHost hosts qq = false from hh] at this
                  rw [← Hn.out]
                  exact this
                refine link14_no C5 X5 H2 HLT hkt (Lib.hid hP) rfl (fun _ _ _ _ _ h => h) ?_
                intro wd hwd z118 z119 z120 z121 z122 z123 z124 z125 z126 z127 z128 z129 z130 z131 z132 z133 z134
                have HWD := Lib.hid hwd
                have HT : Hid (R = 20) := HBADR.out (by rw [hh]; rfl)
                clear hwd hP hHT hh c0 c1 c2 c3 c4 c5 x0 x1 x2 x3 x4 x5 x6 x7
                go_wp2
                go_returns
                rw [HT.out]
                exact ⟨rfl, B5.out.trans (HWD.out.mono B5.out.size)⟩
              | true =>
                have hP : ∀ w, Calls Try.prog 45 #[.agg #[.int .i64 hosts, .slice pA parts.length pc, .int .i64 major, .slice wA wins.length wk, .slice (some ⟨b, off, none⟩) n vc, .slice qA ports.length qc], .int .i64 qq] w fun e w' => e = .returned (.bool true) ∧ Below w.heap.size w w' := fun w => by
                  have := hHT w
                  rw [show PitotConf.isHost hosts qq = true from hh] at this
                  rw [← Hn.out]
                  exact this
                by_cases hxh2 : qq = x.host
                · refine link14_yes C5 X5 H2 HLT hkt (Lib.hid hP) (R := true) (by simpa using hxh2) (fun _ _ _ _ _ h => h) ?_
                  intro wd hwd z118 z119 z120 z121 z122 z123 z124 z125 z126 z127 z128 z129 z130 z131 z132 z133 z134
                  have HWD := Lib.hid hwd
                  have HT : Hid (R = 20) := HBADR.out (by rw [hh, decide_eq_true hxh2]; rfl)
                  clear hwd hP hHT hh hxh2 c0 c1 c2 c3 c4 c5 x0 x1 x2 x3 x4 x5 x6 x7
                  go_wp2
                  go_returns
                  rw [HT.out]
                  exact ⟨rfl, B5.out.trans (HWD.out.mono B5.out.size)⟩
                · refine link14_yes C5 X5 H2 HLT hkt (Lib.hid hP) (R := false) (by simpa using hxh2) (fun _ _ _ _ _ h => h) ?_
                  intro wd hwd z118 z119 z120 z121 z122 z123 z124 z125 z126 z127 z128 z129 z130 z131 z132 z133 z134
                  have HWD := Lib.hid hwd
                  have HNO : Hid (∀ q (h : q < x.to.length), q < k + 1 → (!PitotConf.isHost hosts x.to[q] || decide (x.to[q] = x.host)) = false) := by
                    show ∀ q (h : q < x.to.length), q < k + 1 → (!PitotConf.isHost hosts x.to[q] || decide (x.to[q] = x.host)) = false
                    intro q h hq
                    by_cases e : q = k
                    · subst e; rw [HQQ.out, hh, decide_eq_false hxh2]; rfl
                    · exact hno.out q h (by omega)
                  clear hwd hP hHT hh hxh2 c0 c1 c2 c3 c4 c5 x0 x1 x2 x3 x4 x5 x6 x7
                  go_wp2
                  go_roundw
                  case rel => exact ⟨k + 1, by omega, by go_num, HNO.out, lies_below C5.out HWD.out (lies_lt C5.out), lies_below X5.out HWD.out (lies_lt X5.out), B5.out.trans (HWD.out.mono B5.out.size)⟩
                  case measure => simp [intOf]; omega
            · have e2 : decide ((k : Int) < (tl : Int)) = false := decide_eq_false (by omega)
              have e2' : decide (k < tl) = false := decide_eq_false hkt
              have HT : Hid (R = 0) := by
                show _ = _
                rw [← HR.out, linkR, if_neg (by rw [Hpv.out]; simp), if_neg (by rw [HRT.out]; simp), if_neg]
                intro ha
                obtain ⟨t, ht, hb⟩ := List.any_eq_true.1 ha
                obtain ⟨q, hq, rfl⟩ := List.mem_iff_getElem.1 ht
                rw [hno.out q hq (by rw [Htl.out] at hq; omega)] at hb
                cases hb
              go_wp2
              go_returns
              rw [HT.out]
              exact ⟨rfl, B5.out⟩
end Go.Proofs.Ytdphapjeohkbjaa
/- The program's rises and mayVL. -/
set_option maxRecDepth 100000
namespace Go.Proofs.Ytdphapjeohkbjaa
open Go.RowKit

theorem val_int {k : IntKind} {a b : Int} (h : a = b) : Value.int k a = .int k b := by rw [h]
set_option maxHeartbeats 2000000 in
theorem rises_any (A : Option Addr) (cap : Nat) (l : List Int) (w : World) (hx : IntsAt w A l) (hl : l.length ≤ maxLen) : Calls Try.prog 73 #[.slice A l.length cap] w fun e w' => e = .returned (.bool (PitotConf.rises l)) ∧ Below w.heap.size w w' := by
  unfold maxLen at hl
  obtain ⟨m, Hm⟩ : ∃ m, Hid (l.length = m) := ⟨_, rfl⟩
  obtain ⟨R, HR⟩ : ∃ R, Hid (PitotConf.rises l = R) := ⟨_, rfl⟩
  rw [HR.out]
  rw [Hm.out] at hl ⊢
  have HX := Lib.hid hx; clear hx
  go_enter Try.func73, Try.ntmps73
  go_wp2
  go_loopw [3] (fun v3 wr => ∃ k : Nat, k ≤ m ∧ v3 = .int .i64 ((k + 1 : Nat) : Int) ∧ Hid (PitotConf.rises (l.drop k) = R) ∧ Below w.heap.size w wr) (fun v3 _ => m + 1 - (intOf v3).toNat)
  case atStart => exact ⟨0, Nat.zero_le _, rfl, HR, Below.refl _ _⟩
  case round =>
    obtain ⟨k, hk, rfl, ht, hB⟩ := hrel
    have HB := Lib.hid hB; clear hB
    obtain ⟨p, Hp⟩ : ∃ p : Int, Hid (((k + 1 : Nat) : Int) = p) := ⟨_, rfl⟩
    have hp := Hp.out
    rw [hp]
    by_cases hkm : k + 1 < m
    · have hk1 : k < l.length := by rw [Hm.out]; omega
      have hk2 : k + 1 < l.length := by rw [Hm.out]; omega
      have e1 : decide (p < (m : Int)) = true := decide_eq_true (by omega)
      have p0 : 0 ≤ p := by omega
      have p1 : p < (m : Int) := by omega
      have p2 : p.toNat = k + 1 := by omega
      have q0 : 0 ≤ p - 1 := by omega
      have q1 : p - 1 < (m : Int) := by omega
      have q2 : (p - 1).toNat = k := by omega
      have q3 : IntKind.i64.wrap (p - 1) = p - 1 := IntWalk.i64_in _ (by omega)
      have q4 : IntKind.i64.wrap (p + 1) = p + 1 := IntWalk.i64_in _ (by omega)
      obtain ⟨b, off, rfl, hb, hat1⟩ := HX.out.get hk1
      obtain ⟨b2, off2, e2, hb2, hat2⟩ := HX.out.get hk2
      injection e2 with e2; injection e2 with e2 e3 _; subst e2; subst e3
      have hat1 : wr.cell? ⟨b, off + k, none⟩ = some (.int .i64 l[k]) := (HB.out.cell hb).trans hat1
      have hat2 : wr.cell? ⟨b, off + (k + 1), none⟩ = some (.int .i64 l[k + 1]) := (HB.out.cell hb).trans hat2
      have hs : PitotConf.rises (l.drop k) = (decide (l[k] < l[k + 1]) && PitotConf.rises (l.drop (k + 1))) := by
        rw [List.drop_eq_getElem_cons hk1, List.drop_eq_getElem_cons hk2, PitotConf.rises, ← List.drop_eq_getElem_cons hk2]
      generalize l[k] = x at hat1 hs
      generalize l[k + 1] = y at hat2 hs
      by_cases hxy : x < y
      · have f1 : decide (y ≤ x) = false := decide_eq_false (by omega)
        have HT : Hid (PitotConf.rises (l.drop (k + 1)) = R) := by
          show _ = _
          rw [← ht.out, hs, decide_eq_true hxy]; rfl
        clear hs hxy ht
        go_wp2
        go_quiet (fail)
        go_wp2
        go_roundw
        case rel => exact ⟨k + 1, by omega, val_int (by omega), HT, below_drewN HB.out nq⟩
        case measure => simp [intOf]; omega
      · have f1 : decide (y ≤ x) = true := decide_eq_true (by omega)
        have HT : Hid (R = false) := by
          show _ = _
          rw [← ht.out, hs, decide_eq_false hxy]; rfl
        clear hs hxy ht
        go_wp2
        go_quiet (fail)
        go_wp2
        go_returns
        rw [HT.out]
        exact ⟨rfl, below_drewN HB.out nq⟩
    · have e1 : decide (p < (m : Int)) = false := decide_eq_false (by omega)
      have HT : Hid (R = true) := by
        show _ = _
        rw [← ht.out]
        have h2 : (l.drop k).length ≤ 1 := by rw [List.length_drop, Hm.out]; omega
        match l.drop k, h2 with
        | [], _ => rfl
        | [_], _ => rfl
      clear ht
      go_wp2
      go_returns
      rw [HT.out]
      exact ⟨rfl, HB.out⟩

/-- May a link be, whatever the others are and wherever it goes? -/
def mayV (hosts vid vhost vbag vsmax vsubs vskew : Int) (tl : Nat) : Bool :=
  (decide (1 ≤ vid) && decide (vid ≤ 65535)) && (PitotConf.isHost hosts vhost && ((decide (0 ≤ vbag) && decide (vbag ≤ 7)) && ((decide (64 ≤ vsmax) && decide (vsmax ≤ 1518)) && ((decide (1 ≤ vsubs) && decide (vsubs ≤ 4)) && ((decide (0 ≤ vskew) && decide (vskew ≤ 1073741824)) && decide (0 < (tl : Int)))))))
set_option maxHeartbeats 4000000 in
theorem mayVL_any (hosts major : Int) (pA wA vA qA : Option Addr) (pl pc wl wk vl vc ql qc : Nat) (vid vhost vbag vsmax vsubs vskew : Int) (vhigh : Bool) (tA : Option Addr) (tl tc : Nat) (w : World) (h0 : -9223372036854775807 ≤ hosts) (h1 : hosts ≤ 9223372036854775807) : Calls Try.prog 72 #[.agg #[.int .i64 hosts, .slice pA pl pc, .int .i64 major, .slice wA wl wk, .slice vA vl vc, .slice qA ql qc], .agg #[.int .i64 vid, .int .i64 vhost, .int .i64 vbag, .int .i64 vsmax, .bool vhigh, .int .i64 vsubs, .int .i64 vskew, .slice tA tl tc]] w fun e w' => e = .returned (.bool (mayV hosts vid vhost vbag vsmax vsubs vskew tl)) ∧ Below w.heap.size w w' := by
  have H1 := fun w => within_any vid 1 65535 w
  have H2 := fun w => isHost_any hosts major pA wA vA qA pl pc wl wk vl vc ql qc vhost w h0 h1
  have H3 := fun w => within_any vbag 0 7 w
  have H4 := fun w => within_any vsmax 64 1518 w
  have H5 := fun w => within_any vsubs 1 4 w
  have H6 := fun w => within_any vskew 0 1073741824 w
  unfold mayV
  generalize (decide (1 ≤ vid) && decide (vid ≤ 65535)) = b1 at H1 ⊢
  generalize PitotConf.isHost hosts vhost = b2 at H2 ⊢
  generalize (decide (0 ≤ vbag) && decide (vbag ≤ 7)) = b3 at H3 ⊢
  generalize (decide (64 ≤ vsmax) && decide (vsmax ≤ 1518)) = b4 at H4 ⊢
  generalize (decide (1 ≤ vsubs) && decide (vsubs ≤ 4)) = b5 at H5 ⊢
  generalize (decide (0 ≤ vskew) && decide (vskew ≤ 1073741824)) = b6 at H6 ⊢
  obtain ⟨b7, hb7⟩ : ∃ b7, decide (0 < (tl : Int)) = b7 := ⟨_, rfl⟩
  have hb7' : decide (0 < tl) = b7 := by rw [← hb7]; exact decide_eq_decide.2 ⟨fun h => by omega, fun h => by omega⟩
  rw [hb7]
  have H1 := Lib.hid H1; have H2 := Lib.hid H2; have H3 := Lib.hid H3; have H4 := Lib.hid H4; have H5 := Lib.hid H5; have H6 := Lib.hid H6
  clear h0 h1
  go_enter Try.func72, Try.ntmps72
  go_upto_region 1 with (fail)
  have CB : Hid (((w.alloc (.cells #[.int .i64 hosts, .slice pA pl pc, .int .i64 major, .slice wA wl wk, .slice vA vl vc, .slice qA ql qc] 27)).alloc (.cells #[.int .i64 vid, .int .i64 vhost, .int .i64 vbag, .int .i64 vsmax, .bool vhigh, .int .i64 vsubs, .int .i64 vskew, .slice tA tl tc] 34)).heap[w.heap.size]? = some (.cells #[.int .i64 hosts, .slice pA pl pc, .int .i64 major, .slice wA wl wk, .slice vA vl vc, .slice qA ql qc] 27)) := lies_alloc (heap_alloc_new w _) _
  have XB : Hid (((w.alloc (.cells #[.int .i64 hosts, .slice pA pl pc, .int .i64 major, .slice wA wl wk, .slice vA vl vc, .slice qA ql qc] 27)).alloc (.cells #[.int .i64 vid, .int .i64 vhost, .int .i64 vbag, .int .i64 vsmax, .bool vhigh, .int .i64 vsubs, .int .i64 vskew, .slice tA tl tc] 34)).heap[w.heap.size + 1]? = some (.cells #[.int .i64 vid, .int .i64 vhost, .int .i64 vbag, .int .i64 vsmax, .bool vhigh, .int .i64 vsubs, .int .i64 vskew, .slice tA tl tc] 34)) := by
    have := heap_alloc_new (w.alloc (.cells #[.int .i64 hosts, .slice pA pl pc, .int .i64 major, .slice wA wl wk, .slice vA vl vc, .slice qA ql qc] 27)) (.cells #[.int .i64 vid, .int .i64 vhost, .int .i64 vbag, .int .i64 vsmax, .bool vhigh, .int .i64 vsubs, .int .i64 vskew, .slice tA tl tc] 34)
    rw [World.size_alloc] at this
    exact this
  have BB : Hid (Below w.heap.size w ((w.alloc (.cells #[.int .i64 hosts, .slice pA pl pc, .int .i64 major, .slice wA wl wk, .slice vA vl vc, .slice qA ql qc] 27)).alloc (.cells #[.int .i64 vid, .int .i64 vhost, .int .i64 vbag, .int .i64 vsmax, .bool vhigh, .int .i64 vsubs, .int .i64 vskew, .slice tA tl tc] 34))) := (((Below.refl _ w).alloc (Nat.le_refl _) _)).alloc (((Below.refl _ w).alloc (Nat.le_refl _) _)).size _
  generalize (w.alloc (.cells #[.int .i64 hosts, .slice pA pl pc, .int .i64 major, .slice wA wl wk, .slice vA vl vc, .slice qA ql qc] 27)).alloc (.cells #[.int .i64 vid, .int .i64 vhost, .int .i64 vbag, .int .i64 vsmax, .bool vhigh, .int .i64 vsubs, .int .i64 vskew, .slice tA tl tc] 34) = W1 at CB XB BB ⊢
  obtain ⟨c0, c1, c2, c3, c4, c5⟩ := cells_6 CB.out
  obtain ⟨x0, x1, x2, x3, x4, x5, x6, x7⟩ := cells_8 XB.out
  cases b1
  · go_wp2_with (first
      | (go_at_call 51; (with_reducible refine (H1.out _).mono ?_); rintro e w3 ⟨rfl, rfl⟩))
    go_returns
    exact ⟨rfl, BB.out⟩
  · skip
    cases b2
    · go_wp2_with (first
        | (go_at_call 51; (with_reducible refine (H1.out _).mono ?_); rintro e w3 ⟨rfl, rfl⟩)
        | (go_at_call 52; (with_reducible refine (H2.out _).mono ?_); rintro e w2 ⟨rfl, hb2⟩
           (have C2 := Lib.hid (lies_below CB.out hb2 (lies_lt CB.out)))
           (have X2 := Lib.hid (lies_below XB.out hb2 (lies_lt XB.out)))
           (have B2 := Lib.hid (BB.out.trans (hb2.mono BB.out.size)))
           (clear hb2 c0 c1 c2 c3 c4 c5 x0 x1 x2 x3 x4 x5 x6 x7)
           (obtain ⟨c0, c1, c2, c3, c4, c5⟩ := cells_6 C2.out)
           (obtain ⟨x0, x1, x2, x3, x4, x5, x6, x7⟩ := cells_8 X2.out)))
      go_returns
      exact ⟨rfl, B2.out⟩
    · skip
      cases b3
      · go_wp2_with (first
          | (go_at_call 51; (with_reducible refine (H1.out _).mono ?_); rintro e w3 ⟨rfl, rfl⟩)
          | (go_at_call 52; (with_reducible refine (H2.out _).mono ?_); rintro e w2 ⟨rfl, hb2⟩
             (have C2 := Lib.hid (lies_below CB.out hb2 (lies_lt CB.out)))
             (have X2 := Lib.hid (lies_below XB.out hb2 (lies_lt XB.out)))
             (have B2 := Lib.hid (BB.out.trans (hb2.mono BB.out.size)))
             (clear hb2 c0 c1 c2 c3 c4 c5 x0 x1 x2 x3 x4 x5 x6 x7)
             (obtain ⟨c0, c1, c2, c3, c4, c5⟩ := cells_6 C2.out)
             (obtain ⟨x0, x1, x2, x3, x4, x5, x6, x7⟩ := cells_8 X2.out))
          | (go_at_call 51; (with_reducible refine (H3.out _).mono ?_); rintro e w3 ⟨rfl, rfl⟩))
        go_returns
        exact ⟨rfl, B2.out⟩
      · skip
        cases b4
        · go_wp2_with (first
            | (go_at_call 51; (with_reducible refine (H1.out _).mono ?_); rintro e w3 ⟨rfl, rfl⟩)
            | (go_at_call 52; (with_reducible refine (H2.out _).mono ?_); rintro e w2 ⟨rfl, hb2⟩
               (have C2 := Lib.hid (lies_below CB.out hb2 (lies_lt CB.out)))
               (have X2 := Lib.hid (lies_below XB.out hb2 (lies_lt XB.out)))
               (have B2 := Lib.hid (BB.out.trans (hb2.mono BB.out.size)))
               (clear hb2 c0 c1 c2 c3 c4 c5 x0 x1 x2 x3 x4 x5 x6 x7)
               (obtain ⟨c0, c1, c2, c3, c4, c5⟩ := cells_6 C2.out)
               (obtain ⟨x0, x1, x2, x3, x4, x5, x6, x7⟩ := cells_8 X2.out))
            | (go_at_call 51; (with_reducible refine (H3.out _).mono ?_); rintro e w3 ⟨rfl, rfl⟩)
            | (go_at_call 51; (with_reducible refine (H4.out _).mono ?_); rintro e w3 ⟨rfl, rfl⟩))
          go_returns
          exact ⟨rfl, B2.out⟩
        · skip
          cases b5
          · go_wp2_with (first
              | (go_at_call 51; (with_reducible refine (H1.out _).mono ?_); rintro e w3 ⟨rfl, rfl⟩)
              | (go_at_call 52; (with_reducible refine (H2.out _).mono ?_); rintro e w2 ⟨rfl, hb2⟩
                 (have C2 := Lib.hid (lies_below CB.out hb2 (lies_lt CB.out)))
                 (have X2 := Lib.hid (lies_below XB.out hb2 (lies_lt XB.out)))
                 (have B2 := Lib.hid (BB.out.trans (hb2.mono BB.out.size)))
                 (clear hb2 c0 c1 c2 c3 c4 c5 x0 x1 x2 x3 x4 x5 x6 x7)
                 (obtain ⟨c0, c1, c2, c3, c4, c5⟩ := cells_6 C2.out)
                 (obtain ⟨x0, x1, x2, x3, x4, x5, x6, x7⟩ := cells_8 X2.out))
              | (go_at_call 51; (with_reducible refine (H3.out _).mono ?_); rintro e w3 ⟨rfl, rfl⟩)
              | (go_at_call 51; (with_reducible refine (H4.out _).mono ?_); rintro e w3 ⟨rfl, rfl⟩)
              | (go_at_call 51; (with_reducible refine (H5.out _).mono ?_); rintro e w3 ⟨rfl, rfl⟩))
            go_returns
            exact ⟨rfl, B2.out⟩
          · skip
            cases b6
            · go_wp2_with (first
                | (go_at_call 51; (with_reducible refine (H1.out _).mono ?_); rintro e w3 ⟨rfl, rfl⟩)
                | (go_at_call 52; (with_reducible refine (H2.out _).mono ?_); rintro e w2 ⟨rfl, hb2⟩
                   (have C2 := Lib.hid (lies_below CB.out hb2 (lies_lt CB.out)))
                   (have X2 := Lib.hid (lies_below XB.out hb2 (lies_lt XB.out)))
                   (have B2 := Lib.hid (BB.out.trans (hb2.mono BB.out.size)))
                   (clear hb2 c0 c1 c2 c3 c4 c5 x0 x1 x2 x3 x4 x5 x6 x7)
                   (obtain ⟨c0, c1, c2, c3, c4, c5⟩ := cells_6 C2.out)
                   (obtain ⟨x0, x1, x2, x3, x4, x5, x6, x7⟩ := cells_8 X2.out))
                | (go_at_call 51; (with_reducible refine (H3.out _).mono ?_); rintro e w3 ⟨rfl, rfl⟩)
                | (go_at_call 51; (with_reducible refine (H4.out _).mono ?_); rintro e w3 ⟨rfl, rfl⟩)
                | (go_at_call 51; (with_reducible refine (H5.out _).mono ?_); rintro e w3 ⟨rfl, rfl⟩)
                | (go_at_call 51; (with_reducible refine (H6.out _).mono ?_); rintro e w3 ⟨rfl, rfl⟩))
              go_returns
              exact ⟨rfl, B2.out⟩
            · skip
              cases b7
              · go_wp2_with (first
                  | (go_at_call 51; (with_reducible refine (H1.out _).mono ?_); rintro e w3 ⟨rfl, rfl⟩)
                  | (go_at_call 52; (with_reducible refine (H2.out _).mono ?_); rintro e w2 ⟨rfl, hb2⟩
                     (have C2 := Lib.hid (lies_below CB.out hb2 (lies_lt CB.out)))
                     (have X2 := Lib.hid (lies_below XB.out hb2 (lies_lt XB.out)))
                     (have B2 := Lib.hid (BB.out.trans (hb2.mono BB.out.size)))
                     (clear hb2 c0 c1 c2 c3 c4 c5 x0 x1 x2 x3 x4 x5 x6 x7)
                     (obtain ⟨c0, c1, c2, c3, c4, c5⟩ := cells_6 C2.out)
                     (obtain ⟨x0, x1, x2, x3, x4, x5, x6, x7⟩ := cells_8 X2.out))
                  | (go_at_call 51; (with_reducible refine (H3.out _).mono ?_); rintro e w3 ⟨rfl, rfl⟩)
                  | (go_at_call 51; (with_reducible refine (H4.out _).mono ?_); rintro e w3 ⟨rfl, rfl⟩)
                  | (go_at_call 51; (with_reducible refine (H5.out _).mono ?_); rintro e w3 ⟨rfl, rfl⟩)
                  | (go_at_call 51; (with_reducible refine (H6.out _).mono ?_); rintro e w3 ⟨rfl, rfl⟩))
                go_returns
                exact ⟨rfl, B2.out⟩
              · go_wp2_with (first
                  | (go_at_call 51; (with_reducible refine (H1.out _).mono ?_); rintro e w3 ⟨rfl, rfl⟩)
                  | (go_at_call 52; (with_reducible refine (H2.out _).mono ?_); rintro e w2 ⟨rfl, hb2⟩
                     (have C2 := Lib.hid (lies_below CB.out hb2 (lies_lt CB.out)))
                     (have X2 := Lib.hid (lies_below XB.out hb2 (lies_lt XB.out)))
                     (have B2 := Lib.hid (BB.out.trans (hb2.mono BB.out.size)))
                     (clear hb2 c0 c1 c2 c3 c4 c5 x0 x1 x2 x3 x4 x5 x6 x7)
                     (obtain ⟨c0, c1, c2, c3, c4, c5⟩ := cells_6 C2.out)
                     (obtain ⟨x0, x1, x2, x3, x4, x5, x6, x7⟩ := cells_8 X2.out))
                  | (go_at_call 51; (with_reducible refine (H3.out _).mono ?_); rintro e w3 ⟨rfl, rfl⟩)
                  | (go_at_call 51; (with_reducible refine (H4.out _).mono ?_); rintro e w3 ⟨rfl, rfl⟩)
                  | (go_at_call 51; (with_reducible refine (H5.out _).mono ?_); rintro e w3 ⟨rfl, rfl⟩)
                  | (go_at_call 51; (with_reducible refine (H6.out _).mono ?_); rintro e w3 ⟨rfl, rfl⟩))
                go_returns
                exact ⟨rfl, B2.out⟩
end Go.Proofs.Ytdphapjeohkbjaa
/- The program's judgeVL. -/
set_option maxRecDepth 100000
namespace Go.Proofs.Ytdphapjeohkbjaa
open Go.RowKit

theorem none_any (hosts major : Int) (pA wA vA qA : Option Addr) (pl pc wl wk vl vc ql qc : Nat) (vid vhost vbag vsmax vsubs vskew : Int) (vhigh : Bool) (tA : Option Addr) (tl tc : Nat) (cb xb : Nat) (n : Int) (W : World) (h0 : -9223372036854775807 ≤ hosts) (h1 : hosts ≤ 9223372036854775807) (hC : W.heap[cb]? = some (.cells #[.int .i64 hosts, .slice pA pl pc, .int .i64 major, .slice wA wl wk, .slice vA vl vc, .slice qA ql qc] 27)) (hX : W.heap[xb]? = some (.cells #[.int .i64 vid, .int .i64 vhost, .int .i64 vbag, .int .i64 vsmax, .bool vhigh, .int .i64 vsubs, .int .i64 vskew, .slice tA tl tc] 34)) : Calls Try.prog 75 #[.int .i64 n, .pointer (some ⟨cb, 0, none⟩), .pointer (some ⟨xb, 0, none⟩)] W fun e w' => e = .returned (.bool (!PitotConf.isHost hosts n || decide (n = vhost))) ∧ Below W.heap.size W w' := by
  have HH := fun w => isHost_any hosts major pA wA vA qA pl pc wl wk vl vc ql qc n w h0 h1
  obtain ⟨c0, c1, c2, c3, c4, c5⟩ := cells_6 hC
  obtain ⟨P, HP⟩ : ∃ P, Hid (PitotConf.isHost hosts n = P) := ⟨_, rfl⟩
  rw [HP.out] at HH ⊢
  have HX := Lib.hid hX
  clear hX hC
  cases P
  · have HH := Lib.hid HH
    go_enter Try.func75, Try.ntmps75
    go_wp2_with (go_at_call 52; (with_reducible refine (HH.out _).mono ?_); rintro e w2 ⟨rfl, hb2⟩)
    go_returns
    exact ⟨rfl, hb2⟩
  · have HH := Lib.hid HH
    obtain ⟨E, hE⟩ : ∃ E, decide (n = vhost) = E := ⟨_, rfl⟩
    have hE' : (n == vhost) = E := by rw [← hE]; rfl
    rw [hE]
    go_enter Try.func75, Try.ntmps75
    go_wp2_with (go_at_call 52; (with_reducible refine (HH.out _).mono ?_); rintro e w2 ⟨rfl, hb2⟩; (have X2 := Lib.hid (lies_below HX.out hb2 (lies_lt HX.out))); obtain ⟨x0, x1, x2, x3, x4, x5, x6, x7⟩ := cells_8 X2.out)
    go_returns
    exact ⟨rfl, hb2⟩
set_option maxHeartbeats 2000000 in
theorem index_any (hosts major : Int) (pA wA vA qA : Option Addr) (pl pc wl wk vl vc ql qc : Nat) (vid vhost vbag vsmax vsubs vskew : Int) (vhigh : Bool) (tA : Option Addr) (tl tc : Nat) (tol : List Int) (cb xb : Nat) (W : World) (h0 : -9223372036854775807 ≤ hosts) (h1 : hosts ≤ 9223372036854775807) (hC : W.heap[cb]? = some (.cells #[.int .i64 hosts, .slice pA pl pc, .int .i64 major, .slice wA wl wk, .slice vA vl vc, .slice qA ql qc] 27)) (hX : W.heap[xb]? = some (.cells #[.int .i64 vid, .int .i64 vhost, .int .i64 vbag, .int .i64 vsmax, .bool vhigh, .int .i64 vsubs, .int .i64 vskew, .slice tA tl tc] 34)) (hT : IntsAt W tA tol) (htl : tol.length = tl) (hl : tl ≤ maxLen) : Calls Try.prog 88 #[.slice tA tl tc, .func (.func 75) #[] #[.pointer (some ⟨cb, 0, none⟩), .pointer (some ⟨xb, 0, none⟩)]] W fun e w' => (∃ r : Int, e = .returned (.int .i64 r) ∧ decide (0 ≤ r) = tol.any (fun n => !PitotConf.isHost hosts n || decide (n = vhost))) ∧ Below W.heap.size W w' := by
  unfold maxLen at hl
  have HQ : Hid (∀ (n : Int) (w' : World), Below W.heap.size W w' → Calls Try.prog 75 #[.int .i64 n, .pointer (some ⟨cb, 0, none⟩), .pointer (some ⟨xb, 0, none⟩)] w' fun e w'' => e = .returned (.bool (!PitotConf.isHost hosts n || decide (n = vhost))) ∧ Below w'.heap.size w' w'') := fun n w' hb => none_any hosts major pA wA vA qA pl pc wl wk vl vc ql qc vid vhost vbag vsmax vsubs vskew vhigh tA tl tc cb xb n w' h0 h1 (lies_below hC hb (lies_lt hC)) (lies_below hX hb (lies_lt hX))
  have HT := Lib.hid hT
  obtain ⟨R, HR⟩ : ∃ R, Hid (tol.any (fun n => !PitotConf.isHost hosts n || decide (n = vhost)) = R) := ⟨_, rfl⟩
  rw [HR.out]
  have Hl := Lib.hid htl
  clear hC hX hT htl
  generalize hq : (fun n => !PitotConf.isHost hosts n || decide (n = vhost)) = q at HR
  have HQ : Hid (∀ (n : Int) (w' : World), Below W.heap.size W w' → Calls Try.prog 75 #[.int .i64 n, .pointer (some ⟨cb, 0, none⟩), .pointer (some ⟨xb, 0, none⟩)] w' fun e w'' => e = .returned (.bool (q n)) ∧ Below w'.heap.size w' w'') := by rw [← hq]; exact HQ
  clear hq
  go_enter Try.func88, Try.ntmps88
  go_wp2
  go_loopw [8] (fun v8 wr => ∃ k : Nat, k ≤ tl ∧ v8 = .int .i64 k ∧ Hid ((tol.drop k).any q = R) ∧ Below W.heap.size W wr) (fun v8 _ => tl - (intOf v8).toNat)
  case atStart => exact ⟨0, Nat.zero_le _, rfl, HR, Below.refl _ _⟩
  case round =>
    obtain ⟨k, hk, rfl, ht, hB⟩ := hrel
    have HB := Lib.hid hB; clear hB
    by_cases hkm : k < tl
    · have hkl : k < tol.length := by rw [Hl.out]; exact hkm
      have e1 : decide ((k : Int) < (tl : Int)) = true := decide_eq_true (by omega)
      have e1' : decide (k < tl) = true := decide_eq_true hkm
      obtain ⟨b, off, rfl, hb, hat⟩ := HT.out.get hkl
      have hat : wr.cell? ⟨b, off + k, none⟩ = some (.int .i64 tol[k]) := (HB.out.cell hb).trans hat
      have hs : (tol.drop k).any q = (q tol[k] || (tol.drop (k + 1)).any q) := by rw [List.drop_eq_getElem_cons hkl, List.any_cons]
      have HC := HQ.out tol[k] wr HB.out
      generalize tol[k] = x at hat hs HC
      cases hx : q x
      · rw [hx] at HC
        have HC := Lib.hid HC
        have HT2 : Hid ((tol.drop (k + 1)).any q = R) := by show _ = _; rw [← ht.out, hs, hx]; rfl
        clear hs hx ht
        go_wp2_with (go_at_call 75; (with_reducible refine (HC.out).mono ?_); rintro e w2 ⟨rfl, hb2⟩)
        have HB2 := Lib.hid (HB.out.trans (hb2.mono HB.out.size))
        clear hb2
        go_roundw
        case rel => exact ⟨k + 1, by omega, by go_num, HT2, HB2.out⟩
        case measure => simp [intOf]; omega
      · rw [hx] at HC
        have HC := Lib.hid HC
        have HT2 : Hid (R = true) := by show _ = _; rw [← ht.out, hs, hx]; rfl
        clear hs hx ht
        go_wp2_with (go_at_call 75; (with_reducible refine (HC.out).mono ?_); rintro e w2 ⟨rfl, hb2⟩)
        go_returns
        rw [HT2.out]
        exact ⟨⟨_, rfl, decide_eq_true (by omega)⟩, HB.out.trans (hb2.mono HB.out.size)⟩
    · have e1 : decide ((k : Int) < (tl : Int)) = false := decide_eq_false (by omega)
      have e1' : decide (k < tl) = false := decide_eq_false hkm
      have HT2 : Hid (R = false) := by show _ = _; rw [← ht.out, List.drop_of_length_le (by rw [Hl.out]; omega)]; rfl
      clear ht
      go_wp2
      go_returns
      rw [HT2.out]
      exact ⟨⟨_, rfl, by decide⟩, HB.out⟩
theorem contains_any (hosts major : Int) (pA wA vA qA : Option Addr) (pl pc wl wk vl vc ql qc : Nat) (vid vhost vbag vsmax vsubs vskew : Int) (vhigh : Bool) (tA : Option Addr) (tl tc : Nat) (tol : List Int) (cb xb : Nat) (W : World) (h0 : -9223372036854775807 ≤ hosts) (h1 : hosts ≤ 9223372036854775807) (hC : W.heap[cb]? = some (.cells #[.int .i64 hosts, .slice pA pl pc, .int .i64 major, .slice wA wl wk, .slice vA vl vc, .slice qA ql qc] 27)) (hX : W.heap[xb]? = some (.cells #[.int .i64 vid, .int .i64 vhost, .int .i64 vbag, .int .i64 vsmax, .bool vhigh, .int .i64 vsubs, .int .i64 vskew, .slice tA tl tc] 34)) (hT : IntsAt W tA tol) (htl : tol.length = tl) (hl : tl ≤ maxLen) : Calls Try.prog 74 #[.slice tA tl tc, .func (.func 75) #[] #[.pointer (some ⟨cb, 0, none⟩), .pointer (some ⟨xb, 0, none⟩)]] W fun e w' => e = .returned (.bool (tol.any (fun n => !PitotConf.isHost hosts n || decide (n = vhost)))) ∧ Below W.heap.size W w' := by
  have HQ := Lib.hid (index_any hosts major pA wA vA qA pl pc wl wk vl vc ql qc vid vhost vbag vsmax vsubs vskew vhigh tA tl tc tol cb xb W h0 h1 hC hX hT htl hl)
  obtain ⟨R, HR⟩ : ∃ R, Hid (tol.any (fun n => !PitotConf.isHost hosts n || decide (n = vhost)) = R) := ⟨_, rfl⟩
  rw [HR.out] at HQ ⊢
  clear hC hX hT htl hl
  go_enter Try.func74, Try.ntmps74
  go_wp2_with (go_at_call 88; (with_reducible refine (HQ.out).mono ?_); rintro e w2 ⟨⟨r, rfl, hr⟩, hb2⟩)
  go_returns
  exact ⟨rfl, hb2⟩
/-- What is wrong with a link behind one of that number. -/
def linkP (hosts ahead : Int) (v : Vx) : Int :=
  if mayV hosts v.id v.host v.bag v.smax v.subs v.skew v.to.length = false then 1 else if decide (v.id ≤ ahead) = true then 25 else if PitotConf.rises v.to = false then 25 else if v.to.any (fun n => !PitotConf.isHost hosts n || decide (n = v.host)) = true then 20 else 0

set_option maxHeartbeats 4000000 in
theorem judgeVL_any (hosts major : Int) (pA wA vA qA : Option Addr) (pl pc wl wk vl vc ql qc : Nat) (vid vhost vbag vsmax vsubs vskew : Int) (vhigh : Bool) (tA : Option Addr) (tl tc : Nat) (tol : List Int) (ahead : Int) (w : World) (h0 : -9223372036854775807 ≤ hosts) (h1 : hosts ≤ 9223372036854775807) (hT : IntsAt w tA tol) (htl : tol.length = tl) (hl : tl ≤ maxLen) : Calls Try.prog 54 #[.agg #[.int .i64 hosts, .slice pA pl pc, .int .i64 major, .slice wA wl wk, .slice vA vl vc, .slice qA ql qc], .agg #[.int .i64 vid, .int .i64 vhost, .int .i64 vbag, .int .i64 vsmax, .bool vhigh, .int .i64 vsubs, .int .i64 vskew, .slice tA tl tc], .int .i64 ahead] w fun e w' => e = .returned (.int .i64 (linkP hosts ahead ⟨vid, vhost, vbag, vsmax, vhigh, vsubs, vskew, tA, tc, tol⟩)) ∧ Below w.heap.size w w' := by
  have HM := Lib.hid (fun w => mayVL_any hosts major pA wA vA qA pl pc wl wk vl vc ql qc vid vhost vbag vsmax vsubs vskew vhigh tA tl tc w h0 h1)
  have HR := Lib.hid (fun (w' : World) (hb : Below w.heap.size w w') => rises_any tA tc tol w' (hT.below hb) (by rw [htl]; exact hl))
  have HA := Lib.hid (fun (w' : World) (hb : Below w.heap.size w w') (hC : w'.heap[w.heap.size]? = some (.cells #[.int .i64 hosts, .slice pA pl pc, .int .i64 major, .slice wA wl wk, .slice vA vl vc, .slice qA ql qc] 27)) (hX : w'.heap[w.heap.size + 1]? = some (.cells #[.int .i64 vid, .int .i64 vhost, .int .i64 vbag, .int .i64 vsmax, .bool vhigh, .int .i64 vsubs, .int .i64 vskew, .slice tA tl tc] 34)) => contains_any hosts major pA wA vA qA pl pc wl wk vl vc ql qc vid vhost vbag vsmax vsubs vskew vhigh tA tl tc tol _ _ w' h0 h1 hC hX (hT.below hb) htl hl)
  rw [htl] at HR
  have HE : linkP hosts ahead ⟨vid, vhost, vbag, vsmax, vhigh, vsubs, vskew, tA, tc, tol⟩ = if mayV hosts vid vhost vbag vsmax vsubs vskew tl = false then 1 else if decide (vid ≤ ahead) = true then 25 else if PitotConf.rises tol = false then 25 else if tol.any (fun n => !PitotConf.isHost hosts n || decide (n = vhost)) = true then 20 else 0 := by rw [linkP, ← htl]
  rw [HE]
  generalize mayV hosts vid vhost vbag vsmax vsubs vskew tl = b1 at HM ⊢
  generalize PitotConf.rises tol = b2 at HR ⊢
  generalize tol.any (fun n => !PitotConf.isHost hosts n || decide (n = vhost)) = b3 at HA ⊢
  generalize hb4 : decide (vid ≤ ahead) = b4
  clear HE hT htl hl h0 h1
  go_enter Try.func54, Try.ntmps54
  go_upto_region 1 with (fail)
  have CB : Hid (((w.alloc (.cells #[.int .i64 hosts, .slice pA pl pc, .int .i64 major, .slice wA wl wk, .slice vA vl vc, .slice qA ql qc] 27)).alloc (.cells #[.int .i64 vid, .int .i64 vhost, .int .i64 vbag, .int .i64 vsmax, .bool vhigh, .int .i64 vsubs, .int .i64 vskew, .slice tA tl tc] 34)).heap[w.heap.size]? = some (.cells #[.int .i64 hosts, .slice pA pl pc, .int .i64 major, .slice wA wl wk, .slice vA vl vc, .slice qA ql qc] 27)) := lies_alloc (heap_alloc_new w _) _
  have XB : Hid (((w.alloc (.cells #[.int .i64 hosts, .slice pA pl pc, .int .i64 major, .slice wA wl wk, .slice vA vl vc, .slice qA ql qc] 27)).alloc (.cells #[.int .i64 vid, .int .i64 vhost, .int .i64 vbag, .int .i64 vsmax, .bool vhigh, .int .i64 vsubs, .int .i64 vskew, .slice tA tl tc] 34)).heap[w.heap.size + 1]? = some (.cells #[.int .i64 vid, .int .i64 vhost, .int .i64 vbag, .int .i64 vsmax, .bool vhigh, .int .i64 vsubs, .int .i64 vskew, .slice tA tl tc] 34)) := by
    have := heap_alloc_new (w.alloc (.cells #[.int .i64 hosts, .slice pA pl pc, .int .i64 major, .slice wA wl wk, .slice vA vl vc, .slice qA ql qc] 27)) (.cells #[.int .i64 vid, .int .i64 vhost, .int .i64 vbag, .int .i64 vsmax, .bool vhigh, .int .i64 vsubs, .int .i64 vskew, .slice tA tl tc] 34)
    rw [World.size_alloc] at this
    exact this
  have BB : Hid (Below w.heap.size w ((w.alloc (.cells #[.int .i64 hosts, .slice pA pl pc, .int .i64 major, .slice wA wl wk, .slice vA vl vc, .slice qA ql qc] 27)).alloc (.cells #[.int .i64 vid, .int .i64 vhost, .int .i64 vbag, .int .i64 vsmax, .bool vhigh, .int .i64 vsubs, .int .i64 vskew, .slice tA tl tc] 34))) := (((Below.refl _ w).alloc (Nat.le_refl _) _)).alloc (((Below.refl _ w).alloc (Nat.le_refl _) _)).size _
  generalize (w.alloc (.cells #[.int .i64 hosts, .slice pA pl pc, .int .i64 major, .slice wA wl wk, .slice vA vl vc, .slice qA ql qc] 27)).alloc (.cells #[.int .i64 vid, .int .i64 vhost, .int .i64 vbag, .int .i64 vsmax, .bool vhigh, .int .i64 vsubs, .int .i64 vskew, .slice tA tl tc] 34) = W1 at CB XB BB ⊢
  obtain ⟨c0, c1, c2, c3, c4, c5⟩ := cells_6 CB.out
  obtain ⟨x0, x1, x2, x3, x4, x5, x6, x7⟩ := cells_8 XB.out
  cases b1
  · go_wp2_with (first
      | (go_at_call 72; (with_reducible refine (HM.out _).mono ?_); rintro e w2 ⟨rfl, hb2⟩
         (have C2 := Lib.hid (lies_below CB.out hb2 (lies_lt CB.out)))
         (have X2 := Lib.hid (lies_below XB.out hb2 (lies_lt XB.out)))
         (have B2 := Lib.hid (BB.out.trans (hb2.mono BB.out.size)))
         (clear hb2 CB XB BB c0 c1 c2 c3 c4 c5 x0 x1 x2 x3 x4 x5 x6 x7)
         (have CB := C2)
         (have XB := X2)
         (have BB := B2)
         (clear C2 X2 B2)
         (obtain ⟨c0, c1, c2, c3, c4, c5⟩ := cells_6 CB.out)
         (obtain ⟨x0, x1, x2, x3, x4, x5, x6, x7⟩ := cells_8 XB.out)))
    go_returns
    exact ⟨rfl, BB.out⟩
  · cases b4
    · cases b2
      · go_wp2_with (first
          | (go_at_call 72; (with_reducible refine (HM.out _).mono ?_); rintro e w2 ⟨rfl, hb2⟩
             (have C2 := Lib.hid (lies_below CB.out hb2 (lies_lt CB.out)))
             (have X2 := Lib.hid (lies_below XB.out hb2 (lies_lt XB.out)))
             (have B2 := Lib.hid (BB.out.trans (hb2.mono BB.out.size)))
             (clear hb2 CB XB BB c0 c1 c2 c3 c4 c5 x0 x1 x2 x3 x4 x5 x6 x7)
             (have CB := C2)
             (have XB := X2)
             (have BB := B2)
             (clear C2 X2 B2)
             (obtain ⟨c0, c1, c2, c3, c4, c5⟩ := cells_6 CB.out)
             (obtain ⟨x0, x1, x2, x3, x4, x5, x6, x7⟩ := cells_8 XB.out))
          | (go_at_call 73; (with_reducible refine (HR.out _ BB.out).mono ?_); rintro e w3 ⟨rfl, hb2⟩
             (have C3 := Lib.hid (lies_below CB.out hb2 (lies_lt CB.out)))
             (have X3 := Lib.hid (lies_below XB.out hb2 (lies_lt XB.out)))
             (have B3 := Lib.hid (BB.out.trans (hb2.mono BB.out.size)))
             (clear hb2 CB XB BB c0 c1 c2 c3 c4 c5 x0 x1 x2 x3 x4 x5 x6 x7)
             (have CB := C3)
             (have XB := X3)
             (have BB := B3)
             (clear C3 X3 B3)
             (obtain ⟨c0, c1, c2, c3, c4, c5⟩ := cells_6 CB.out)
             (obtain ⟨x0, x1, x2, x3, x4, x5, x6, x7⟩ := cells_8 XB.out)))
        go_returns
        exact ⟨rfl, BB.out⟩
      · cases b3
        · go_wp2_with (first
            | (go_at_call 72; (with_reducible refine (HM.out _).mono ?_); rintro e w2 ⟨rfl, hb2⟩
               (have C2 := Lib.hid (lies_below CB.out hb2 (lies_lt CB.out)))
               (have X2 := Lib.hid (lies_below XB.out hb2 (lies_lt XB.out)))
               (have B2 := Lib.hid (BB.out.trans (hb2.mono BB.out.size)))
               (clear hb2 CB XB BB c0 c1 c2 c3 c4 c5 x0 x1 x2 x3 x4 x5 x6 x7)
               (have CB := C2)
               (have XB := X2)
               (have BB := B2)
               (clear C2 X2 B2)
               (obtain ⟨c0, c1, c2, c3, c4, c5⟩ := cells_6 CB.out)
               (obtain ⟨x0, x1, x2, x3, x4, x5, x6, x7⟩ := cells_8 XB.out))
            | (go_at_call 73; (with_reducible refine (HR.out _ BB.out).mono ?_); rintro e w3 ⟨rfl, hb2⟩
               (have C3 := Lib.hid (lies_below CB.out hb2 (lies_lt CB.out)))
               (have X3 := Lib.hid (lies_below XB.out hb2 (lies_lt XB.out)))
               (have B3 := Lib.hid (BB.out.trans (hb2.mono BB.out.size)))
               (clear hb2 CB XB BB c0 c1 c2 c3 c4 c5 x0 x1 x2 x3 x4 x5 x6 x7)
               (have CB := C3)
               (have XB := X3)
               (have BB := B3)
               (clear C3 X3 B3)
               (obtain ⟨c0, c1, c2, c3, c4, c5⟩ := cells_6 CB.out)
               (obtain ⟨x0, x1, x2, x3, x4, x5, x6, x7⟩ := cells_8 XB.out))
            | (go_at_call 74; (with_reducible refine (HA.out _ BB.out CB.out XB.out).mono ?_); rintro e w4 ⟨rfl, hb2⟩
               (have C4 := Lib.hid (lies_below CB.out hb2 (lies_lt CB.out)))
               (have X4 := Lib.hid (lies_below XB.out hb2 (lies_lt XB.out)))
               (have B4 := Lib.hid (BB.out.trans (hb2.mono BB.out.size)))
               (clear hb2 CB XB BB c0 c1 c2 c3 c4 c5 x0 x1 x2 x3 x4 x5 x6 x7)
               (have CB := C4)
               (have XB := X4)
               (have BB := B4)
               (clear C4 X4 B4)
               (obtain ⟨c0, c1, c2, c3, c4, c5⟩ := cells_6 CB.out)
               (obtain ⟨x0, x1, x2, x3, x4, x5, x6, x7⟩ := cells_8 XB.out)))
          go_returns
          exact ⟨rfl, BB.out⟩
        · go_wp2_with (first
            | (go_at_call 72; (with_reducible refine (HM.out _).mono ?_); rintro e w2 ⟨rfl, hb2⟩
               (have C2 := Lib.hid (lies_below CB.out hb2 (lies_lt CB.out)))
               (have X2 := Lib.hid (lies_below XB.out hb2 (lies_lt XB.out)))
               (have B2 := Lib.hid (BB.out.trans (hb2.mono BB.out.size)))
               (clear hb2 CB XB BB c0 c1 c2 c3 c4 c5 x0 x1 x2 x3 x4 x5 x6 x7)
               (have CB := C2)
               (have XB := X2)
               (have BB := B2)
               (clear C2 X2 B2)
               (obtain ⟨c0, c1, c2, c3, c4, c5⟩ := cells_6 CB.out)
               (obtain ⟨x0, x1, x2, x3, x4, x5, x6, x7⟩ := cells_8 XB.out))
            | (go_at_call 73; (with_reducible refine (HR.out _ BB.out).mono ?_); rintro e w3 ⟨rfl, hb2⟩
               (have C3 := Lib.hid (lies_below CB.out hb2 (lies_lt CB.out)))
               (have X3 := Lib.hid (lies_below XB.out hb2 (lies_lt XB.out)))
               (have B3 := Lib.hid (BB.out.trans (hb2.mono BB.out.size)))
               (clear hb2 CB XB BB c0 c1 c2 c3 c4 c5 x0 x1 x2 x3 x4 x5 x6 x7)
               (have CB := C3)
               (have XB := X3)
               (have BB := B3)
               (clear C3 X3 B3)
               (obtain ⟨c0, c1, c2, c3, c4, c5⟩ := cells_6 CB.out)
               (obtain ⟨x0, x1, x2, x3, x4, x5, x6, x7⟩ := cells_8 XB.out))
            | (go_at_call 74; (with_reducible refine (HA.out _ BB.out CB.out XB.out).mono ?_); rintro e w4 ⟨rfl, hb2⟩
               (have C4 := Lib.hid (lies_below CB.out hb2 (lies_lt CB.out)))
               (have X4 := Lib.hid (lies_below XB.out hb2 (lies_lt XB.out)))
               (have B4 := Lib.hid (BB.out.trans (hb2.mono BB.out.size)))
               (clear hb2 CB XB BB c0 c1 c2 c3 c4 c5 x0 x1 x2 x3 x4 x5 x6 x7)
               (have CB := C4)
               (have XB := X4)
               (have BB := B4)
               (clear C4 X4 B4)
               (obtain ⟨c0, c1, c2, c3, c4, c5⟩ := cells_6 CB.out)
               (obtain ⟨x0, x1, x2, x3, x4, x5, x6, x7⟩ := cells_8 XB.out)))
          go_returns
          exact ⟨rfl, BB.out⟩
    · go_wp2_with (first
        | (go_at_call 72; (with_reducible refine (HM.out _).mono ?_); rintro e w2 ⟨rfl, hb2⟩
           (have C2 := Lib.hid (lies_below CB.out hb2 (lies_lt CB.out)))
           (have X2 := Lib.hid (lies_below XB.out hb2 (lies_lt XB.out)))
           (have B2 := Lib.hid (BB.out.trans (hb2.mono BB.out.size)))
           (clear hb2 CB XB BB c0 c1 c2 c3 c4 c5 x0 x1 x2 x3 x4 x5 x6 x7)
           (have CB := C2)
           (have XB := X2)
           (have BB := B2)
           (clear C2 X2 B2)
           (obtain ⟨c0, c1, c2, c3, c4, c5⟩ := cells_6 CB.out)
           (obtain ⟨x0, x1, x2, x3, x4, x5, x6, x7⟩ := cells_8 XB.out)))
      go_returns
      exact ⟨rfl, BB.out⟩
end Go.Proofs.Ytdphapjeohkbjaa
/- The program looks at the links. -/
set_option maxRecDepth 100000
namespace Go.Proofs.Ytdphapjeohkbjaa
open Go.RowKit

/-- The number of the last one of some links. -/
def aheadV (l : List Vx) : Int := match l.getLast? with
  | some u => u.id
  | none => 0
theorem aheadV_take (l : List Vx) (k : Nat) (h : k < l.length) : aheadV (l.take (k + 1)) = l[k].id := by
  rw [aheadV, List.take_succ_eq_append_getElem h, List.getLast?_append]; rfl
theorem mayV_id {hosts vid vhost vbag vsmax vsubs vskew : Int} {tl : Nat} : mayV hosts vid vhost vbag vsmax vsubs vskew tl = true ↔ 1 ≤ vid ∧ vid ≤ 65535 ∧ PitotConf.isHost hosts vhost = true ∧ 0 ≤ vbag ∧ vbag ≤ 7 ∧ 64 ≤ vsmax ∧ vsmax ≤ 1518 ∧ 1 ≤ vsubs ∧ vsubs ≤ 4 ∧ 0 ≤ vskew ∧ vskew ≤ 1073741824 ∧ 0 < tl := by
  simp only [mayV, Bool.and_eq_true, decide_eq_true_eq]
  constructor
  · rintro ⟨⟨a, b⟩, c, ⟨d, e⟩, ⟨f, g⟩, ⟨h, i⟩, ⟨j, k⟩, l⟩; exact ⟨a, b, c, d, e, f, g, h, i, j, k, by omega⟩
  · rintro ⟨a, b, c, d, e, f, g, h, i, j, k, l⟩; exact ⟨⟨a, b⟩, c, ⟨d, e⟩, ⟨f, g⟩, ⟨h, i⟩, ⟨j, k⟩, by omega⟩
/-- The judge of a link in plain words is the program's. -/
theorem linkJ_eq (hosts : Int) (l : List Vx) (k : Nat) (h : k < l.length) : PitotConf.linkJ hosts ((l.map Vx.pl).take k) ((l.map Vx.pl)[k]'(by simpa using h)) = if 256 ≤ k then 1 else linkP hosts (aheadV (l.take k)) l[k] := by
  have hlen : ((l.map Vx.pl).take k).length = k := by simp; omega
  have hlast : ((l.map Vx.pl).take k).getLast? = ((l.take k).getLast?).map Vx.pl := by rw [← List.map_take, List.getLast?_map]
  rw [PitotConf.linkJ, hlen, List.getElem_map, hlast]
  generalize l[k] = x
  by_cases h1 : 256 ≤ k
  · rw [if_pos (Or.inl h1), if_pos h1]
  rw [if_neg h1, linkP]
  by_cases h2 : mayV hosts x.id x.host x.bag x.smax x.subs x.skew x.to.length = false
  · rw [if_pos h2, if_pos]
    right
    apply Classical.byContradiction
    intro hh
    have : mayV hosts x.id x.host x.bag x.smax x.subs x.skew x.to.length = true := by
      rw [mayV_id]
      simp only [not_or] at hh
      obtain ⟨a, b, c, d, e, f, g, h, i, j, n, o⟩ := hh
      exact ⟨by omega, by omega, by simpa using c, by omega, by omega, by omega, by omega, by omega, by omega, by omega, by omega, List.length_pos_iff.2 o⟩
    rw [this] at h2; cases h2
  · have h2 : mayV hosts x.id x.host x.bag x.smax x.subs x.skew x.to.length = true := by simpa using h2
    have h2' := h2
    rw [mayV_id] at h2
    obtain ⟨a, b, c, d, e, f, g, hh, i, j, n, o⟩ := h2
    have hbad : ¬ (256 ≤ k ∨ x.pl.id < 1 ∨ 65535 < x.pl.id ∨ PitotConf.isHost hosts x.pl.host = false ∨ x.pl.bag < 0 ∨ 7 < x.pl.bag ∨ x.pl.smax < 64 ∨ 1518 < x.pl.smax ∨ x.pl.subs < 1 ∨ 4 < x.pl.subs ∨ x.pl.skew < 0 ∨ 1073741824 < x.pl.skew ∨ x.pl.to = []) := by
      rintro (q | q | q | q | q | q | q | q | q | q | q | q | q)
      · exact h1 q
      · have : x.id < 1 := q; omega
      · have : 65535 < x.id := q; omega
      · have q : PitotConf.isHost hosts x.host = false := q; rw [c] at q; cases q
      · have : x.bag < 0 := q; omega
      · have : 7 < x.bag := q; omega
      · have : x.smax < 64 := q; omega
      · have : 1518 < x.smax := q; omega
      · have : x.subs < 1 := q; omega
      · have : 4 < x.subs := q; omega
      · have : x.skew < 0 := q; omega
      · have : 1073741824 < x.skew := q; omega
      · have : x.to = [] := q; rw [this] at o; exact absurd o (by simp)
    rw [if_neg hbad, h2', if_neg (show ¬ (true = false) by decide), aheadV]
    cases (l.take k).getLast? with
    | none =>
      show (if false = true ∨ PitotConf.rises x.to = false then (25 : Int) else if (x.to.any fun n => !PitotConf.isHost hosts n || decide (n = x.host)) = true then 20 else 0) = (if decide (x.id ≤ 0) = true then 25 else if PitotConf.rises x.to = false then 25 else if (x.to.any fun n => !PitotConf.isHost hosts n || decide (n = x.host)) = true then 20 else 0)
      rw [if_neg (show ¬ decide (x.id ≤ 0) = true by simp; omega)]
      by_cases h5 : PitotConf.rises x.to = false
      · rw [if_pos (Or.inr h5), if_pos h5]
      · rw [if_neg (by rintro (h | h); cases h; exact h5 h), if_neg h5]
    | some u =>
      show (if decide (x.id ≤ u.id) = true ∨ PitotConf.rises x.to = false then (25 : Int) else if (x.to.any fun n => !PitotConf.isHost hosts n || decide (n = x.host)) = true then 20 else 0) = (if decide (x.id ≤ u.id) = true then 25 else if PitotConf.rises x.to = false then 25 else if (x.to.any fun n => !PitotConf.isHost hosts n || decide (n = x.host)) = true then 20 else 0)
      by_cases h4 : decide (x.id ≤ u.id) = true
      · rw [if_pos (Or.inl h4), if_pos h4]
      · rw [if_neg h4]
        by_cases h5 : PitotConf.rises x.to = false
        · rw [if_pos (Or.inr h5), if_pos h5]
        · rw [if_neg (by rintro (h | h); exact h4 h; exact h5 h), if_neg h5]
set_option maxHeartbeats 4000000 in
theorem judgeVLs_any (c : Cx) (w : World) (hc : c.Held w) (hl : c.vls.length ≤ maxLen) (htl : ∀ v ∈ c.vls, v.to.length ≤ maxLen) (h0 : -9223372036854775807 ≤ c.hosts ∧ c.hosts ≤ 9223372036854775807) : Calls Try.prog 24 #[c.val] w fun e w' => e = .returned (judged (told (PitotConf.scan (PitotConf.linkJ c.hosts) [] (c.vls.map Vx.pl)))) ∧ Below w.heap.size w w' := by
  unfold maxLen at hl
  have HV : Hid (VxsAt w c.vlsA c.vls) := hc.2.2.1
  have HTL := Lib.hid htl
  clear hc htl
  obtain ⟨R, HR⟩ : ∃ R, Hid (told (PitotConf.scan (PitotConf.linkJ c.hosts) [] (c.vls.map Vx.pl)) = R) := ⟨_, rfl⟩
  rw [HR.out]
  obtain ⟨hosts, pA, pc, parts, major, wA, wk, wins, vA, vc, vls, qA, qc, ports⟩ := c
  simp only at HV HR hl h0 HTL ⊢
  obtain ⟨m, Hm⟩ : ∃ m, Hid (vls.length = m) := ⟨_, rfl⟩
  show Calls Try.prog 24 #[.agg #[.int .i64 hosts, .slice pA parts.length pc, .int .i64 major, .slice wA wins.length wk, .slice vA vls.length vc, .slice qA ports.length qc]] w _
  rw [Hm.out] at hl ⊢
  generalize wins.length = wl, parts.length = pl, ports.length = ql
  obtain ⟨ra, re⟩ := R
  have HJ := Lib.hid (fun vid vhost vbag vsmax vsubs vskew vhigh tA tl tc tolx ahead w => judgeVL_any hosts major pA wA vA qA pl pc wl wk m vc ql qc vid vhost vbag vsmax vsubs vskew vhigh tA tl tc tolx ahead w h0.1 h0.2)
  have CB0 : Hid ((w.alloc (.cells #[.int .i64 hosts, .slice pA pl pc, .int .i64 major, .slice wA wl wk, .slice vA m vc, .slice qA ql qc] 27)).heap[w.heap.size]? = some (.cells #[.int .i64 hosts, .slice pA pl pc, .int .i64 major, .slice wA wl wk, .slice vA m vc, .slice qA ql qc] 27)) := heap_alloc_new w _
  have BB0 : Hid (Below w.heap.size w (w.alloc (.cells #[.int .i64 hosts, .slice pA pl pc, .int .i64 major, .slice wA wl wk, .slice vA m vc, .slice qA ql qc] 27))) := (Below.refl _ w).alloc (Nat.le_refl _) _
  go_enter Try.func24, Try.ntmps24
  go_wp2
  go_loopw [4, 11] (fun v4 v11 wr => ∃ k : Nat, k ≤ m ∧ v11 = .int .i64 k ∧ v4 = .int .i64 (aheadV (vls.take k)) ∧ Hid (told (PitotConf.scan (PitotConf.linkJ hosts) ((vls.map Vx.pl).take k) ((vls.map Vx.pl).drop k)) = (ra, re)) ∧ wr.heap[w.heap.size]? = some (.cells #[.int .i64 hosts, .slice pA pl pc, .int .i64 major, .slice wA wl wk, .slice vA m vc, .slice qA ql qc] 27) ∧ Below w.heap.size w wr) (fun _ v11 _ => m - (intOf v11).toNat)
  case atStart => exact ⟨0, Nat.zero_le _, rfl, rfl, HR, CB0.out, BB0.out⟩
  case round =>
    obtain ⟨k, hk, rfl, rfl, ht, hC, hB⟩ := hrel
    have HB := Lib.hid hB; have HC := Lib.hid hC
    clear hB hC CB0 BB0
    obtain ⟨c0, c1, c2, c3, c4, c5⟩ := cells_6 HC.out
    by_cases hkm : k < m
    · have hkl : k < vls.length := by rw [Hm.out]; exact hkm
      have e1 : decide ((k : Int) < (m : Int)) = true := decide_eq_true (by omega)
      have e1' : decide (k < m) = true := decide_eq_true hkm
      obtain ⟨b, off, rfl, hb, hat, hxh⟩ := HV.out.get hkl
      have hat := hat.below HB.out hb
      have hs := scan_step (PitotConf.linkJ hosts) (vls.map Vx.pl) k (by simpa using hkl)
      rw [linkJ_eq hosts vls k hkl] at hs
      have hah := aheadV_take vls k hkl
      have hxl := HTL.out _ (List.getElem_mem hkl)
      generalize aheadV (vls.take k) = ahead at hs ⊢
      generalize vls[k] = x at hat hs hxh hah hxl
      have HTo : Hid (IntsAt wr x.toA x.to) := IntsAt.below hxh HB.out
      obtain ⟨tol, Htol⟩ : ∃ tol, Hid (x.to.length = tol) := ⟨_, rfl⟩
      have HJ2 := fun W (hb : Below wr.heap.size wr W) => HJ.out x.id x.host x.bag x.smax x.subs x.skew x.high x.toA tol x.toc x.to ahead W (IntsAt.below HTo.out hb) Htol.out (by rw [← Htol.out]; exact hxl)
      have HLE : linkP hosts ahead ⟨x.id, x.host, x.bag, x.smax, x.high, x.subs, x.skew, x.toA, x.toc, x.to⟩ = linkP hosts ahead x := rfl
      rw [HLE] at HJ2
      generalize linkP hosts ahead x = J at HJ2 hs
      have HJ3 := Lib.hid HJ2
      clear HJ2 HLE hxh
      unfold VxAt at hat
      rw [Htol.out] at hat
      obtain ⟨a0, a1, a2, a3, a4, a5, a6, a7⟩ := hat
      have HAH := Lib.hid hah
      have HS := Lib.hid hs
      clear hah hs
      obtain ⟨xid, Hxid⟩ : ∃ xid, Hid (x.id = xid) := ⟨_, rfl⟩
      rw [Hxid.out] at a0 HJ3 HAH
      generalize x.host = xhost, x.bag = xbag, x.smax = xsmax, x.high = xhigh, x.subs = xsubs, x.skew = xskew, x.toA = xA, x.toc = xtc at a1 a2 a3 a4 a5 a6 a7 HJ3
      go_upto_region 5 with (fail)
      have CB : Hid ((wr.alloc (.cells #[.int .i64 xid, .int .i64 xhost, .int .i64 xbag, .int .i64 xsmax, .bool xhigh, .int .i64 xsubs, .int .i64 xskew, .slice xA tol xtc] 34)).heap[w.heap.size]? = some (.cells #[.int .i64 hosts, .slice pA pl pc, .int .i64 major, .slice wA wl wk, .slice (some ⟨b, off, none⟩) m vc, .slice qA ql qc] 27)) := lies_alloc HC.out _
      have XB : Hid ((wr.alloc (.cells #[.int .i64 xid, .int .i64 xhost, .int .i64 xbag, .int .i64 xsmax, .bool xhigh, .int .i64 xsubs, .int .i64 xskew, .slice xA tol xtc] 34)).heap[wr.heap.size]? = some (.cells #[.int .i64 xid, .int .i64 xhost, .int .i64 xbag, .int .i64 xsmax, .bool xhigh, .int .i64 xsubs, .int .i64 xskew, .slice xA tol xtc] 34)) := heap_alloc_new wr _
      have AB : Hid (Below wr.heap.size wr (wr.alloc (.cells #[.int .i64 xid, .int .i64 xhost, .int .i64 xbag, .int .i64 xsmax, .bool xhigh, .int .i64 xsubs, .int .i64 xskew, .slice xA tol xtc] 34))) := (Below.refl _ wr).alloc (Nat.le_refl _) _
      have BB : Hid (Below w.heap.size w (wr.alloc (.cells #[.int .i64 xid, .int .i64 xhost, .int .i64 xbag, .int .i64 xsmax, .bool xhigh, .int .i64 xsubs, .int .i64 xskew, .slice xA tol xtc] 34))) := HB.out.trans (AB.out.mono HB.out.size)
      clear a0 a1 a2 a3 a4 a5 a6 a7 c0 c1 c2 c3 c4 c5
      have HXL : Hid (wr.heap.size = wr.heap.size) := rfl
      have HJ4 := Lib.hid (HJ3.out _ AB.out)
      clear HJ3
      generalize wr.alloc (.cells #[.int .i64 xid, .int .i64 xhost, .int .i64 xbag, .int .i64 xsmax, .bool xhigh, .int .i64 xsubs, .int .i64 xskew, .slice xA tol xtc] 34) = W1 at CB XB BB HJ4 ⊢
      clear AB
      generalize wr.heap.size = xb at XB ⊢
      obtain ⟨c0, c1, c2, c3, c4, c5⟩ := cells_6 CB.out
      obtain ⟨x0, x1, x2, x3, x4, x5, x6, x7⟩ := cells_8 XB.out
      by_cases g0 : 256 ≤ k
      · have f0 : decide (256 ≤ (k : Int)) = true := decide_eq_true (by omega)
        have f0' : decide (256 ≤ k) = true := decide_eq_true g0
        have HT : Hid (((k : Int), (1 : Int)) = (ra, re)) := by
          show _ = _
          rw [← ht.out, HS.out, if_pos g0, if_neg (by decide)]; rfl
        clear ht
        go_wp2
        go_returns
        have := HT.out
        injection this with h1 h2
        subst h1; subst h2
        exact ⟨rfl, BB.out⟩
      · have f0 : decide (256 ≤ (k : Int)) = false := decide_eq_false (by omega)
        have f0' : decide (256 ≤ k) = false := decide_eq_false g0
        have hs := HS.out
        rw [if_neg g0] at hs
        by_cases g1 : J = 0
        · have f1 : (J == 0) = true := by rw [g1]; rfl
          have HT : Hid (told (PitotConf.scan (PitotConf.linkJ hosts) ((vls.map Vx.pl).take (k + 1)) ((vls.map Vx.pl).drop (k + 1))) = (ra, re)) := by
            show _ = _
            rw [← ht.out, hs, if_pos g1]
          clear ht hs HS g1
          go_wp2_with (first
            | (go_at_call 54; (with_reducible refine (HJ4.out).mono ?_); rintro e w2 ⟨rfl, hb2⟩
               (have C2 := Lib.hid (lies_below CB.out hb2 (lies_lt CB.out)))
               (have X2 := Lib.hid (lies_below XB.out hb2 (lies_lt XB.out)))
               (have B2 := Lib.hid (BB.out.trans (hb2.mono BB.out.size)))
               (clear hb2 CB XB BB c0 c1 c2 c3 c4 c5 x0 x1 x2 x3 x4 x5 x6 x7)
               (have CB := C2)
               (have XB := X2)
               (have BB := B2)
               (clear C2 X2 B2)
               (obtain ⟨c0, c1, c2, c3, c4, c5⟩ := cells_6 CB.out)
               (obtain ⟨x0, x1, x2, x3, x4, x5, x6, x7⟩ := cells_8 XB.out)))
          go_roundw
          case rel => exact ⟨k + 1, by omega, by go_num, by rw [HAH.out], HT, CB.out, BB.out⟩
          case measure => simp [intOf]; omega
        · have f1 : (J == 0) = false := by simpa using g1
          have HT : Hid (((k : Int), J) = (ra, re)) := by
            show _ = _
            rw [← ht.out, hs, if_neg g1]; rfl
          clear ht hs HS g1
          go_wp2_with (first
            | (go_at_call 54; (with_reducible refine (HJ4.out).mono ?_); rintro e w2 ⟨rfl, hb2⟩
               (have C2 := Lib.hid (lies_below CB.out hb2 (lies_lt CB.out)))
               (have X2 := Lib.hid (lies_below XB.out hb2 (lies_lt XB.out)))
               (have B2 := Lib.hid (BB.out.trans (hb2.mono BB.out.size)))
               (clear hb2 CB XB BB c0 c1 c2 c3 c4 c5 x0 x1 x2 x3 x4 x5 x6 x7)
               (have CB := C2)
               (have XB := X2)
               (have BB := B2)
               (clear C2 X2 B2)
               (obtain ⟨c0, c1, c2, c3, c4, c5⟩ := cells_6 CB.out)
               (obtain ⟨x0, x1, x2, x3, x4, x5, x6, x7⟩ := cells_8 XB.out)))
          go_returns
          have := HT.out
          injection this with h1 h2
          subst h1; subst h2
          exact ⟨rfl, BB.out⟩
    · have e1 : decide ((k : Int) < (m : Int)) = false := decide_eq_false (by omega)
      have e1' : decide (k < m) = false := decide_eq_false hkm
      have HT : Hid (((0 : Int), (0 : Int)) = (ra, re)) := by
        show _ = _
        rw [← ht.out, scan_end _ _ _ (by rw [List.length_map, Hm.out]; omega)]; rfl
      clear ht
      go_wp2
      go_returns
      have := HT.out
      injection this with h1 h2
      subst h1; subst h2
      exact ⟨rfl, HB.out⟩
end Go.Proofs.Ytdphapjeohkbjaa
/- The program finds a link; its jitter. -/
set_option maxRecDepth 100000
namespace Go.Proofs.Ytdphapjeohkbjaa
open Go.RowKit

theorem isId_any (vid vhost vbag vsmax vsubs vskew : Int) (vhigh : Bool) (tA : Option Addr) (tl tc : Nat) (ib : Nat) (id : Int) (W : World) (hI : W.heap[ib]? = some (.cells #[.int .i64 id] 3)) : Calls Try.prog 90 #[.agg #[.int .i64 vid, .int .i64 vhost, .int .i64 vbag, .int .i64 vsmax, .bool vhigh, .int .i64 vsubs, .int .i64 vskew, .slice tA tl tc], .pointer (some ⟨ib, 0, none⟩)] W fun e w' => e = .returned (.bool (decide (vid = id))) ∧ Below W.heap.size W w' := by
  have kb : Hid (Below W.heap.size W (W.alloc (.cells #[.int .i64 vid, .int .i64 vhost, .int .i64 vbag, .int .i64 vsmax, .bool vhigh, .int .i64 vsubs, .int .i64 vskew, .slice tA tl tc] 34))) := (Below.refl _ W).alloc (Nat.le_refl _) _
  have hi := lies_cell hI 0
  have hlt := lies_lt hI
  have hi2 : (W.alloc (.cells #[.int .i64 vid, .int .i64 vhost, .int .i64 vbag, .int .i64 vsmax, .bool vhigh, .int .i64 vsubs, .int .i64 vskew, .slice tA tl tc] 34)).cell? ⟨ib, 0, none⟩ = some (.int .i64 id) := (kb.out.cell hlt).trans hi
  obtain ⟨E, hE⟩ : ∃ E, decide (vid = id) = E := ⟨_, rfl⟩
  have hE' : (vid == id) = E := by rw [← hE]; rfl
  rw [hE]
  clear hi hI
  go_enter Try.func90, Try.ntmps90
  go_wp2
  go_returns
  exact ⟨rfl, kb.out⟩
/-- What is found. -/
def FoundV (l : List Vx) (id : Int) (r : Int) : Prop := (r = -1 ∧ findVx l id = none) ∨ ∃ k, ∃ h : k < l.length, r = k ∧ findVx l id = some l[k]
set_option maxHeartbeats 2000000 in
theorem findV_any (vA : Option Addr) (m vc ib : Nat) (vls : List Vx) (id : Int) (W : World) (hV : VxsAt W vA vls) (hm : vls.length = m) (hl : m ≤ maxLen) (hI : W.heap[ib]? = some (.cells #[.int .i64 id] 3)) : Calls Try.prog 89 #[.slice vA m vc, .func (.func 90) #[] #[.pointer (some ⟨ib, 0, none⟩)]] W fun e w' => (∃ r : Int, e = .returned (.int .i64 r) ∧ FoundV vls id r) ∧ Below W.heap.size W w' := by
  unfold maxLen at hl
  have HQ : Hid (∀ (vid vhost vbag vsmax vsubs vskew : Int) (vhigh : Bool) (tA : Option Addr) (tl tc : Nat) (w' : World), Below W.heap.size W w' → Calls Try.prog 90 #[.agg #[.int .i64 vid, .int .i64 vhost, .int .i64 vbag, .int .i64 vsmax, .bool vhigh, .int .i64 vsubs, .int .i64 vskew, .slice tA tl tc], .pointer (some ⟨ib, 0, none⟩)] w' fun e w'' => e = .returned (.bool (decide (vid = id))) ∧ Below w'.heap.size w' w'') := fun vid vhost vbag vsmax vsubs vskew vhigh tA tl tc w' hb => isId_any vid vhost vbag vsmax vsubs vskew vhigh tA tl tc ib id w' (lies_below hI hb (lies_lt hI))
  have HV := Lib.hid hV
  have Hm := Lib.hid hm
  clear hI hV hm
  go_enter Try.func89, Try.ntmps89
  go_wp2
  go_loopw [8] (fun v8 wr => ∃ k : Nat, k ≤ m ∧ v8 = .int .i64 k ∧ Hid (findVx vls id = findVx (vls.drop k) id) ∧ Below W.heap.size W wr) (fun v8 _ => m - (intOf v8).toNat)
  case atStart => exact ⟨0, Nat.zero_le _, rfl, rfl, Below.refl _ _⟩
  case round =>
    obtain ⟨k, hk, rfl, ht, hB⟩ := hrel
    have HB := Lib.hid hB; clear hB
    by_cases hkm : k < m
    · have hkl : k < vls.length := by rw [Hm.out]; exact hkm
      have e1 : decide ((k : Int) < (m : Int)) = true := decide_eq_true (by omega)
      have e1' : decide (k < m) = true := decide_eq_true hkm
      obtain ⟨b, off, rfl, hb, hat, _⟩ := HV.out.get hkl
      have hat := hat.below HB.out hb
      have hs : findVx (vls.drop k) id = if decide (vls[k].id = id) = true then some vls[k] else findVx (vls.drop (k + 1)) id := by
        rw [List.drop_eq_getElem_cons hkl, findVx, List.find?_cons]
        cases decide (vls[k].id = id) <;> rfl
      have hF : ∀ x, findVx vls id = some x → x = vls[k] → FoundV vls id k := fun x h1 h2 => .inr ⟨k, hkl, rfl, by rw [h1, h2]⟩
      generalize vls[k] = x at hat hs hF
      have HC := HQ.out x.id x.host x.bag x.smax x.subs x.skew x.high x.toA x.to.length x.toc wr HB.out
      obtain ⟨a0, a1, a2, a3, a4, a5, a6, a7⟩ := hat
      cases hx : decide (x.id = id)
      · rw [hx] at HC hs
        have HC := Lib.hid HC
        have HT2 : Hid (findVx vls id = findVx (vls.drop (k + 1)) id) := by show _ = _; rw [ht.out, hs]; rfl
        clear hs hx ht hF
        go_wp2_with (go_at_call 90; (with_reducible refine (HC.out).mono ?_); rintro e w2 ⟨rfl, hb2⟩)
        have HB2 := Lib.hid (HB.out.trans (hb2.mono HB.out.size))
        clear hb2
        go_roundw
        case rel => exact ⟨k + 1, by omega, by go_num, HT2, HB2.out⟩
        case measure => simp [intOf]; omega
      · rw [hx] at HC hs
        have HC := Lib.hid HC
        have HT2 : Hid (FoundV vls id k) := hF x (by rw [ht.out, hs]; rfl) rfl
        clear hs hx ht hF
        go_wp2_with (go_at_call 90; (with_reducible refine (HC.out).mono ?_); rintro e w2 ⟨rfl, hb2⟩)
        go_returns
        exact ⟨⟨_, rfl, HT2.out⟩, HB.out.trans (hb2.mono HB.out.size)⟩
    · have e1 : decide ((k : Int) < (m : Int)) = false := decide_eq_false (by omega)
      have e1' : decide (k < m) = false := decide_eq_false hkm
      have HT2 : Hid (FoundV vls id (-1)) := .inl ⟨rfl, by rw [ht.out, List.drop_of_length_le (by rw [Hm.out]; omega)]; rfl⟩
      clear ht
      go_wp2
      go_returns
      exact ⟨⟨_, rfl, HT2.out⟩, HB.out⟩
set_option maxHeartbeats 4000000 in
theorem jitterP_any (c : Cx) (h : Int) (w : World) (hc : c.Held w) (hl : c.vls.length ≤ 400) (hs : ∀ v ∈ c.vls, 0 ≤ v.smax ∧ v.smax ≤ 10000) : Calls Try.prog 56 #[c.val, .int .i64 h] w fun e w' => e = .returned (.int .i64 (PitotConf.jitter (c.vls.map Vx.pl) h)) ∧ Below w.heap.size w w' := by
  have HV : Hid (VxsAt w c.vlsA c.vls) := hc.2.2.1
  obtain ⟨R, HR⟩ : ∃ R, Hid (PitotConf.jitter (c.vls.map Vx.pl) h = R) := ⟨_, rfl⟩
  rw [HR.out]
  have HS := Lib.hid hs
  clear hc hs
  obtain ⟨hosts, pA, pc, parts, major, wA, wk, wins, vA, vc, vls, qA, qc, ports⟩ := c
  simp only at HV HR HS hl ⊢
  obtain ⟨m, Hm⟩ : ∃ m, Hid (vls.length = m) := ⟨_, rfl⟩
  show Calls Try.prog 56 #[.agg #[.int .i64 hosts, .slice pA parts.length pc, .int .i64 major, .slice wA wins.length wk, .slice vA vls.length vc, .slice qA ports.length qc], .int .i64 h] w _
  rw [Hm.out] at hl ⊢
  generalize wins.length = wl, parts.length = pl, ports.length = ql
  have BB0 : Hid (Below w.heap.size w (w.alloc (.cells #[.int .i64 hosts, .slice pA pl pc, .int .i64 major, .slice wA wl wk, .slice vA m vc, .slice qA ql qc] 27))) := (Below.refl _ w).alloc (Nat.le_refl _) _
  go_enter Try.func56, Try.ntmps56
  go_wp2
  go_loopw [5, 11] (fun v5 v11 wr => ∃ k : Nat, k ≤ m ∧ v11 = .int .i64 k ∧ v5 = .int .i64 (PitotConf.jitter ((vls.take k).map Vx.pl) h) ∧ Below w.heap.size w wr) (fun _ v11 _ => m - (intOf v11).toNat)
  case atStart => exact ⟨0, Nat.zero_le _, rfl, rfl, BB0.out⟩
  case round =>
    obtain ⟨k, hk, rfl, rfl, hB⟩ := hrel
    have HB := Lib.hid hB; clear hB BB0
    have hjl := PitotConf.jitter_le (l := (vls.take k).map Vx.pl) (fun v hv => by obtain ⟨u, hu, rfl⟩ := List.mem_map.1 hv; exact (HS.out u (List.mem_of_mem_take hu)).2) (fun v hv => by obtain ⟨u, hu, rfl⟩ := List.mem_map.1 hv; exact (HS.out u (List.mem_of_mem_take hu)).1) h
    have hlt : ((vls.take k).map Vx.pl).length ≤ 400 := by rw [List.length_map, List.length_take]; omega
    by_cases hkm : k < m
    · have hkl : k < vls.length := by rw [Hm.out]; exact hkm
      have e1 : decide ((k : Int) < (m : Int)) = true := decide_eq_true (by omega)
      have e1' : decide (k < m) = true := decide_eq_true hkm
      obtain ⟨b, off, rfl, hb, hat, _⟩ := HV.out.get hkl
      have hat := hat.below HB.out hb
      have hst : (vls.take (k + 1)).map Vx.pl = (vls.take k).map Vx.pl ++ [vls[k].pl] := by rw [List.take_succ_eq_append_getElem hkl, List.map_append]; rfl
      have hj := PitotConf.jitter_snoc ((vls.take k).map Vx.pl) vls[k].pl h
      rw [← hst] at hj
      have hsx := HS.out _ (List.getElem_mem hkl)
      generalize vls[k] = x at hat hj hsx
      have HJ := Lib.hid hj
      clear hst hj
      obtain ⟨J, HJJ⟩ : ∃ J, Hid (PitotConf.jitter ((vls.take k).map Vx.pl) h = J) := ⟨_, rfl⟩
      rw [HJJ.out] at hjl ⊢
      obtain ⟨a0, a1, a2, a3, a4, a5, a6, a7⟩ := hat
      have HJ2 : Hid (PitotConf.jitter ((vls.take (k + 1)).map Vx.pl) h = if x.host = h then J + x.smax + 20 else J) := by
        show _ = _
        rw [HJ.out]
        simp only [HJJ.out]
      clear HJ
      generalize x.id = xid, x.host = xhost, x.bag = xbag, x.smax = xsmax, x.high = xhigh, x.subs = xsubs, x.skew = xskew, x.toA = xA, x.toc = xtc, x.to.length = tol at a0 a1 a2 a3 a4 a5 a6 a7 HJ2 hsx
      have BB : Hid (Below w.heap.size w (wr.alloc (.cells #[.int .i64 xid, .int .i64 xhost, .int .i64 xbag, .int .i64 xsmax, .bool xhigh, .int .i64 xsubs, .int .i64 xskew, .slice xA tol xtc] 34))) := HB.out.trans (((Below.refl _ wr).alloc (Nat.le_refl _) _).mono HB.out.size)
      have w1 : IntKind.i64.wrap (xsmax + 20) = xsmax + 20 := IntWalk.i64_in _ (by omega)
      have w2 : IntKind.i64.wrap (J + (xsmax + 20)) = J + (xsmax + 20) := IntWalk.i64_in _ (by omega)
      by_cases e : xhost = h
      · have e2 : (xhost == h) = true := by simpa using e
        have HT : Hid (PitotConf.jitter ((vls.take (k + 1)).map Vx.pl) h = J + (xsmax + 20)) := by show _ = _; rw [HJ2.out, if_pos e]; omega
        clear e HJ2
        go_wp2
        go_roundw
        case rel => exact ⟨k + 1, by omega, by go_num, by rw [HT.out], BB.out⟩
        case measure => simp [intOf]; omega
      · have e2 : (xhost == h) = false := by simpa using e
        have HT : Hid (PitotConf.jitter ((vls.take (k + 1)).map Vx.pl) h = J) := by show _ = _; rw [HJ2.out, if_neg e]
        clear e HJ2
        go_wp2
        go_roundw
        case rel => exact ⟨k + 1, by omega, by go_num, by rw [HT.out], BB.out⟩
        case measure => simp [intOf]; omega
    · have e1 : decide ((k : Int) < (m : Int)) = false := decide_eq_false (by omega)
      have e1' : decide (k < m) = false := decide_eq_false hkm
      have HT : Hid (PitotConf.jitter ((vls.take k).map Vx.pl) h = R) := by show _ = _; rw [List.take_of_length_le (by rw [Hm.out]; omega), HR.out]
      rw [HT.out]
      go_wp2
      go_returns
      exact ⟨rfl, HB.out⟩
/-- What the last judge tells. -/
def toldJ (o : Option Nat) : Int × Int := match o with
  | some h => ((h : Int), 26)
  | none => (0, 0)
theorem jitF_some {vls : List PitotConf.Vl} {hosts : Int} {k : Nat} (hk : (k : Int) < hosts) (h : 6250 < PitotConf.jitter vls k) (hb : ∀ j : Nat, j < k → PitotConf.jitter vls j ≤ 6250) : PitotConf.jitF vls hosts = some k := by
  unfold PitotConf.jitF
  rw [List.find?_range_eq_some]
  refine ⟨by simpa using h, List.mem_range.2 (by omega), fun j hj => ?_⟩
  have := hb j hj
  simp only [Bool.not_eq_true', decide_eq_false_iff_not]
  omega
set_option maxHeartbeats 2000000 in
theorem judgeJitters_any (c : Cx) (w : World) (hc : c.Held w) (hl : c.vls.length ≤ 400) (hs : ∀ v ∈ c.vls, 0 ≤ v.smax ∧ v.smax ≤ 10000) (hh : 0 ≤ c.hosts ∧ c.hosts ≤ 1000) : Calls Try.prog 26 #[c.val] w fun e w' => e = .returned (judged (toldJ (PitotConf.jitF (c.vls.map Vx.pl) c.hosts))) ∧ Below w.heap.size w w' := by
  have HJ : Hid (∀ (h : Int) (w' : World), Below w.heap.size w w' → Calls Try.prog 56 #[c.val, .int .i64 h] w' fun e w'' => e = .returned (.int .i64 (PitotConf.jitter (c.vls.map Vx.pl) h)) ∧ Below w'.heap.size w' w'') := fun h w' hb => jitterP_any c h w' (hc.below hb) hl hs
  clear hc hl hs
  obtain ⟨R, HR⟩ : ∃ R, Hid (toldJ (PitotConf.jitF (c.vls.map Vx.pl) c.hosts) = R) := ⟨_, rfl⟩
  rw [HR.out]
  obtain ⟨hosts, pA, pc, parts, major, wA, wk, wins, vA, vc, vls, qA, qc, ports⟩ := c
  simp only at HJ HR hh ⊢
  show Calls Try.prog 26 #[.agg #[.int .i64 hosts, .slice pA parts.length pc, .int .i64 major, .slice wA wins.length wk, .slice vA vls.length vc, .slice qA ports.length qc]] w _
  have HJ : Hid (∀ (h : Int) (w' : World), Below w.heap.size w w' → Calls Try.prog 56 #[.agg #[.int .i64 hosts, .slice pA parts.length pc, .int .i64 major, .slice wA wins.length wk, .slice vA vls.length vc, .slice qA ports.length qc], .int .i64 h] w' fun e w'' => e = .returned (.int .i64 (PitotConf.jitter (vls.map Vx.pl) h)) ∧ Below w'.heap.size w' w'') := HJ
  generalize wins.length = wl, parts.length = pl, ports.length = ql, vls.length = vl at HJ ⊢
  generalize hj : (fun h => PitotConf.jitter (vls.map Vx.pl) h) = jf at HJ
  have HJF : Hid (∀ h, PitotConf.jitter (vls.map Vx.pl) h = jf h) := fun h => by rw [← hj]
  have HJ : Hid (∀ (h : Int) (w' : World), Below w.heap.size w w' → Calls Try.prog 56 #[.agg #[.int .i64 hosts, .slice pA pl pc, .int .i64 major, .slice wA wl wk, .slice vA vl vc, .slice qA ql qc], .int .i64 h] w' fun e w'' => e = .returned (.int .i64 (jf h)) ∧ Below w'.heap.size w' w'') := by rw [← hj]; exact HJ
  clear hj
  obtain ⟨ra, re⟩ := R
  have CB0 : Hid ((w.alloc (.cells #[.int .i64 hosts, .slice pA pl pc, .int .i64 major, .slice wA wl wk, .slice vA vl vc, .slice qA ql qc] 27)).heap[w.heap.size]? = some (.cells #[.int .i64 hosts, .slice pA pl pc, .int .i64 major, .slice wA wl wk, .slice vA vl vc, .slice qA ql qc] 27)) := heap_alloc_new w _
  have BB0 : Hid (Below w.heap.size w (w.alloc (.cells #[.int .i64 hosts, .slice pA pl pc, .int .i64 major, .slice wA wl wk, .slice vA vl vc, .slice qA ql qc] 27))) := (Below.refl _ w).alloc (Nat.le_refl _) _
  go_enter Try.func26, Try.ntmps26
  go_wp2
  go_loopw [7] (fun v7 wr => ∃ k : Nat, (k : Int) ≤ hosts ∧ v7 = .int .i64 k ∧ Hid (∀ j : Nat, j < k → jf j ≤ 6250) ∧ wr.heap[w.heap.size]? = some (.cells #[.int .i64 hosts, .slice pA pl pc, .int .i64 major, .slice wA wl wk, .slice vA vl vc, .slice qA ql qc] 27) ∧ Below w.heap.size w wr) (fun v7 _ => hosts.toNat - (intOf v7).toNat)
  case atStart => exact ⟨0, hh.1, rfl, fun j hj => absurd hj (Nat.not_lt_zero j), CB0.out, BB0.out⟩
  case round =>
    obtain ⟨k, hk, rfl, ht, hC, hB⟩ := hrel
    have HB := Lib.hid hB; have HC := Lib.hid hC
    clear hB hC CB0 BB0
    obtain ⟨c0, c1, c2, c3, c4, c5⟩ := cells_6 HC.out
    by_cases hkm : (k : Int) < hosts
    · have e1 : decide ((k : Int) < hosts) = true := decide_eq_true hkm
      have HJ2 := HJ.out k wr HB.out
      obtain ⟨J, hJ⟩ : ∃ J, jf k = J := ⟨_, rfl⟩
      rw [hJ] at HJ2
      have HJ2 := Lib.hid HJ2
      by_cases g : 6250 < J
      · have f1 : decide (6250 < J) = true := decide_eq_true g
        have HT : Hid (((k : Int), (26 : Int)) = (ra, re)) := by
          show _ = _
          rw [← HR.out, jitF_some hkm (by rw [HJF.out, hJ]; exact g) (fun j hj => by rw [HJF.out]; exact ht.out j hj)]; rfl
        clear ht g hJ
        go_wp2_with (go_at_call 56; (with_reducible refine (HJ2.out).mono ?_); rintro e w2 ⟨rfl, hb2⟩)
        go_returns
        have := HT.out
        injection this with h1 h2
        subst h1; subst h2
        exact ⟨rfl, HB.out.trans (hb2.mono HB.out.size)⟩
      · have f1 : decide (6250 < J) = false := decide_eq_false g
        have HT : Hid (∀ j : Nat, j < k + 1 → jf j ≤ 6250) := fun j hj => by
          by_cases e : j = k
          · rw [e, hJ]; omega
          · exact ht.out j (by omega)
        clear ht g hJ
        go_wp2_with (go_at_call 56; (with_reducible refine (HJ2.out).mono ?_); rintro e w2 ⟨rfl, hb2⟩)
        have HB2 := Lib.hid (HB.out.trans (hb2.mono HB.out.size))
        have HC2 := Lib.hid (lies_below HC.out hb2 (lies_lt HC.out))
        clear hb2
        go_roundw
        case rel => exact ⟨k + 1, by omega, by go_num, HT, HC2.out, HB2.out⟩
        case measure => simp [intOf]; omega
    · have e1 : decide ((k : Int) < hosts) = false := decide_eq_false hkm
      have HT : Hid (((0 : Int), (0 : Int)) = (ra, re)) := by
        show _ = _
        rw [← HR.out, PitotConf.jitF_none.2 (fun h hh2 => by rw [HJF.out]; exact ht.out h (by omega))]; rfl
      clear ht
      go_wp2
      go_returns
      have := HT.out
      injection this with h1 h2
      subst h1; subst h2
      exact ⟨rfl, HB.out⟩
end Go.Proofs.Ytdphapjeohkbjaa
/- The contracts of the library functions that the program calls, laid over this program by the kit's own command in plain words. -/
namespace Go.Proofs
open Go.Shelf
def Try.lays107_ren : Go.Shelf.Ren := ⟨fun | 107 => 92 | 108 => 97 | n => n, fun | 28 => 22 | 3 => 3 | 4 => 4 | 0 => 0 | n => n, fun | n => n⟩
theorem Try.lays107 : Go.Proofs.Lays.n107 Try.prog Try.lays107_ren := {
  mixed := by kernel_rfl
  f107 := Try.func92.trans (congrArg some (by kernel_rfl))
  f108 := Try.func97.trans (congrArg some (by kernel_rfl))
  t0 := Try.underlying0
  a0 := Try.isAgg0
  z0 := Try.sizeOf0
  v0 := Try.zeroValue0
  t3 := Try.underlying3
  a3 := Try.isAgg3
  z3 := Try.sizeOf3
  v3 := Try.zeroValue3
  t4 := Try.underlying4
  a4 := Try.isAgg4
  z4 := Try.sizeOf4
  v4 := Try.zeroValue4
  t28 := Try.underlying22
  a28 := Try.isAgg22
  z28 := Try.sizeOf22
  v28 := Try.zeroValue22 }
open Go.Lib in
theorem Try.slices_Contains_int (b off n c : Nat) (zs : List Int) (x : Int) (w : World) (hz : n ≤ zs.length) (hbig : n ≤ 9223372036854775807) (hc : ∀ j, j < zs.length → w.cell? ⟨b, off + j, none⟩ = some (.int .i64 (zs.getD j 0))) :
    Calls Try.prog 92 #[.slice (some ⟨b, off, none⟩) n c, .int .i64 x] w fun e w' => e = .returned (.bool ((zs.take n).contains x)) ∧ w' = w := Any.slices_Contains_int Try.lays107 b off n c zs x w hz hbig hc
open Go.Lib in
theorem Try.slices_Contains_int_empty (a : Option Addr) (c : Nat) (x : Int) (w : World) :
    Calls Try.prog 92 #[.slice a 0 c, .int .i64 x] w fun e w' => e = .returned (.bool false) ∧ w' = w := Any.slices_Contains_int_empty Try.lays107 a c x w
def Try.laysNm215_ren : Go.Shelf.Ren := ⟨fun | 15 => 91 | n => n, fun | 22 => 22 | 3 => 3 | 4 => 4 | n => n, fun | n => n⟩
theorem Try.laysNm215 : Go.Proofs.Lays2.n15 Try.prog Try.laysNm215_ren := {
  mixed := by kernel_rfl
  f15 := Try.func91.trans (congrArg some (by kernel_rfl))
  t3 := Try.underlying3
  a3 := Try.isAgg3
  z3 := Try.sizeOf3
  v3 := Try.zeroValue3
  t4 := Try.underlying4
  a4 := Try.isAgg4
  z4 := Try.sizeOf4
  v4 := Try.zeroValue4
  t22 := Try.underlying22
  a22 := Try.isAgg22
  z22 := Try.sizeOf22
  v22 := Try.zeroValue22
  i3 := by kernel_rfl }
open Go.RowKit Go.Lib in
theorem Try.slices_Clone_int (b off n c : Nat) (zs : List Int) (w : World) (hz : n ≤ zs.length) (hbig : n * 8 ≤ 140737488355328) (hc : ∀ j, j < zs.length → w.cell? ⟨b, off + j, none⟩ = some (.int .i64 (zs.getD j 0))) :
    Calls Try.prog 91 #[.slice (some ⟨b, off, none⟩) n c] w fun e w' => ∃ v', e = .returned v' ∧ w'.ownsRow w.heap.size 3 1 v' n ((zs.take n).map (Value.int .i64)) ∧ v' ≠ .slice none 0 0 ∧ Below w.heap.size w w' := Any.slices_Clone_int Try.laysNm215 b off n c zs w hz hbig hc
open Go.RowKit Go.Lib in
theorem Try.slices_Clone_int_nil (n c : Nat) (w : World) :
    Calls Try.prog 91 #[.slice none n c] w fun e w' => e = .returned (.slice none 0 0) ∧ w' = w := Any.slices_Clone_int_nil Try.laysNm215 n c w
open Go.RowKit Go.Lib in
theorem Try.slices_Clone_int_zero (a : Addr) (c : Nat) (w : World) :
    Calls Try.prog 91 #[.slice (some a) 0 c] w fun e w' => ∃ v', e = .returned v' ∧ w'.ownsRow w.heap.size 3 1 v' 0 [] ∧ v' ≠ .slice none 0 0 ∧ Below w.heap.size w w' := Any.slices_Clone_int_zero Try.laysNm215 a c w
end Go.Proofs
