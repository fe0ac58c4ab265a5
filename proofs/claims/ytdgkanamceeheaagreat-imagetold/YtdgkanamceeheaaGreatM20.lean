/- The program looks at the links. -/
import Derived.Test.YtdgkanamceeheaaGreatM19
set_option linter.unusedVariables false
set_option maxRecDepth 100000
namespace Go.Proofs.YtdgkanamceeheaaGreat
open Go.RowKit

/-- The number of the last one of some links. -/
def aheadV (l : List Vx) : Int := match l.getLast? with
  | some u => u.id
  | none => 0
theorem aheadV_take (l : List Vx) (k : Nat) (h : k < l.length) : aheadV (l.take (k + 1)) = l[k].id := by
  rw [aheadV, List.take_succ_eq_append_getElem h, List.getLast?_append]; rfl
theorem mayV_id {hosts vid vhost vbag vsmax vsubs vskew : Int} {tl : Nat} : mayV hosts vid vhost vbag vsmax vsubs vskew tl = true ↔ 1 ≤ vid ∧ vid ≤ 65535 ∧ PitotConf.isHost hosts vhost = true ∧ 0 ≤ vbag ∧ vbag ≤ 7 ∧ 64 ≤ vsmax ∧ vsmax ≤ 1518 ∧ 1 ≤ vsubs ∧ vsubs ≤ 4 ∧ 0 ≤ vskew ∧ vskew ≤ 1073741824 ∧ 0 < tl := by
  simp only [mayV, Bool.and_eq_true, decide_eq_true_eq]
  constructor
  · rintro ⟨⟨a, b⟩, c, ⟨d, e⟩, ⟨f, g⟩, ⟨h, i⟩, ⟨j, k⟩, l⟩; exact ⟨a, b, c, d, e, f, g, h, i, j, k, by omega⟩
  · rintro ⟨a, b, c, d, e, f, g, h, i, j, k, l⟩; exact ⟨⟨a, b⟩, c, ⟨d, e⟩, ⟨f, g⟩, ⟨h, i⟩, ⟨j, k⟩, by omega⟩
/-- The judge of a link in plain words is the program's. -/
theorem linkJ_eq (hosts : Int) (l : List Vx) (k : Nat) (h : k < l.length) : PitotConf.linkJ hosts ((l.map Vx.pl).take k) ((l.map Vx.pl)[k]'(by simpa using h)) = if 256 ≤ k then 1 else linkP hosts (aheadV (l.take k)) l[k] := by
  have hlen : ((l.map Vx.pl).take k).length = k := by simp; omega
  have hlast : ((l.map Vx.pl).take k).getLast? = ((l.take k).getLast?).map Vx.pl := by rw [← List.map_take, List.getLast?_map]
  rw [PitotConf.linkJ, hlen, List.getElem_map, hlast]
  generalize l[k] = x
  by_cases h1 : 256 ≤ k
  · rw [if_pos (Or.inl h1), if_pos h1]
  rw [if_neg h1, linkP]
  by_cases h2 : mayV hosts x.id x.host x.bag x.smax x.subs x.skew x.to.length = false
  · rw [if_pos h2, if_pos]
    right
    apply Classical.byContradiction
    intro hh
    have : mayV hosts x.id x.host x.bag x.smax x.subs x.skew x.to.length = true := by
      rw [mayV_id]
      simp only [not_or] at hh
      obtain ⟨a, b, c, d, e, f, g, h, i, j, n, o⟩ := hh
      exact ⟨by omega, by omega, by simpa using c, by omega, by omega, by omega, by omega, by omega, by omega, by omega, by omega, List.length_pos_iff.2 o⟩
    rw [this] at h2; cases h2
  · have h2 : mayV hosts x.id x.host x.bag x.smax x.subs x.skew x.to.length = true := by simpa using h2
    have h2' := h2
    rw [mayV_id] at h2
    obtain ⟨a, b, c, d, e, f, g, hh, i, j, n, o⟩ := h2
    have hbad : ¬ (256 ≤ k ∨ x.pl.id < 1 ∨ 65535 < x.pl.id ∨ PitotConf.isHost hosts x.pl.host = false ∨ x.pl.bag < 0 ∨ 7 < x.pl.bag ∨ x.pl.smax < 64 ∨ 1518 < x.pl.smax ∨ x.pl.subs < 1 ∨ 4 < x.pl.subs ∨ x.pl.skew < 0 ∨ 1073741824 < x.pl.skew ∨ x.pl.to = []) := by
      rintro (q | q | q | q | q | q | q | q | q | q | q | q | q)
      · exact h1 q
      · have : x.id < 1 := q; omega
      · have : 65535 < x.id := q; omega
      · have q : PitotConf.isHost hosts x.host = false := q; rw [c] at q; cases q
      · have : x.bag < 0 := q; omega
      · have : 7 < x.bag := q; omega
      · have : x.smax < 64 := q; omega
      · have : 1518 < x.smax := q; omega
      · have : x.subs < 1 := q; omega
      · have : 4 < x.subs := q; omega
      · have : x.skew < 0 := q; omega
      · have : 1073741824 < x.skew := q; omega
      · have : x.to = [] := q; rw [this] at o; exact absurd o (by simp)
    rw [if_neg hbad, h2', if_neg (show ¬ (true = false) by decide), aheadV]
    cases (l.take k).getLast? with
    | none =>
      show (if false = true ∨ PitotConf.rises x.to = false then (25 : Int) else if (x.to.any fun n => !PitotConf.isHost hosts n || decide (n = x.host)) = true then 20 else 0) = (if decide (x.id ≤ 0) = true then 25 else if PitotConf.rises x.to = false then 25 else if (x.to.any fun n => !PitotConf.isHost hosts n || decide (n = x.host)) = true then 20 else 0)
      rw [if_neg (show ¬ decide (x.id ≤ 0) = true by simp; omega)]
      by_cases h5 : PitotConf.rises x.to = false
      · rw [if_pos (Or.inr h5), if_pos h5]
      · rw [if_neg (by rintro (h | h); cases h; exact h5 h), if_neg h5]
    | some u =>
      show (if decide (x.id ≤ u.id) = true ∨ PitotConf.rises x.to = false then (25 : Int) else if (x.to.any fun n => !PitotConf.isHost hosts n || decide (n = x.host)) = true then 20 else 0) = (if decide (x.id ≤ u.id) = true then 25 else if PitotConf.rises x.to = false then 25 else if (x.to.any fun n => !PitotConf.isHost hosts n || decide (n = x.host)) = true then 20 else 0)
      by_cases h4 : decide (x.id ≤ u.id) = true
      · rw [if_pos (Or.inl h4), if_pos h4]
      · rw [if_neg h4]
        by_cases h5 : PitotConf.rises x.to = false
        · rw [if_pos (Or.inr h5), if_pos h5]
        · rw [if_neg (by rintro (h | h); exact h4 h; exact h5 h), if_neg h5]
set_option maxHeartbeats 4000000 in
theorem judgeVLs_any (c : Cx) (w : World) (hc : c.Held w) (hl : c.vls.length ≤ maxLen) (htl : ∀ v ∈ c.vls, v.to.length ≤ maxLen) (h0 : -9223372036854775807 ≤ c.hosts ∧ c.hosts ≤ 9223372036854775807) : Calls Tryz.prog 32 #[c.val] w fun e w' => e = .returned (judged (told (PitotConf.scan (PitotConf.linkJ c.hosts) [] (c.vls.map Vx.pl)))) ∧ Below w.heap.size w w' := by
  unfold maxLen at hl
  have HV : Hid (VxsAt w c.vlsA c.vls) := hc.2.2.1
  have HTL := Lib.hid htl
  clear hc htl
  obtain ⟨R, HR⟩ : ∃ R, Hid (told (PitotConf.scan (PitotConf.linkJ c.hosts) [] (c.vls.map Vx.pl)) = R) := ⟨_, rfl⟩
  rw [HR.out]
  obtain ⟨hosts, pA, pc, parts, major, wA, wk, wins, vA, vc, vls, qA, qc, ports⟩ := c
  simp only at HV HR hl h0 HTL ⊢
  obtain ⟨m, Hm⟩ : ∃ m, Hid (vls.length = m) := ⟨_, rfl⟩
  show Calls Tryz.prog 32 #[.agg #[.int .i64 hosts, .slice pA parts.length pc, .int .i64 major, .slice wA wins.length wk, .slice vA vls.length vc, .slice qA ports.length qc]] w _
  rw [Hm.out] at hl ⊢
  generalize wins.length = wl, parts.length = pl, ports.length = ql
  obtain ⟨ra, re⟩ := R
  have HJ := Lib.hid (fun vid vhost vbag vsmax vsubs vskew vhigh tA tl tc tolx ahead w => judgeVL_any hosts major pA wA vA qA pl pc wl wk m vc ql qc vid vhost vbag vsmax vsubs vskew vhigh tA tl tc tolx ahead w h0.1 h0.2)
  have CB0 : Hid ((w.alloc (.cells #[.int .i64 hosts, .slice pA pl pc, .int .i64 major, .slice wA wl wk, .slice vA m vc, .slice qA ql qc] 28)).heap[w.heap.size]? = some (.cells #[.int .i64 hosts, .slice pA pl pc, .int .i64 major, .slice wA wl wk, .slice vA m vc, .slice qA ql qc] 28)) := heap_alloc_new w _
  have BB0 : Hid (Below w.heap.size w (w.alloc (.cells #[.int .i64 hosts, .slice pA pl pc, .int .i64 major, .slice wA wl wk, .slice vA m vc, .slice qA ql qc] 28))) := (Below.refl _ w).alloc (Nat.le_refl _) _
  go_enter Tryz.func32, Tryz.ntmps32
  go_wp2
  go_loopw [4, 11] (fun v4 v11 wr => ∃ k : Nat, k ≤ m ∧ v11 = .int .i64 k ∧ v4 = .int .i64 (aheadV (vls.take k)) ∧ Hid (told (PitotConf.scan (PitotConf.linkJ hosts) ((vls.map Vx.pl).take k) ((vls.map Vx.pl).drop k)) = (ra, re)) ∧ wr.heap[w.heap.size]? = some (.cells #[.int .i64 hosts, .slice pA pl pc, .int .i64 major, .slice wA wl wk, .slice vA m vc, .slice qA ql qc] 28) ∧ Below w.heap.size w wr) (fun _ v11 _ => m - (intOf v11).toNat)
  case atStart => exact ⟨0, Nat.zero_le _, rfl, rfl, HR, CB0.out, BB0.out⟩
  case round =>
    obtain ⟨k, hk, rfl, rfl, ht, hC, hB⟩ := hrel
    have HB := Lib.hid hB; have HC := Lib.hid hC
    clear hB hC CB0 BB0
    obtain ⟨c0, c1, c2, c3, c4, c5⟩ := cells_6 HC.out
    by_cases hkm : k < m
    · have hkl : k < vls.length := by rw [Hm.out]; exact hkm
      have e1 : decide ((k : Int) < (m : Int)) = true := decide_eq_true (by omega)
      have e1' : decide (k < m) = true := decide_eq_true hkm
      obtain ⟨b, off, rfl, hb, hat, hxh⟩ := HV.out.get hkl
      have hat := hat.below HB.out hb
      have hs := scan_step (PitotConf.linkJ hosts) (vls.map Vx.pl) k (by simpa using hkl)
      rw [linkJ_eq hosts vls k hkl] at hs
      have hah := aheadV_take vls k hkl
      have hxl := HTL.out _ (List.getElem_mem hkl)
      generalize aheadV (vls.take k) = ahead at hs ⊢
      generalize vls[k] = x at hat hs hxh hah hxl
      have HTo : Hid (IntsAt wr x.toA x.to) := IntsAt.below hxh HB.out
      obtain ⟨tol, Htol⟩ : ∃ tol, Hid (x.to.length = tol) := ⟨_, rfl⟩
      have HJ2 := fun W (hb : Below wr.heap.size wr W) => HJ.out x.id x.host x.bag x.smax x.subs x.skew x.high x.toA tol x.toc x.to ahead W (IntsAt.below HTo.out hb) Htol.out (by rw [← Htol.out]; exact hxl)
      have HLE : linkP hosts ahead ⟨x.id, x.host, x.bag, x.smax, x.high, x.subs, x.skew, x.toA, x.toc, x.to⟩ = linkP hosts ahead x := rfl
      rw [HLE] at HJ2
      generalize linkP hosts ahead x = J at HJ2 hs
      have HJ3 := Lib.hid HJ2
      clear HJ2 HLE hxh
      unfold VxAt at hat
      rw [Htol.out] at hat
      obtain ⟨a0, a1, a2, a3, a4, a5, a6, a7⟩ := hat
      have HAH := Lib.hid hah
      have HS := Lib.hid hs
      clear hah hs
      obtain ⟨xid, Hxid⟩ : ∃ xid, Hid (x.id = xid) := ⟨_, rfl⟩
      rw [Hxid.out] at a0 HJ3 HAH
      generalize x.host = xhost, x.bag = xbag, x.smax = xsmax, x.high = xhigh, x.subs = xsubs, x.skew = xskew, x.toA = xA, x.toc = xtc at a1 a2 a3 a4 a5 a6 a7 HJ3
      go_upto_region 5 with (fail)
      have CB : Hid ((wr.alloc (.cells #[.int .i64 xid, .int .i64 xhost, .int .i64 xbag, .int .i64 xsmax, .bool xhigh, .int .i64 xsubs, .int .i64 xskew, .slice xA tol xtc] 60)).heap[w.heap.size]? = some (.cells #[.int .i64 hosts, .slice pA pl pc, .int .i64 major, .slice wA wl wk, .slice (some ⟨b, off, none⟩) m vc, .slice qA ql qc] 28)) := lies_alloc HC.out _
      have XB : Hid ((wr.alloc (.cells #[.int .i64 xid, .int .i64 xhost, .int .i64 xbag, .int .i64 xsmax, .bool xhigh, .int .i64 xsubs, .int .i64 xskew, .slice xA tol xtc] 60)).heap[wr.heap.size]? = some (.cells #[.int .i64 xid, .int .i64 xhost, .int .i64 xbag, .int .i64 xsmax, .bool xhigh, .int .i64 xsubs, .int .i64 xskew, .slice xA tol xtc] 60)) := heap_alloc_new wr _
      have AB : Hid (Below wr.heap.size wr (wr.alloc (.cells #[.int .i64 xid, .int .i64 xhost, .int .i64 xbag, .int .i64 xsmax, .bool xhigh, .int .i64 xsubs, .int .i64 xskew, .slice xA tol xtc] 60))) := (Below.refl _ wr).alloc (Nat.le_refl _) _
      have BB : Hid (Below w.heap.size w (wr.alloc (.cells #[.int .i64 xid, .int .i64 xhost, .int .i64 xbag, .int .i64 xsmax, .bool xhigh, .int .i64 xsubs, .int .i64 xskew, .slice xA tol xtc] 60))) := HB.out.trans (AB.out.mono HB.out.size)
      clear a0 a1 a2 a3 a4 a5 a6 a7 c0 c1 c2 c3 c4 c5
      have HXL : Hid (wr.heap.size = wr.heap.size) := rfl
      have HJ4 := Lib.hid (HJ3.out _ AB.out)
      clear HJ3
      generalize wr.alloc (.cells #[.int .i64 xid, .int .i64 xhost, .int .i64 xbag, .int .i64 xsmax, .bool xhigh, .int .i64 xsubs, .int .i64 xskew, .slice xA tol xtc] 60) = W1 at CB XB BB HJ4 ⊢
      clear AB
      generalize wr.heap.size = xb at XB ⊢
      obtain ⟨c0, c1, c2, c3, c4, c5⟩ := cells_6 CB.out
      obtain ⟨x0, x1, x2, x3, x4, x5, x6, x7⟩ := cells_8 XB.out
      by_cases g0 : 256 ≤ k
      · have f0 : decide (256 ≤ (k : Int)) = true := decide_eq_true (by omega)
        have f0' : decide (256 ≤ k) = true := decide_eq_true g0
        have HT : Hid (((k : Int), (1 : Int)) = (ra, re)) := by
          show _ = _
          rw [← ht.out, HS.out, if_pos g0, if_neg (by decide)]; rfl
        clear ht
        go_wp2
        go_returns
        have := HT.out
        injection this with h1 h2
        subst h1; subst h2
        exact ⟨rfl, BB.out⟩
      · have f0 : decide (256 ≤ (k : Int)) = false := decide_eq_false (by omega)
        have f0' : decide (256 ≤ k) = false := decide_eq_false g0
        have hs := HS.out
        rw [if_neg g0] at hs
        by_cases g1 : J = 0
        · have f1 : (J == 0) = true := by rw [g1]; rfl
          have HT : Hid (told (PitotConf.scan (PitotConf.linkJ hosts) ((vls.map Vx.pl).take (k + 1)) ((vls.map Vx.pl).drop (k + 1))) = (ra, re)) := by
            show _ = _
            rw [← ht.out, hs, if_pos g1]
          clear ht hs HS g1
          go_wp2_with (first
            | (go_at_call 78; (with_reducible refine (HJ4.out).mono ?_); rintro e w2 ⟨rfl, hb2⟩
               (have C2 := Lib.hid (lies_below CB.out hb2 (lies_lt CB.out)))
               (have X2 := Lib.hid (lies_below XB.out hb2 (lies_lt XB.out)))
               (have B2 := Lib.hid (BB.out.trans (hb2.mono BB.out.size)))
               (clear hb2 CB XB BB c0 c1 c2 c3 c4 c5 x0 x1 x2 x3 x4 x5 x6 x7)
               (have CB := C2)
               (have XB := X2)
               (have BB := B2)
               (clear C2 X2 B2)
               (obtain ⟨c0, c1, c2, c3, c4, c5⟩ := cells_6 CB.out)
               (obtain ⟨x0, x1, x2, x3, x4, x5, x6, x7⟩ := cells_8 XB.out)))
          go_roundw
          case rel => exact ⟨k + 1, by omega, by go_num, by rw [HAH.out], HT, CB.out, BB.out⟩
          case measure => simp [intOf]; omega
        · have f1 : (J == 0) = false := by simpa using g1
          have HT : Hid (((k : Int), J) = (ra, re)) := by
            show _ = _
            rw [← ht.out, hs, if_neg g1]; rfl
          clear ht hs HS g1
          go_wp2_with (first
            | (go_at_call 78; (with_reducible refine (HJ4.out).mono ?_); rintro e w2 ⟨rfl, hb2⟩
               (have C2 := Lib.hid (lies_below CB.out hb2 (lies_lt CB.out)))
               (have X2 := Lib.hid (lies_below XB.out hb2 (lies_lt XB.out)))
               (have B2 := Lib.hid (BB.out.trans (hb2.mono BB.out.size)))
               (clear hb2 CB XB BB c0 c1 c2 c3 c4 c5 x0 x1 x2 x3 x4 x5 x6 x7)
               (have CB := C2)
               (have XB := X2)
               (have BB := B2)
               (clear C2 X2 B2)
               (obtain ⟨c0, c1, c2, c3, c4, c5⟩ := cells_6 CB.out)
               (obtain ⟨x0, x1, x2, x3, x4, x5, x6, x7⟩ := cells_8 XB.out)))
          go_returns
          have := HT.out
          injection this with h1 h2
          subst h1; subst h2
          exact ⟨rfl, BB.out⟩
    · have e1 : decide ((k : Int) < (m : Int)) = false := decide_eq_false (by omega)
      have e1' : decide (k < m) = false := decide_eq_false hkm
      have HT : Hid (((0 : Int), (0 : Int)) = (ra, re)) := by
        show _ = _
        rw [← ht.out, scan_end _ _ _ (by rw [List.length_map, Hm.out]; omega)]; rfl
      clear ht
      go_wp2
      go_returns
      have := HT.out
      injection this with h1 h2
      subst h1; subst h2
      exact ⟨rfl, HB.out⟩
end Go.Proofs.YtdgkanamceeheaaGreat
