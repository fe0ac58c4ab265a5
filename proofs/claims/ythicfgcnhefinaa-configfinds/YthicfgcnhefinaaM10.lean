/- Merged: Sp, Ct, Ci. -/
import Derived.Test.YthicfgcnhefinaaM9
import Derived.Test.YthicfgcnhefinaaM5
import Derived.Test.YthicfgcnhefinaaM4
import Derived.Deep.RegionHeld3
set_option linter.unusedVariables false
/- The program's Sends and Takes. -/
set_option maxRecDepth 100000
namespace Go.Proofs.Ythicfgcnhefinaa
open Go.RowKit Go.Deep

theorem isSend_any (vid vhost vbag vsmax vsubs vskew : Int) (vhigh : Bool) (tA : Option Addr) (tl tc : Nat) (hb : Nat) (h : Int) (W : World) (hI : W.heap[hb]? = some (.cells #[.int .i64 h] 3)) : Calls Try.prog 42 #[.agg #[.int .i64 vid, .int .i64 vhost, .int .i64 vbag, .int .i64 vsmax, .bool vhigh, .int .i64 vsubs, .int .i64 vskew, .slice tA tl tc], .pointer (some ⟨hb, 0, none⟩)] W fun e w' => e = .returned (.bool (decide (vhost = h))) ∧ Below W.heap.size W w' := by
  have kb : Hid (Below W.heap.size W (W.alloc (.cells #[.int .i64 vid, .int .i64 vhost, .int .i64 vbag, .int .i64 vsmax, .bool vhigh, .int .i64 vsubs, .int .i64 vskew, .slice tA tl tc] 38))) := (Below.refl _ W).alloc (Nat.le_refl _) _
  have hi := lies_cell hI 0
  have hlt := lies_lt hI
  have hi2 : (W.alloc (.cells #[.int .i64 vid, .int .i64 vhost, .int .i64 vbag, .int .i64 vsmax, .bool vhigh, .int .i64 vsubs, .int .i64 vskew, .slice tA tl tc] 38)).cell? ⟨hb, 0, none⟩ = some (.int .i64 h) := (kb.out.cell hlt).trans hi
  obtain ⟨E, hE⟩ : ∃ E, decide (vhost = h) = E := ⟨_, rfl⟩
  have hE' : (vhost == h) = E := by rw [← hE]; rfl
  rw [hE]
  clear hi hI
  go_enter Try.func42, Try.ntmps42
  go_wp2
  go_returns
  exact ⟨rfl, kb.out⟩
theorem isTake_any (vid vhost vbag vsmax vsubs vskew : Int) (vhigh : Bool) (tA : Option Addr) (tl tc : Nat) (tol : List Int) (hb : Nat) (h : Int) (W : World) (hI : W.heap[hb]? = some (.cells #[.int .i64 h] 3)) (hT : IntsAt W tA tol) (htl : tol.length = tl) (hl : tl ≤ 1000) : Calls Try.prog 44 #[.agg #[.int .i64 vid, .int .i64 vhost, .int .i64 vbag, .int .i64 vsmax, .bool vhigh, .int .i64 vsubs, .int .i64 vskew, .slice tA tl tc], .pointer (some ⟨hb, 0, none⟩)] W fun e w' => e = .returned (.bool (tol.contains h)) ∧ Below W.heap.size W w' := by
  have kb : Hid (Below W.heap.size W (W.alloc (.cells #[.int .i64 vid, .int .i64 vhost, .int .i64 vbag, .int .i64 vsmax, .bool vhigh, .int .i64 vsubs, .int .i64 vskew, .slice tA tl tc] 38))) := (Below.refl _ W).alloc (Nat.le_refl _) _
  have hi := lies_cell hI 0
  have hlt := lies_lt hI
  have hi2 : (W.alloc (.cells #[.int .i64 vid, .int .i64 vhost, .int .i64 vbag, .int .i64 vsmax, .bool vhigh, .int .i64 vsubs, .int .i64 vskew, .slice tA tl tc] 38)).cell? ⟨hb, 0, none⟩ = some (.int .i64 h) := (kb.out.cell hlt).trans hi
  have HC := containsI_any tA tc tol h (W.alloc (.cells #[.int .i64 vid, .int .i64 vhost, .int .i64 vbag, .int .i64 vsmax, .bool vhigh, .int .i64 vsubs, .int .i64 vskew, .slice tA tl tc] 38)) (hT.below kb.out) (by unfold maxLen; omega)
  rw [htl] at HC
  generalize tol.contains h = R at HC ⊢
  have HC := Lib.hid HC
  clear hi hI hT
  go_enter Try.func44, Try.ntmps44
  go_wp2_with (go_at_call 45; (with_reducible refine (HC.out).mono ?_); rintro e w3 ⟨rfl, rfl⟩)
  go_returns
  exact ⟨rfl, kb.out⟩
theorem once_gather (vls : List Vx) (g : PitotConf.Vl → Bool) : once (((vls.filter fun v => g v.pl)).map Vx.id) = PitotConf.gatherIds (vls.map Vx.pl) g := by
  refine PitotConf.gatherIds_only (once_rising _) fun x => ?_
  rw [once_mem, List.mem_map]
  constructor
  · rintro ⟨v, hv, rfl⟩
    obtain ⟨h1, h2⟩ := List.mem_filter.1 hv
    exact ⟨v.pl, List.mem_map_of_mem h1, h2, rfl⟩
  · rintro ⟨u, hu, h2, rfl⟩
    obtain ⟨v, hv, rfl⟩ := List.mem_map.1 hu
    exact ⟨v, List.mem_filter.2 ⟨hv, h2⟩, rfl⟩
theorem own_keep {w w' : World} {B : Nat} {v : Value} {n : Nat} {xs : List Value} (h : w.ownsRow B 3 1 v n xs) (hb : Below w.heap.size w w') : w'.ownsRow B 3 1 v n xs := by
  refine ⟨h.1, ?_⟩
  rcases h.2 with h2 | ⟨g, cap, cur, h1, h2, h3, h4⟩
  · exact .inl h2
  · refine .inr ⟨g, cap, cur, h1, h2, ?_, h4⟩
    have hlt : g < w.heap.size := by
      rcases Nat.lt_or_ge g w.heap.size with h' | h'
      · exact h'
      · rw [Array.getElem?_eq_none h'] at h3; cases h3
    exact (hb.block g hlt).trans h3
set_option maxHeartbeats 4000000 in
theorem sendsP_num (c : Cx) (h : Int) (hb : Nat) (w : World) (hc : c.Held w) (hH : w.heap[hb]? = some (.cells #[.int .i64 h] 3)) (hl : c.vls.length ≤ 300) (htl : ∀ v ∈ c.vls, v.to.length ≤ 1000) : Calls Try.prog 41 #[c.val, .func (.func 42) #[] #[.pointer (some ⟨hb, 0, none⟩)]] w fun e w' => (∃ A cap, e = .returned (.slice A (PitotConf.gatherIds (c.vls.map Vx.pl) (fun v => decide (v.host = h))).length cap) ∧ IntsAt w' A (PitotConf.gatherIds (c.vls.map Vx.pl) (fun v => decide (v.host = h)))) ∧ Below w.heap.size w w' := by
  have HV : Hid (VxsAt w c.vlsA c.vls) := hc.2.2.1
  have HTL := Lib.hid htl
  have HQ := Lib.hid (fun (vid vhost vbag vsmax vsubs vskew : Int) (vhigh : Bool) (tA : Option Addr) (tl tc : Nat) (w' : World) (hb' : Below w.heap.size w w') => isSend_any vid vhost vbag vsmax vsubs vskew vhigh tA tl tc hb h w' (lies_below hH hb' (lies_lt hH)))
  rw [← once_gather]
  clear hc htl hH
  obtain ⟨hosts, pA, pc, parts, major, wA, wk, wins, vA, vc, vls, qA, qc, ports⟩ := c
  simp only at HV HTL hl ⊢
  obtain ⟨m, Hm⟩ : ∃ m, Hid (vls.length = m) := ⟨_, rfl⟩
  show Calls Try.prog 41 #[.agg #[.int .i64 hosts, .slice pA parts.length pc, .int .i64 major, .slice wA wins.length wk, .slice vA vls.length vc, .slice qA ports.length qc], _] w _
  rw [Hm.out] at hl ⊢
  generalize wins.length = wl, parts.length = pl, ports.length = ql
  obtain ⟨G, HG⟩ : ∃ G, Hid (once ((vls.filter fun v => decide (v.pl.host = h)).map Vx.id) = G) := ⟨_, rfl⟩
  rw [show once ((vls.filter fun v => decide (v.pl.host = h)).map Vx.id) = G from HG.out]
  have BB0 : Hid (Below w.heap.size w (w.alloc (.cells #[.int .i64 hosts, .slice pA pl pc, .int .i64 major, .slice wA wl wk, .slice vA m vc, .slice qA ql qc] 27))) := (Below.refl _ w).alloc (Nat.le_refl _) _
  go_enter Try.func41, Try.ntmps41
  go_wp2
  go_loopw [5, 11] (fun v5 v11 wr => ∃ k : Nat, k ≤ m ∧ v11 = .int .i64 k ∧ wr.ownsRow w.heap.size 3 1 v5 ((((vls.take k).filter fun v => decide (v.pl.host = h))).map Vx.id).length (enI (((vls.take k).filter fun v => decide (v.pl.host = h)).map Vx.id)) ∧ Below w.heap.size w wr) (fun _ v11 _ => m - (intOf v11).toNat)
  case atStart => exact ⟨0, Nat.zero_le _, rfl, ⟨rfl, .inl ⟨rfl, rfl⟩⟩, BB0.out⟩
  case round =>
    obtain ⟨k, hk, rfl, hrow, hB⟩ := hrel
    have HRW := Lib.hid hrow; have HB := Lib.hid hB
    clear hrow hB BB0
    have hlen : (((vls.take k).filter fun v => decide (v.pl.host = h)).map Vx.id).length ≤ k := by
      rw [List.length_map]
      exact Nat.le_trans (List.length_filter_le _ _) (List.length_take_le _ _)
    by_cases hkm : k < m
    · have hkl : k < vls.length := by rw [Hm.out]; exact hkm
      have e1 : decide ((k : Int) < (m : Int)) = true := decide_eq_true (by omega)
      have e1' : decide (k < m) = true := decide_eq_true hkm
      obtain ⟨b, off, rfl, hbb, hat, hxh⟩ := HV.out.get hkl
      have hat := hat.below HB.out hbb
      have hst : ((vls.take (k + 1)).filter fun v => decide (v.pl.host = h)).map Vx.id = ((vls.take k).filter fun v => decide (v.pl.host = h)).map Vx.id ++ (if (fun v : Vx => decide (v.pl.host = h)) vls[k] = true then [vls[k].id] else []) := by
        rw [List.take_succ_eq_append_getElem hkl, List.filter_append, List.map_append, List.filter_cons]
        by_cases hp : (fun v : Vx => decide (v.pl.host = h)) vls[k] = true
        · rw [if_pos hp, if_pos hp]; rfl
        · rw [if_neg hp, if_neg hp]; rfl
      have hxl := HTL.out _ (List.getElem_mem hkl)
      generalize vls[k] = x at hat hst hxh hxl
      have HTo : Hid (IntsAt wr x.toA x.to) := IntsAt.below hxh HB.out
      obtain ⟨xid, xhost, xbag, xsmax, xhigh, xsubs, xskew, xA, xtc, xto⟩ := x
      simp only at hst hxl HTo
      obtain ⟨tol, htol⟩ : ∃ tol, xto.length = tol := ⟨_, rfl⟩
      simp only [VxAt, htol] at hat
      rw [htol] at hxl
      obtain ⟨a0, a1, a2, a3, a4, a5, a6, a7⟩ := hat
      obtain ⟨st, Hst⟩ : ∃ st, Hid (((vls.take k).filter fun v => decide (v.pl.host = h)).map Vx.id = st) := ⟨_, rfl⟩
      rw [show ((vls.take k).filter fun v => decide (v.pl.host = h)).map Vx.id = st from Hst.out] at HRW hlen hst
      have HST := Lib.hid hst
      clear hst hxh
      go_upto_region 5 with (fail)
      have XB : Hid ((wr.alloc (.cells #[.int .i64 xid, .int .i64 xhost, .int .i64 xbag, .int .i64 xsmax, .bool xhigh, .int .i64 xsubs, .int .i64 xskew, .slice xA tol xtc] 38)).heap[wr.heap.size]? = some (.cells #[.int .i64 xid, .int .i64 xhost, .int .i64 xbag, .int .i64 xsmax, .bool xhigh, .int .i64 xsubs, .int .i64 xskew, .slice xA tol xtc] 38)) := heap_alloc_new wr _
      have BBA : Hid (Below wr.heap.size wr (wr.alloc (.cells #[.int .i64 xid, .int .i64 xhost, .int .i64 xbag, .int .i64 xsmax, .bool xhigh, .int .i64 xsubs, .int .i64 xskew, .slice xA tol xtc] 38))) := (Below.refl _ wr).alloc (Nat.le_refl _) _
      have BB : Hid (Below w.heap.size w (wr.alloc (.cells #[.int .i64 xid, .int .i64 xhost, .int .i64 xbag, .int .i64 xsmax, .bool xhigh, .int .i64 xsubs, .int .i64 xskew, .slice xA tol xtc] 38))) := HB.out.trans (BBA.out.mono HB.out.size)
      have HCL := Lib.hid (HQ.out xid xhost xbag xsmax xsubs xskew xhigh xA tol xtc _ BB.out)
      have HRX := Lib.hid (HRW.out.alloc (.cells #[.int .i64 xid, .int .i64 xhost, .int .i64 xbag, .int .i64 xsmax, .bool xhigh, .int .i64 xsubs, .int .i64 xskew, .slice xA tol xtc] 38))
      clear a0 a1 a2 a3 a4 a5 a6 a7 HTo BBA HRW
      generalize wr.alloc (.cells #[.int .i64 xid, .int .i64 xhost, .int .i64 xbag, .int .i64 xsmax, .bool xhigh, .int .i64 xsubs, .int .i64 xskew, .slice xA tol xtc] 38) = W1 at XB BB HCL HRX ⊢
      obtain ⟨x0, x1, x2, x3, x4, x5, x6, x7⟩ := cells_8 XB.out
      cases hp : (decide (xhost = h))
      · rw [hp] at HCL
        have HT : Hid (((vls.take (k + 1)).filter fun v => decide (v.pl.host = h)).map Vx.id = st) := by show _ = _; rw [HST.out, if_neg (by rw [hp]; simp), List.append_nil]
        go_wp2_with (go_at_call 42; (with_reducible refine (HCL.out).mono ?_); rintro e w2 ⟨rfl, hb2⟩)
        have HR2 := Lib.hid (own_keep HRX.out hb2)
        have B2 := Lib.hid (BB.out.trans (hb2.mono BB.out.size))
        clear hb2
        go_roundw
        case rel => exact ⟨k + 1, by omega, by go_num, by rw [HT.out]; exact HR2.out, B2.out⟩
        case measure => simp [intOf]; omega
      · rw [hp] at HCL
        have HT : Hid (((vls.take (k + 1)).filter fun v => decide (v.pl.host = h)).map Vx.id = st ++ [xid]) := by show _ = _; rw [HST.out, if_pos (by rw [hp])]
        go_upto_region 6 with (go_at_call 42; (with_reducible refine (HCL.out).mono ?_); rintro e w2 ⟨rfl, hb2⟩)
        have HR2 := Lib.hid (own_keep HRX.out hb2)
        have B2 := Lib.hid (BB.out.trans (hb2.mono BB.out.size))
        have X2 := Lib.hid (lies_below XB.out hb2 (lies_lt XB.out))
        clear hb2 x0 x1 x2 x3 x4 x5 x6 x7 XB BB HRX HCL
        obtain ⟨x0, x1, x2, x3, x4, x5, x6, x7⟩ := cells_8 X2.out
        obtain ⟨ii, hii, hzz, hs3, hb3⟩ := info_parts info3
        have hbs := B2.out.size
        have HRA := Lib.hid (HR2.out.alloc (.cells #[.int .i64 xid] 3))
        have HNW : Hid (∀ j u, ([.int .i64 xid] : List Value)[j]? = some u → (w2.alloc (.cells #[.int .i64 xid] 3)).cell? ((⟨w2.heap.size, 0, none⟩ : Addr).add j) = some u) := World.news_of_block (heap_alloc_new w2 _)
        go_wp2_with (first
          | (at_builtin; refine wpList_append_lies _ rfl _ _ 22 (by rfl) w.heap.size 3 ii _ 1 8 Try.underlying22 hii hzz hs3 hb3 rfl (by omega) _ st.length _ (by rfl) HRA.out ⟨w2.heap.size, 0, none⟩ 1 1 [.int .i64 xid] (by rfl) (by rfl) HNW.out (by simp [Value.oneCell']) (by omega) (by unfold maxLen; omega) (by omega) (by rw [World.size_alloc]; omega) _ rfl ?_; intro g c5 w5 hrow5 hg5 hgb5 hgl5))
        have HB5 : Hid (Below w.heap.size w w5) := (B2.out.alloc hbs _).trans (own_below HRA.out hg5 (by rw [World.size_alloc]; omega))
        go_roundw
        case rel => exact ⟨k + 1, by omega, by go_num, by rw [HT.out]; exact row_snoc hrow5, HB5.out⟩
        case measure => simp [intOf]; omega
    · have e1 : decide ((k : Int) < (m : Int)) = false := decide_eq_false (by omega)
      have e1' : decide (k < m) = false := decide_eq_false hkm
      have hfull : vls.take k = vls := List.take_of_length_le (by rw [Hm.out]; omega)
      rw [hfull] at HRW hlen
      generalize ((vls.filter fun v => decide (v.pl.host = h)).map Vx.id) = L at HRW hlen HG
      have HSO := Lib.hid (sort_own HRW.out (by omega))
      go_upto_region 9 with (go_at_call 54; (with_reducible refine (HSO.out).mono ?_); rintro e w2 ⟨rfl, hrow2, hg2⟩)
      have HCO := Lib.hid (compact_own hrow2)
      have B2 := Lib.hid (HB.out.trans (own_below HRW.out hg2 HB.out.size))
      have HR2 := Lib.hid hrow2
      clear hrow2 hg2
      go_wp2_with (go_at_call 55; (with_reducible refine (HCO.out).mono ?_); rintro e w3 ⟨⟨v', rfl, hrow3⟩, hg3⟩)
      have B3 := Lib.hid (B2.out.trans (own_below HR2.out hg3 B2.out.size))
      rw [show Lib.compact (L.mergeSort fun x y => decide (x ≤ y)) = G from HG.out] at hrow3
      obtain ⟨A', cap', rfl, hI⟩ := row_ints hrow3
      go_returns
      exact ⟨⟨A', cap', rfl, hI⟩, B3.out⟩
set_option maxHeartbeats 2000000 in
theorem sendsP_any (c : Cx) (h : Int) (w : World) (hc : c.Held w) (hl : c.vls.length ≤ 300) (htl : ∀ v ∈ c.vls, v.to.length ≤ 1000) : Calls Try.prog 20 #[c.val, .int .i64 h] w fun e w' => (∃ A cap, e = .returned (.slice A (PitotConf.gatherIds (c.vls.map Vx.pl) (fun v => decide (v.host = h))).length cap) ∧ IntsAt w' A (PitotConf.gatherIds (c.vls.map Vx.pl) (fun v => decide (v.host = h)))) ∧ Below w.heap.size w w' := by
  have HN := Lib.hid (fun (hb : Nat) (w' : World) (hw : Below w.heap.size w w') (hH : w'.heap[hb]? = some (.cells #[.int .i64 h] 3)) => sendsP_num c h hb w' (hc.below hw) hH hl htl)
  generalize PitotConf.gatherIds (c.vls.map Vx.pl) (fun v => decide (v.host = h)) = G at HN ⊢
  clear hc hl htl
  obtain ⟨hosts, pA, pc, parts, major, wA, wk, wins, vA, vc, vls, qA, qc, ports⟩ := c
  simp only [Cx.val] at HN ⊢
  generalize wins.length = wl, parts.length = pl, ports.length = ql, vls.length = vl at HN ⊢
  have CB : Hid (((w.alloc (.cells #[.int .i64 hosts, .slice pA pl pc, .int .i64 major, .slice wA wl wk, .slice vA vl vc, .slice qA ql qc] 27)).alloc (.cells #[.int .i64 h] 3)).heap[w.heap.size]? = some (.cells #[.int .i64 hosts, .slice pA pl pc, .int .i64 major, .slice wA wl wk, .slice vA vl vc, .slice qA ql qc] 27)) := lies_alloc (heap_alloc_new w _) _
  have HBX : Hid (((w.alloc (.cells #[.int .i64 hosts, .slice pA pl pc, .int .i64 major, .slice wA wl wk, .slice vA vl vc, .slice qA ql qc] 27)).alloc (.cells #[.int .i64 h] 3)).heap[w.heap.size + 1]? = some (.cells #[.int .i64 h] 3)) := by
    have := heap_alloc_new (w.alloc (.cells #[.int .i64 hosts, .slice pA pl pc, .int .i64 major, .slice wA wl wk, .slice vA vl vc, .slice qA ql qc] 27)) (.cells #[.int .i64 h] 3)
    rw [World.size_alloc] at this
    exact this
  have BB : Hid (Below w.heap.size w ((w.alloc (.cells #[.int .i64 hosts, .slice pA pl pc, .int .i64 major, .slice wA wl wk, .slice vA vl vc, .slice qA ql qc] 27)).alloc (.cells #[.int .i64 h] 3))) := (((Below.refl _ w).alloc (Nat.le_refl _) _)).alloc (((Below.refl _ w).alloc (Nat.le_refl _) _)).size _
  have HN2 := Lib.hid (HN.out _ _ BB.out HBX.out)
  clear HN
  go_enter Try.func20, Try.ntmps20
  go_upto_region 1 with (fail)
  generalize (w.alloc (.cells #[.int .i64 hosts, .slice pA pl pc, .int .i64 major, .slice wA wl wk, .slice vA vl vc, .slice qA ql qc] 27)).alloc (.cells #[.int .i64 h] 3) = W1 at CB HBX BB HN2 ⊢
  obtain ⟨c0, c1, c2, c3, c4, c5⟩ := cells_6 CB.out
  go_wp2_with (go_at_call 41; (with_reducible refine (HN2.out).mono ?_); rintro e w2 ⟨⟨A', cap', rfl, hI⟩, hb2⟩)
  go_returns
  exact ⟨⟨A', cap', rfl, hI⟩, BB.out.trans (hb2.mono BB.out.size)⟩
set_option maxHeartbeats 4000000 in
theorem takesP_num (c : Cx) (h : Int) (hb : Nat) (w : World) (hc : c.Held w) (hH : w.heap[hb]? = some (.cells #[.int .i64 h] 3)) (hl : c.vls.length ≤ 300) (htl : ∀ v ∈ c.vls, v.to.length ≤ 1000) : Calls Try.prog 41 #[c.val, .func (.func 44) #[] #[.pointer (some ⟨hb, 0, none⟩)]] w fun e w' => (∃ A cap, e = .returned (.slice A (PitotConf.gatherIds (c.vls.map Vx.pl) (fun v => v.to.contains h)).length cap) ∧ IntsAt w' A (PitotConf.gatherIds (c.vls.map Vx.pl) (fun v => v.to.contains h))) ∧ Below w.heap.size w w' := by
  have HV : Hid (VxsAt w c.vlsA c.vls) := hc.2.2.1
  have HTL := Lib.hid htl
  have HQ := Lib.hid (fun (vid vhost vbag vsmax vsubs vskew : Int) (vhigh : Bool) (tA : Option Addr) (tl tc : Nat) (tolx : List Int) (w' : World) (hb' : Below w.heap.size w w') (hT : IntsAt w' tA tolx) (h1 : tolx.length = tl) (h2 : tl ≤ 1000) => isTake_any vid vhost vbag vsmax vsubs vskew vhigh tA tl tc tolx hb h w' (lies_below hH hb' (lies_lt hH)) hT h1 h2)
  rw [← once_gather]
  clear hc htl hH
  obtain ⟨hosts, pA, pc, parts, major, wA, wk, wins, vA, vc, vls, qA, qc, ports⟩ := c
  simp only at HV HTL hl ⊢
  obtain ⟨m, Hm⟩ : ∃ m, Hid (vls.length = m) := ⟨_, rfl⟩
  show Calls Try.prog 41 #[.agg #[.int .i64 hosts, .slice pA parts.length pc, .int .i64 major, .slice wA wins.length wk, .slice vA vls.length vc, .slice qA ports.length qc], _] w _
  rw [Hm.out] at hl ⊢
  generalize wins.length = wl, parts.length = pl, ports.length = ql
  obtain ⟨G, HG⟩ : ∃ G, Hid (once ((vls.filter fun v => v.pl.to.contains h).map Vx.id) = G) := ⟨_, rfl⟩
  rw [show once ((vls.filter fun v => v.pl.to.contains h).map Vx.id) = G from HG.out]
  have BB0 : Hid (Below w.heap.size w (w.alloc (.cells #[.int .i64 hosts, .slice pA pl pc, .int .i64 major, .slice wA wl wk, .slice vA m vc, .slice qA ql qc] 27))) := (Below.refl _ w).alloc (Nat.le_refl _) _
  go_enter Try.func41, Try.ntmps41
  go_wp2
  go_loopw [5, 11] (fun v5 v11 wr => ∃ k : Nat, k ≤ m ∧ v11 = .int .i64 k ∧ wr.ownsRow w.heap.size 3 1 v5 ((((vls.take k).filter fun v => v.pl.to.contains h)).map Vx.id).length (enI (((vls.take k).filter fun v => v.pl.to.contains h).map Vx.id)) ∧ Below w.heap.size w wr) (fun _ v11 _ => m - (intOf v11).toNat)
  case atStart => exact ⟨0, Nat.zero_le _, rfl, ⟨rfl, .inl ⟨rfl, rfl⟩⟩, BB0.out⟩
  case round =>
    obtain ⟨k, hk, rfl, hrow, hB⟩ := hrel
    have HRW := Lib.hid hrow; have HB := Lib.hid hB
    clear hrow hB BB0
    have hlen : (((vls.take k).filter fun v => v.pl.to.contains h).map Vx.id).length ≤ k := by
      rw [List.length_map]
      exact Nat.le_trans (List.length_filter_le _ _) (List.length_take_le _ _)
    by_cases hkm : k < m
    · have hkl : k < vls.length := by rw [Hm.out]; exact hkm
      have e1 : decide ((k : Int) < (m : Int)) = true := decide_eq_true (by omega)
      have e1' : decide (k < m) = true := decide_eq_true hkm
      obtain ⟨b, off, rfl, hbb, hat, hxh⟩ := HV.out.get hkl
      have hat := hat.below HB.out hbb
      have hst : ((vls.take (k + 1)).filter fun v => v.pl.to.contains h).map Vx.id = ((vls.take k).filter fun v => v.pl.to.contains h).map Vx.id ++ (if (fun v : Vx => v.pl.to.contains h) vls[k] = true then [vls[k].id] else []) := by
        rw [List.take_succ_eq_append_getElem hkl, List.filter_append, List.map_append, List.filter_cons]
        by_cases hp : (fun v : Vx => v.pl.to.contains h) vls[k] = true
        · rw [if_pos hp, if_pos hp]; rfl
        · rw [if_neg hp, if_neg hp]; rfl
      have hxl := HTL.out _ (List.getElem_mem hkl)
      generalize vls[k] = x at hat hst hxh hxl
      have HTo : Hid (IntsAt wr x.toA x.to) := IntsAt.below hxh HB.out
      obtain ⟨xid, xhost, xbag, xsmax, xhigh, xsubs, xskew, xA, xtc, xto⟩ := x
      simp only at hst hxl HTo
      obtain ⟨tol, htol⟩ : ∃ tol, xto.length = tol := ⟨_, rfl⟩
      simp only [VxAt, htol] at hat
      rw [htol] at hxl
      obtain ⟨a0, a1, a2, a3, a4, a5, a6, a7⟩ := hat
      obtain ⟨st, Hst⟩ : ∃ st, Hid (((vls.take k).filter fun v => v.pl.to.contains h).map Vx.id = st) := ⟨_, rfl⟩
      rw [show ((vls.take k).filter fun v => v.pl.to.contains h).map Vx.id = st from Hst.out] at HRW hlen hst
      have HST := Lib.hid hst
      clear hst hxh
      go_upto_region 5 with (fail)
      have XB : Hid ((wr.alloc (.cells #[.int .i64 xid, .int .i64 xhost, .int .i64 xbag, .int .i64 xsmax, .bool xhigh, .int .i64 xsubs, .int .i64 xskew, .slice xA tol xtc] 38)).heap[wr.heap.size]? = some (.cells #[.int .i64 xid, .int .i64 xhost, .int .i64 xbag, .int .i64 xsmax, .bool xhigh, .int .i64 xsubs, .int .i64 xskew, .slice xA tol xtc] 38)) := heap_alloc_new wr _
      have BBA : Hid (Below wr.heap.size wr (wr.alloc (.cells #[.int .i64 xid, .int .i64 xhost, .int .i64 xbag, .int .i64 xsmax, .bool xhigh, .int .i64 xsubs, .int .i64 xskew, .slice xA tol xtc] 38))) := (Below.refl _ wr).alloc (Nat.le_refl _) _
      have BB : Hid (Below w.heap.size w (wr.alloc (.cells #[.int .i64 xid, .int .i64 xhost, .int .i64 xbag, .int .i64 xsmax, .bool xhigh, .int .i64 xsubs, .int .i64 xskew, .slice xA tol xtc] 38))) := HB.out.trans (BBA.out.mono HB.out.size)
      have HCL := Lib.hid (HQ.out xid xhost xbag xsmax xsubs xskew xhigh xA tol xtc xto _ BB.out (IntsAt.below HTo.out (BBA.out)) htol (by omega))
      have HRX := Lib.hid (HRW.out.alloc (.cells #[.int .i64 xid, .int .i64 xhost, .int .i64 xbag, .int .i64 xsmax, .bool xhigh, .int .i64 xsubs, .int .i64 xskew, .slice xA tol xtc] 38))
      clear a0 a1 a2 a3 a4 a5 a6 a7 HTo BBA HRW
      generalize wr.alloc (.cells #[.int .i64 xid, .int .i64 xhost, .int .i64 xbag, .int .i64 xsmax, .bool xhigh, .int .i64 xsubs, .int .i64 xskew, .slice xA tol xtc] 38) = W1 at XB BB HCL HRX ⊢
      obtain ⟨x0, x1, x2, x3, x4, x5, x6, x7⟩ := cells_8 XB.out
      cases hp : (xto.contains h)
      · rw [hp] at HCL
        have HT : Hid (((vls.take (k + 1)).filter fun v => v.pl.to.contains h).map Vx.id = st) := by show _ = _; rw [HST.out, if_neg (by rw [hp]; simp), List.append_nil]
        go_wp2_with (go_at_call 44; (with_reducible refine (HCL.out).mono ?_); rintro e w2 ⟨rfl, hb2⟩)
        have HR2 := Lib.hid (own_keep HRX.out hb2)
        have B2 := Lib.hid (BB.out.trans (hb2.mono BB.out.size))
        clear hb2
        go_roundw
        case rel => exact ⟨k + 1, by omega, by go_num, by rw [HT.out]; exact HR2.out, B2.out⟩
        case measure => simp [intOf]; omega
      · rw [hp] at HCL
        have HT : Hid (((vls.take (k + 1)).filter fun v => v.pl.to.contains h).map Vx.id = st ++ [xid]) := by show _ = _; rw [HST.out, if_pos (by rw [hp])]
        go_upto_region 6 with (go_at_call 44; (with_reducible refine (HCL.out).mono ?_); rintro e w2 ⟨rfl, hb2⟩)
        have HR2 := Lib.hid (own_keep HRX.out hb2)
        have B2 := Lib.hid (BB.out.trans (hb2.mono BB.out.size))
        have X2 := Lib.hid (lies_below XB.out hb2 (lies_lt XB.out))
        clear hb2 x0 x1 x2 x3 x4 x5 x6 x7 XB BB HRX HCL
        obtain ⟨x0, x1, x2, x3, x4, x5, x6, x7⟩ := cells_8 X2.out
        obtain ⟨ii, hii, hzz, hs3, hb3⟩ := info_parts info3
        have hbs := B2.out.size
        have HRA := Lib.hid (HR2.out.alloc (.cells #[.int .i64 xid] 3))
        have HNW : Hid (∀ j u, ([.int .i64 xid] : List Value)[j]? = some u → (w2.alloc (.cells #[.int .i64 xid] 3)).cell? ((⟨w2.heap.size, 0, none⟩ : Addr).add j) = some u) := World.news_of_block (heap_alloc_new w2 _)
        go_wp2_with (first
          | (at_builtin; refine wpList_append_lies _ rfl _ _ 22 (by rfl) w.heap.size 3 ii _ 1 8 Try.underlying22 hii hzz hs3 hb3 rfl (by omega) _ st.length _ (by rfl) HRA.out ⟨w2.heap.size, 0, none⟩ 1 1 [.int .i64 xid] (by rfl) (by rfl) HNW.out (by simp [Value.oneCell']) (by omega) (by unfold maxLen; omega) (by omega) (by rw [World.size_alloc]; omega) _ rfl ?_; intro g c5 w5 hrow5 hg5 hgb5 hgl5))
        have HB5 : Hid (Below w.heap.size w w5) := (B2.out.alloc hbs _).trans (own_below HRA.out hg5 (by rw [World.size_alloc]; omega))
        go_roundw
        case rel => exact ⟨k + 1, by omega, by go_num, by rw [HT.out]; exact row_snoc hrow5, HB5.out⟩
        case measure => simp [intOf]; omega
    · have e1 : decide ((k : Int) < (m : Int)) = false := decide_eq_false (by omega)
      have e1' : decide (k < m) = false := decide_eq_false hkm
      have hfull : vls.take k = vls := List.take_of_length_le (by rw [Hm.out]; omega)
      rw [hfull] at HRW hlen
      generalize ((vls.filter fun v => v.pl.to.contains h).map Vx.id) = L at HRW hlen HG
      have HSO := Lib.hid (sort_own HRW.out (by omega))
      go_upto_region 9 with (go_at_call 54; (with_reducible refine (HSO.out).mono ?_); rintro e w2 ⟨rfl, hrow2, hg2⟩)
      have HCO := Lib.hid (compact_own hrow2)
      have B2 := Lib.hid (HB.out.trans (own_below HRW.out hg2 HB.out.size))
      have HR2 := Lib.hid hrow2
      clear hrow2 hg2
      go_wp2_with (go_at_call 55; (with_reducible refine (HCO.out).mono ?_); rintro e w3 ⟨⟨v', rfl, hrow3⟩, hg3⟩)
      have B3 := Lib.hid (B2.out.trans (own_below HR2.out hg3 B2.out.size))
      rw [show Lib.compact (L.mergeSort fun x y => decide (x ≤ y)) = G from HG.out] at hrow3
      obtain ⟨A', cap', rfl, hI⟩ := row_ints hrow3
      go_returns
      exact ⟨⟨A', cap', rfl, hI⟩, B3.out⟩
set_option maxHeartbeats 2000000 in
theorem takesP_any (c : Cx) (h : Int) (w : World) (hc : c.Held w) (hl : c.vls.length ≤ 300) (htl : ∀ v ∈ c.vls, v.to.length ≤ 1000) : Calls Try.prog 22 #[c.val, .int .i64 h] w fun e w' => (∃ A cap, e = .returned (.slice A (PitotConf.gatherIds (c.vls.map Vx.pl) (fun v => v.to.contains h)).length cap) ∧ IntsAt w' A (PitotConf.gatherIds (c.vls.map Vx.pl) (fun v => v.to.contains h))) ∧ Below w.heap.size w w' := by
  have HN := Lib.hid (fun (hb : Nat) (w' : World) (hw : Below w.heap.size w w') (hH : w'.heap[hb]? = some (.cells #[.int .i64 h] 3)) => takesP_num c h hb w' (hc.below hw) hH hl htl)
  generalize PitotConf.gatherIds (c.vls.map Vx.pl) (fun v => v.to.contains h) = G at HN ⊢
  clear hc hl htl
  obtain ⟨hosts, pA, pc, parts, major, wA, wk, wins, vA, vc, vls, qA, qc, ports⟩ := c
  simp only [Cx.val] at HN ⊢
  generalize wins.length = wl, parts.length = pl, ports.length = ql, vls.length = vl at HN ⊢
  have CB : Hid (((w.alloc (.cells #[.int .i64 hosts, .slice pA pl pc, .int .i64 major, .slice wA wl wk, .slice vA vl vc, .slice qA ql qc] 27)).alloc (.cells #[.int .i64 h] 3)).heap[w.heap.size]? = some (.cells #[.int .i64 hosts, .slice pA pl pc, .int .i64 major, .slice wA wl wk, .slice vA vl vc, .slice qA ql qc] 27)) := lies_alloc (heap_alloc_new w _) _
  have HBX : Hid (((w.alloc (.cells #[.int .i64 hosts, .slice pA pl pc, .int .i64 major, .slice wA wl wk, .slice vA vl vc, .slice qA ql qc] 27)).alloc (.cells #[.int .i64 h] 3)).heap[w.heap.size + 1]? = some (.cells #[.int .i64 h] 3)) := by
    have := heap_alloc_new (w.alloc (.cells #[.int .i64 hosts, .slice pA pl pc, .int .i64 major, .slice wA wl wk, .slice vA vl vc, .slice qA ql qc] 27)) (.cells #[.int .i64 h] 3)
    rw [World.size_alloc] at this
    exact this
  have BB : Hid (Below w.heap.size w ((w.alloc (.cells #[.int .i64 hosts, .slice pA pl pc, .int .i64 major, .slice wA wl wk, .slice vA vl vc, .slice qA ql qc] 27)).alloc (.cells #[.int .i64 h] 3))) := (((Below.refl _ w).alloc (Nat.le_refl _) _)).alloc (((Below.refl _ w).alloc (Nat.le_refl _) _)).size _
  have HN2 := Lib.hid (HN.out _ _ BB.out HBX.out)
  clear HN
  go_enter Try.func22, Try.ntmps22
  go_upto_region 1 with (fail)
  generalize (w.alloc (.cells #[.int .i64 hosts, .slice pA pl pc, .int .i64 major, .slice wA wl wk, .slice vA vl vc, .slice qA ql qc] 27)).alloc (.cells #[.int .i64 h] 3) = W1 at CB HBX BB HN2 ⊢
  obtain ⟨c0, c1, c2, c3, c4, c5⟩ := cells_6 CB.out
  go_wp2_with (go_at_call 41; (with_reducible refine (HN2.out).mono ?_); rintro e w2 ⟨⟨A', cap', rfl, hI⟩, hb2⟩)
  go_returns
  exact ⟨⟨A', cap', rfl, hI⟩, BB.out.trans (hb2.mono BB.out.size)⟩
end Go.Proofs.Ythicfgcnhefinaa
/- The document's Takes (trial). -/
set_option maxRecDepth 100000
namespace Go.Proofs.Ythicfgcnhefinaa
open Go.RowKit Go.Deep

set_option maxHeartbeats 4000000 in
theorem takes_any (c : Cx) (h : Int) (w : World) (hc : c.Held w) (hl : c.vls.length ≤ 300) (htl : ∀ v ∈ c.vls, v.to.length ≤ maxLen) : Calls Try.prog 23 #[c.val, .int .i64 h] w fun e w' => (∃ v, e = .returned v ∧ w'.ownsRow w.heap.size 3 1 v (PitotConf.gatherIds (c.vls.map Vx.pl) (fun v => v.to.contains h)).length (enI (PitotConf.gatherIds (c.vls.map Vx.pl) (fun v => v.to.contains h)))) ∧ Below w.heap.size w w' := by
  have HV : Hid (VxsAt w c.vlsA c.vls) := hc.2.2.1
  clear hc
  obtain ⟨hosts, pA, pc, parts, major, wA, wk, wins, vA, vc, vls, qA, qc, ports⟩ := c
  simp only at HV hl htl ⊢
  have HTL := Lib.hid htl; clear htl
  obtain ⟨m, Hm⟩ : ∃ m, Hid (vls.length = m) := ⟨_, rfl⟩
  show Calls Try.prog 23 #[.agg #[.int .i64 hosts, .slice pA parts.length pc, .int .i64 major, .slice wA wins.length wk, .slice vA vls.length vc, .slice qA ports.length qc], .int .i64 h] w _
  rw [Hm.out] at hl ⊢
  have CB : Hid ((w.alloc (.cells #[.int .i64 hosts, .slice pA parts.length pc, .int .i64 major, .slice wA wins.length wk, .slice vA m vc, .slice qA ports.length qc] 27)).heap[w.heap.size]? = some (.cells #[.int .i64 hosts, .slice pA parts.length pc, .int .i64 major, .slice wA wins.length wk, .slice vA m vc, .slice qA ports.length qc] 27)) := heap_alloc_new w _
  have BB : Hid (Below w.heap.size w (w.alloc (.cells #[.int .i64 hosts, .slice pA parts.length pc, .int .i64 major, .slice wA wins.length wk, .slice vA m vc, .slice qA ports.length qc] 27))) := (Below.refl _ w).alloc (Nat.le_refl _) _
  go_enter Try.func23, Try.ntmps23
  go_wp2
  go_loopw [5, 6] (fun v5 v6 wr => ∃ k : Nat, k ≤ m ∧ v6 = .int .i64 k ∧ wr.ownsRow w.heap.size 3 1 v5 (PitotConf.gatherIds ((vls.take k).map Vx.pl) (fun v => v.to.contains h)).length (enI (PitotConf.gatherIds ((vls.take k).map Vx.pl) (fun v => v.to.contains h))) ∧ wr.heap[w.heap.size]? = some (.cells #[.int .i64 hosts, .slice pA parts.length pc, .int .i64 major, .slice wA wins.length wk, .slice vA m vc, .slice qA ports.length qc] 27) ∧ Below w.heap.size w wr) (fun _ v6 _ => m - (intOf v6).toNat)
  case atStart => exact ⟨0, Nat.zero_le _, rfl, ⟨rfl, .inl ⟨rfl, rfl⟩⟩, CB.out, BB.out⟩
  case round =>
    obtain ⟨k, hk, rfl, hrow, hC, hB⟩ := hrel
    have HRW := Lib.hid hrow; have HB := Lib.hid hB; have HC := Lib.hid hC
    clear hrow hB hC
    obtain ⟨c0, c1, c2, c3, c4, c5⟩ := cells_6 HC.out
    have hgl := gather_length ((vls.take k).map Vx.pl) (fun v => v.to.contains h)
    rw [List.length_map] at hgl
    have hgl2 : (vls.take k).length ≤ k := List.length_take_le _ _
    have HGS := Lib.hid (gather_snoc ((vls.take k).map Vx.pl))
    by_cases hkm : k < m
    · have hkl : k < vls.length := by rw [Hm.out]; exact hkm
      have e1 : decide ((k : Int) < (m : Int)) = true := decide_eq_true (by omega)
      have e1' : decide (k < m) = true := decide_eq_true hkm
      obtain ⟨b, off, rfl, hb, hat, hxh⟩ := HV.out.get hkl
      have hxl := HTL.out _ (List.getElem_mem hkl)
      have HST : Hid ((vls.take (k + 1)).map Vx.pl = (vls.take k).map Vx.pl ++ [vls[k].pl]) := by show _ = _; rw [List.take_succ_eq_append_getElem hkl, List.map_append]; rfl
      have hat := hat.below HB.out hb
      generalize vls[k] = x at hat HST hxh hxl
      have HXH : Hid (IntsAt wr x.toA x.to) := IntsAt.below hxh (HB.out)
      obtain ⟨a0, a1, a2, a3, a4, a5, a6, a7⟩ := hat
      obtain ⟨acc, Hacc⟩ : ∃ acc, Hid (PitotConf.gatherIds ((vls.take k).map Vx.pl) (fun v => v.to.contains h) = acc) := ⟨PitotConf.gatherIds ((vls.take k).map Vx.pl) (fun v => v.to.contains h), Lib.hid rfl⟩
      rw [Hacc.out] at HRW hgl
      have hbs := HB.out.size
      have HHS := Lib.hid (has_any x.toA x.toc x.to h wr HXH.out hxl)
      clear hxl hxh
      cases ht : x.to.contains h
      case true =>
        rw [ht] at HHS
        have HT : Hid (PitotConf.gatherIds ((vls.take (k + 1)).map Vx.pl) (fun v => v.to.contains h) = PitotConf.ins acc x.id) := by
          show _ = _; rw [HST.out, HGS.out, if_pos ht, Hacc.out]
        obtain ⟨A, cap, hv, hia⟩ := row_ints HRW.out
        have HPU := Lib.hid (put_any A cap acc x.id wr hia (by omega))
        subst hv
        clear ht hia
        go_wp2_with (first
          | (go_at_call 46; (with_reducible refine (HHS.out).mono ?_); rintro e w3 ⟨rfl, rfl⟩)
          | (go_at_call 43; (with_reducible refine (HPU.out).mono ?_); rintro e w2 ⟨⟨v, rfl, hr2⟩, hb2⟩))
        have HR2 := Lib.hid (own_mono hr2 hbs)
        have HB2 : Hid (Below w.heap.size w w2) := HB.out.trans (hb2.mono hbs)
        have HC2 := Lib.hid (lies_below HC.out hb2 (lies_lt HC.out))
        clear hr2 hb2
        go_roundw
        case rel => exact ⟨k + 1, by omega, by go_num, by rw [HT.out]; exact HR2.out, HC2.out, HB2.out⟩
        case measure => simp [intOf]; omega
      case false =>
        rw [ht] at HHS
        have HT : Hid (PitotConf.gatherIds ((vls.take (k + 1)).map Vx.pl) (fun v => v.to.contains h) = acc) := by
          show _ = _; rw [HST.out, HGS.out, if_neg (by rw [ht]; simp), Hacc.out]
        clear ht
        go_wp2_with (go_at_call 46; (with_reducible refine (HHS.out).mono ?_); rintro e w3 ⟨rfl, rfl⟩)
        go_roundw
        case rel => exact ⟨k + 1, by omega, by go_num, by rw [HT.out]; exact HRW.out, HC.out, HB.out⟩
        case measure => simp [intOf]; omega
    · have e1 : decide ((k : Int) < (m : Int)) = false := decide_eq_false (by omega)
      have e1' : decide (k < m) = false := decide_eq_false hkm
      rw [List.take_of_length_le (by rw [Hm.out]; omega)] at HRW
      go_wp2
      go_returns
      exact ⟨⟨_, rfl, HRW.out⟩, HB.out⟩
end Go.Proofs.Ythicfgcnhefinaa
/- The law's ints: are two lists the same? (trial) -/
set_option maxRecDepth 100000
namespace Go.Proofs.Ythicfgcnhefinaa
open Go.RowKit

set_option maxHeartbeats 2000000 in
theorem ints_any (A B : Option Addr) (ca cb : Nat) (a b : List Int) (w : World) (ha : IntsAt w A a) (hb : IntsAt w B b) (hl : a.length ≤ maxLen) (hl2 : b.length ≤ maxLen) : Calls Try.prog 17 #[.slice A a.length ca, .slice B b.length cb] w fun e w' => e = .returned (.bool (decide (a = b))) ∧ Below w.heap.size w w' := by
  unfold maxLen at hl hl2
  obtain ⟨R, HR⟩ : ∃ R, Hid (decide (a = b) = R) := ⟨_, rfl⟩
  rw [HR.out]
  obtain ⟨m, Hm⟩ : ∃ m, Hid (a.length = m) := ⟨_, rfl⟩
  obtain ⟨n, Hn⟩ : ∃ m, Hid (b.length = m) := ⟨_, rfl⟩
  rw [Hm.out] at hl ⊢
  rw [Hn.out] at hl2 ⊢
  have HA := Lib.hid ha; have HB := Lib.hid hb
  clear ha hb
  by_cases hmn : m = n
  · subst hmn
    go_enter Try.func17, Try.ntmps17
    go_wp2
    go_loopw [5] (fun v3 wr => ∃ k : Nat, k ≤ m ∧ v3 = .int .i64 k ∧ Hid (∀ q (h : q < a.length) (h2 : q < b.length), q < k → a[q] = b[q]) ∧ Below w.heap.size w wr) (fun v3 _ => m - (intOf v3).toNat)
    case atStart => exact ⟨0, Nat.zero_le _, rfl, fun q h h2 h3 => by omega, Below.refl _ _⟩
    case round =>
      obtain ⟨k, hk, rfl, hq, hbw⟩ := hrel
      have HBW := Lib.hid hbw
      clear hbw
      by_cases hkm : k < m
      · have e1 : decide ((k : Int) < (m : Int)) = true := decide_eq_true (by omega)
        have e1' : decide (k < m) = true := decide_eq_true hkm
        have hka : k < a.length := by rw [Hm.out]; exact hkm
        have hkb : k < b.length := by rw [Hn.out]; exact hkm
        obtain ⟨b1, o1, rfl, q1, c1⟩ := HA.out.get hka
        obtain ⟨b2, o2, rfl, q2, c2⟩ := HB.out.get hkb
        have c1 := (HBW.out.cell (p := ⟨b1, o1 + k, none⟩) q1).trans c1
        have c2 := (HBW.out.cell (p := ⟨b2, o2 + k, none⟩) q2).trans c2
        have l1 : b1 < wr.heap.size := Nat.lt_of_lt_of_le q1 HBW.out.size
        have l2 : b2 < wr.heap.size := Nat.lt_of_lt_of_le q2 HBW.out.size
        have hkI : (k : Int) < (m : Int) := by omega
        have hk0 : 0 ≤ (k : Int) := by omega
        obtain ⟨x, HX⟩ : ∃ x, Hid (a[k] = x) := ⟨a[k], Lib.hid rfl⟩
        obtain ⟨y, HY⟩ : ∃ x, Hid (b[k] = x) := ⟨b[k], Lib.hid rfl⟩
        rw [HX.out] at c1
        rw [HY.out] at c2
        by_cases hxy : x = y
        · have e2 : (x != y) = false := by simpa using hxy
          have HN : Hid (∀ q (h : q < a.length) (h2 : q < b.length), q < k + 1 → a[q] = b[q]) := by
            show ∀ q (h : q < a.length) (h2 : q < b.length), q < k + 1 → a[q] = b[q]
            intro q h h2 h3
            by_cases e : q = k
            · subst e; rw [HX.out, HY.out, hxy]
            · exact hq.out q h h2 (by omega)
          clear hxy
          go_upto_region 6 with (fail)
          refine wp_region_held_drew (S := fun w' => Below wr.heap.size wr w') (by kernel_rfl) ?_ (fun hHeld => ?_)
          · exact (Below.refl _ wr).drew
          refine wpAnyH_take (i := 0) (oi := { dst := some 17, op := Go.Op.move (Go.Operand.tmp 0), type := 22, pos := "law.go:34", after := #[], guard := none }) (v := ?_) rfl (by kernel_rfl) (by kernel_rfl) (by kernel_rfl) (fun _ _ _ h => h) (Or.inl ⟨by rfl, ?_⟩) (by assumption) ?_
          rotate_left
          focus ((intro w hSw; (try dsimp only at hSw); clear hSw; go_simp) <;> (with_reducible rfl))
          try simp only [Act.put, List.setIfInBounds_toArray, List.set_cons_zero, List.set_cons_succ]
          refine wpAnyH_take (i := 1) (oi := { dst := some 18, op := Go.Op.move (Go.Operand.tmp 5), type := 3, pos := "law.go:34", after := #[], guard := none }) (v := ?_) rfl (by kernel_rfl) (by kernel_rfl) (by kernel_rfl) (fun _ _ _ h => h) (Or.inl ⟨by rfl, ?_⟩) (by assumption) ?_
          rotate_left
          focus ((intro w hSw; (try dsimp only at hSw); clear hSw; go_simp) <;> (with_reducible rfl))
          try simp only [Act.put, List.setIfInBounds_toArray, List.set_cons_zero, List.set_cons_succ]
          refine wpAnyH_take (i := 2) (oi := { dst := some 19, op := Go.Op.indexAddr 22 (Go.Operand.tmp 17) (Go.Operand.tmp 18), type := 0, pos := "law.go:34", after := #[{ on := 0, ground := Go.Ground.data }, { on := 1, ground := Go.Ground.data }], guard := none }) (v := ?_) rfl (by kernel_rfl) (by kernel_rfl) (by kernel_rfl) (fun _ _ _ h => h) (Or.inl ⟨by rfl, ?_⟩) (by assumption) ?_
          rotate_left
          focus ((intro w hSw; (try dsimp only at hSw); clear hSw; go_simp) <;> (with_reducible rfl))
          try simp only [Act.put, List.setIfInBounds_toArray, List.set_cons_zero, List.set_cons_succ]
          refine wpAnyH_take (i := 3) (oi := { dst := some 20, op := Go.Op.load 3 (Go.Operand.tmp 19), type := 3, pos := "law.go:34", after := #[{ on := 2, ground := Go.Ground.data }], guard := none }) (v := ?_) rfl (by kernel_rfl) (by kernel_rfl) (by kernel_rfl) (fun _ _ _ h => h) (Or.inl ⟨by rfl, ?_⟩) (by assumption) ?_
          rotate_left
          focus ((intro w hSw; (try dsimp only at hSw); have d1 := (hSw.cell (p := ⟨b1, o1 + k, none⟩) (show b1 < wr.heap.size from l1)).trans c1; have d2 := (hSw.cell (p := ⟨b2, o2 + k, none⟩) (show b2 < wr.heap.size from l2)).trans c2; clear hSw; go_simp) <;> (with_reducible rfl))
          try simp only [Act.put, List.setIfInBounds_toArray, List.set_cons_zero, List.set_cons_succ]
          refine wpAnyH_take (i := 4) (oi := { dst := some 21, op := Go.Op.move (Go.Operand.tmp 1), type := 22, pos := "law.go:34", after := #[], guard := none }) (v := ?_) rfl (by kernel_rfl) (by kernel_rfl) (by kernel_rfl) (fun _ _ _ h => h) (Or.inl ⟨by rfl, ?_⟩) (by assumption) ?_
          rotate_left
          focus ((intro w hSw; (try dsimp only at hSw); clear hSw; go_simp) <;> (with_reducible rfl))
          try simp only [Act.put, List.setIfInBounds_toArray, List.set_cons_zero, List.set_cons_succ]
          refine wpAnyH_take (i := 5) (oi := { dst := some 22, op := Go.Op.move (Go.Operand.tmp 5), type := 3, pos := "law.go:34", after := #[], guard := none }) (v := ?_) rfl (by kernel_rfl) (by kernel_rfl) (by kernel_rfl) (fun _ _ _ h => h) (Or.inl ⟨by rfl, ?_⟩) (by assumption) ?_
          rotate_left
          focus ((intro w hSw; (try dsimp only at hSw); clear hSw; go_simp) <;> (with_reducible rfl))
          try simp only [Act.put, List.setIfInBounds_toArray, List.set_cons_zero, List.set_cons_succ]
          refine wpAnyH_take (i := 6) (oi := { dst := some 23, op := Go.Op.indexAddr 22 (Go.Operand.tmp 21) (Go.Operand.tmp 22), type := 0, pos := "law.go:34", after := #[{ on := 4, ground := Go.Ground.data }, { on := 5, ground := Go.Ground.data }], guard := none }) (v := ?_) rfl (by kernel_rfl) (by kernel_rfl) (by kernel_rfl) (fun _ _ _ h => h) (Or.inl ⟨by rfl, ?_⟩) (by assumption) ?_
          rotate_left
          focus ((intro w hSw; (try dsimp only at hSw); clear hSw; go_simp) <;> (with_reducible rfl))
          try simp only [Act.put, List.setIfInBounds_toArray, List.set_cons_zero, List.set_cons_succ]
          refine wpAnyH_take (i := 7) (oi := { dst := some 24, op := Go.Op.load 3 (Go.Operand.tmp 23), type := 3, pos := "law.go:34", after := #[{ on := 6, ground := Go.Ground.data }], guard := none }) (v := ?_) rfl (by kernel_rfl) (by kernel_rfl) (by kernel_rfl) (fun _ _ _ h => h) (Or.inl ⟨by rfl, ?_⟩) (by assumption) ?_
          rotate_left
          focus ((intro w hSw; (try dsimp only at hSw); have d1 := (hSw.cell (p := ⟨b1, o1 + k, none⟩) (show b1 < wr.heap.size from l1)).trans c1; have d2 := (hSw.cell (p := ⟨b2, o2 + k, none⟩) (show b2 < wr.heap.size from l2)).trans c2; clear hSw; go_simp) <;> (with_reducible rfl))
          try simp only [Act.put, List.setIfInBounds_toArray, List.set_cons_zero, List.set_cons_succ]
          refine wpAnyH_take (i := 8) (oi := { dst := some 25, op := Go.Op.binOp Go.BinOp.neq 3 (Go.Operand.tmp 20) (Go.Operand.tmp 24) 3, type := 4, pos := "law.go:34", after := #[{ on := 3, ground := Go.Ground.data }, { on := 7, ground := Go.Ground.data }], guard := none }) (v := ?_) rfl (by kernel_rfl) (by kernel_rfl) (by kernel_rfl) (fun _ _ _ h => h) (Or.inl ⟨by rfl, ?_⟩) (by assumption) ?_
          rotate_left
          focus ((intro w hSw; (try dsimp only at hSw); clear hSw; go_simp) <;> (with_reducible rfl))
          try simp only [Act.put, List.setIfInBounds_toArray, List.set_cons_zero, List.set_cons_succ]
          refine wpAnyH_done (by kernel_rfl) ?_ _
          clear hHeld
          go_wp2
          go_roundw
          case rel => exact ⟨k + 1, by omega, by go_num, HN.out, HBW.out.drew⟩
          case measure => simp [intOf]; omega
        · have e2 : (x != y) = true := by simpa using hxy
          have HT : Hid (R = false) := by
            show _ = _
            rw [← HR.out]
            refine decide_eq_false fun e => hxy ?_
            subst e
            rw [← HX.out, ← HY.out]
          clear hxy
          go_upto_region 6 with (fail)
          refine wp_region_held_drew (S := fun w' => Below wr.heap.size wr w') (by kernel_rfl) ?_ (fun hHeld => ?_)
          · exact (Below.refl _ wr).drew
          refine wpAnyH_take (i := 0) (oi := { dst := some 17, op := Go.Op.move (Go.Operand.tmp 0), type := 22, pos := "law.go:34", after := #[], guard := none }) (v := ?_) rfl (by kernel_rfl) (by kernel_rfl) (by kernel_rfl) (fun _ _ _ h => h) (Or.inl ⟨by rfl, ?_⟩) (by assumption) ?_
          rotate_left
          focus ((intro w hSw; (try dsimp only at hSw); clear hSw; go_simp) <;> (with_reducible rfl))
          try simp only [Act.put, List.setIfInBounds_toArray, List.set_cons_zero, List.set_cons_succ]
          refine wpAnyH_take (i := 1) (oi := { dst := some 18, op := Go.Op.move (Go.Operand.tmp 5), type := 3, pos := "law.go:34", after := #[], guard := none }) (v := ?_) rfl (by kernel_rfl) (by kernel_rfl) (by kernel_rfl) (fun _ _ _ h => h) (Or.inl ⟨by rfl, ?_⟩) (by assumption) ?_
          rotate_left
          focus ((intro w hSw; (try dsimp only at hSw); clear hSw; go_simp) <;> (with_reducible rfl))
          try simp only [Act.put, List.setIfInBounds_toArray, List.set_cons_zero, List.set_cons_succ]
          refine wpAnyH_take (i := 2) (oi := { dst := some 19, op := Go.Op.indexAddr 22 (Go.Operand.tmp 17) (Go.Operand.tmp 18), type := 0, pos := "law.go:34", after := #[{ on := 0, ground := Go.Ground.data }, { on := 1, ground := Go.Ground.data }], guard := none }) (v := ?_) rfl (by kernel_rfl) (by kernel_rfl) (by kernel_rfl) (fun _ _ _ h => h) (Or.inl ⟨by rfl, ?_⟩) (by assumption) ?_
          rotate_left
          focus ((intro w hSw; (try dsimp only at hSw); clear hSw; go_simp) <;> (with_reducible rfl))
          try simp only [Act.put, List.setIfInBounds_toArray, List.set_cons_zero, List.set_cons_succ]
          refine wpAnyH_take (i := 3) (oi := { dst := some 20, op := Go.Op.load 3 (Go.Operand.tmp 19), type := 3, pos := "law.go:34", after := #[{ on := 2, ground := Go.Ground.data }], guard := none }) (v := ?_) rfl (by kernel_rfl) (by kernel_rfl) (by kernel_rfl) (fun _ _ _ h => h) (Or.inl ⟨by rfl, ?_⟩) (by assumption) ?_
          rotate_left
          focus ((intro w hSw; (try dsimp only at hSw); have d1 := (hSw.cell (p := ⟨b1, o1 + k, none⟩) (show b1 < wr.heap.size from l1)).trans c1; have d2 := (hSw.cell (p := ⟨b2, o2 + k, none⟩) (show b2 < wr.heap.size from l2)).trans c2; clear hSw; go_simp) <;> (with_reducible rfl))
          try simp only [Act.put, List.setIfInBounds_toArray, List.set_cons_zero, List.set_cons_succ]
          refine wpAnyH_take (i := 4) (oi := { dst := some 21, op := Go.Op.move (Go.Operand.tmp 1), type := 22, pos := "law.go:34", after := #[], guard := none }) (v := ?_) rfl (by kernel_rfl) (by kernel_rfl) (by kernel_rfl) (fun _ _ _ h => h) (Or.inl ⟨by rfl, ?_⟩) (by assumption) ?_
          rotate_left
          focus ((intro w hSw; (try dsimp only at hSw); clear hSw; go_simp) <;> (with_reducible rfl))
          try simp only [Act.put, List.setIfInBounds_toArray, List.set_cons_zero, List.set_cons_succ]
          refine wpAnyH_take (i := 5) (oi := { dst := some 22, op := Go.Op.move (Go.Operand.tmp 5), type := 3, pos := "law.go:34", after := #[], guard := none }) (v := ?_) rfl (by kernel_rfl) (by kernel_rfl) (by kernel_rfl) (fun _ _ _ h => h) (Or.inl ⟨by rfl, ?_⟩) (by assumption) ?_
          rotate_left
          focus ((intro w hSw; (try dsimp only at hSw); clear hSw; go_simp) <;> (with_reducible rfl))
          try simp only [Act.put, List.setIfInBounds_toArray, List.set_cons_zero, List.set_cons_succ]
          refine wpAnyH_take (i := 6) (oi := { dst := some 23, op := Go.Op.indexAddr 22 (Go.Operand.tmp 21) (Go.Operand.tmp 22), type := 0, pos := "law.go:34", after := #[{ on := 4, ground := Go.Ground.data }, { on := 5, ground := Go.Ground.data }], guard := none }) (v := ?_) rfl (by kernel_rfl) (by kernel_rfl) (by kernel_rfl) (fun _ _ _ h => h) (Or.inl ⟨by rfl, ?_⟩) (by assumption) ?_
          rotate_left
          focus ((intro w hSw; (try dsimp only at hSw); clear hSw; go_simp) <;> (with_reducible rfl))
          try simp only [Act.put, List.setIfInBounds_toArray, List.set_cons_zero, List.set_cons_succ]
          refine wpAnyH_take (i := 7) (oi := { dst := some 24, op := Go.Op.load 3 (Go.Operand.tmp 23), type := 3, pos := "law.go:34", after := #[{ on := 6, ground := Go.Ground.data }], guard := none }) (v := ?_) rfl (by kernel_rfl) (by kernel_rfl) (by kernel_rfl) (fun _ _ _ h => h) (Or.inl ⟨by rfl, ?_⟩) (by assumption) ?_
          rotate_left
          focus ((intro w hSw; (try dsimp only at hSw); have d1 := (hSw.cell (p := ⟨b1, o1 + k, none⟩) (show b1 < wr.heap.size from l1)).trans c1; have d2 := (hSw.cell (p := ⟨b2, o2 + k, none⟩) (show b2 < wr.heap.size from l2)).trans c2; clear hSw; go_simp) <;> (with_reducible rfl))
          try simp only [Act.put, List.setIfInBounds_toArray, List.set_cons_zero, List.set_cons_succ]
          refine wpAnyH_take (i := 8) (oi := { dst := some 25, op := Go.Op.binOp Go.BinOp.neq 3 (Go.Operand.tmp 20) (Go.Operand.tmp 24) 3, type := 4, pos := "law.go:34", after := #[{ on := 3, ground := Go.Ground.data }, { on := 7, ground := Go.Ground.data }], guard := none }) (v := ?_) rfl (by kernel_rfl) (by kernel_rfl) (by kernel_rfl) (fun _ _ _ h => h) (Or.inl ⟨by rfl, ?_⟩) (by assumption) ?_
          rotate_left
          focus ((intro w hSw; (try dsimp only at hSw); clear hSw; go_simp) <;> (with_reducible rfl))
          try simp only [Act.put, List.setIfInBounds_toArray, List.set_cons_zero, List.set_cons_succ]
          refine wpAnyH_done (by kernel_rfl) ?_ _
          clear hHeld
          go_wp2
          go_returns
          rw [HT.out]
          exact ⟨rfl, HBW.out.drew⟩
      · have e1 : decide ((k : Int) < (m : Int)) = false := decide_eq_false (by omega)
        have e1' : decide (k < m) = false := decide_eq_false hkm
        have HT : Hid (R = true) := by
          show _ = _
          rw [← HR.out]
          exact decide_eq_true (List.ext_getElem (by rw [Hm.out, Hn.out]) fun q h h2 => hq.out q h h2 (by rw [Hm.out] at h; omega))
        go_wp2
        go_returns
        rw [HT.out]
        exact ⟨rfl, HBW.out⟩
  · have e0 : (m != n) = true := by simpa using hmn
    have e0' : ((m : Int) != (n : Int)) = true := by simp; omega
    have HT : Hid (R = false) := by
      show _ = _
      rw [← HR.out]
      exact decide_eq_false fun e => hmn (by rw [← Hm.out, ← Hn.out, e])
    clear hmn
    go_enter Try.func17, Try.ntmps17
    go_wp2
    go_returns
    rw [HT.out]
    exact ⟨rfl, Below.refl _ _⟩
end Go.Proofs.Ythicfgcnhefinaa
