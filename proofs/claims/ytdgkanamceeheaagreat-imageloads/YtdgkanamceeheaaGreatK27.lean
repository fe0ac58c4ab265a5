/- The program looks at the windows. -/
import Derived.Test.YtdgkanamceeheaaGreatK26
set_option linter.unusedVariables false
set_option maxRecDepth 100000
namespace Go.Proofs.YtdgkanamceeheaaGreat
open Go.RowKit
def mayW (pl : Nat) (major wpart wbeg wlong : Int) : Bool :=
  (decide (0 ≤ wpart) && decide (wpart < (pl : Int))) && (decide (0 ≤ wbeg) && (decide (1 ≤ wlong) && decide (wlong ≤ major - wbeg)))
set_option maxHeartbeats 2000000 in
theorem mayWindow_any (hosts major : Int) (pA wA vA qA : Option Addr) (pl pc wl wk vl vc ql qc : Nat) (wpart wbeg wlong : Int) (w : World) (htl : pl ≤ maxLen) (h0 : 0 ≤ major ∧ major ≤ 1073741824) (h1 : wbeg ≤ 9223372036854775807) : Calls Tryz.prog 77 #[.agg #[.int .i64 hosts,.slice pA pl pc,.int .i64 major,.slice wA wl wk,.slice vA vl vc,.slice qA ql qc],.agg #[.int .i64 wpart,.int .i64 wbeg,.int .i64 wlong]] w fun e w' => e = .returned (.bool (mayW pl major wpart wbeg wlong)) ∧ Below w.heap.size w w' := by
  have H1 := fun w => isPart_any hosts major pA wA vA qA pl pc wl wk vl vc ql qc wpart w htl
  unfold mayW
  generalize (decide (0 ≤ wpart) && decide (wpart < (pl : Int))) = b1 at H1 ⊢
  have hsub : 0 ≤ wbeg → IntKind.i64.wrap (major - wbeg) = major - wbeg := fun h => IntWalk.i64_in _ (by omega)
  generalize hb3 : decide (1 ≤ wlong) = b3
  generalize hb4 : decide (wlong ≤ major - wbeg) = b4
  have H1 := Lib.hid H1
  by_cases hb2 : 0 ≤ wbeg
  · have hs := hsub hb2
    rw [decide_eq_true hb2]
    have hb2 := decide_eq_true hb2
    clear htl h0 h1 hsub
    go_enter Tryz.func77,Tryz.ntmps77
    go_upto_region 1 with (fail)
    have CB : Hid (((w.alloc (.cells #[.int .i64 hosts,.slice pA pl pc,.int .i64 major,.slice wA wl wk,.slice vA vl vc,.slice qA ql qc] 28)).alloc (.cells #[.int .i64 wpart,.int .i64 wbeg,.int .i64 wlong] 58)).heap[w.heap.size]? = some (.cells #[.int .i64 hosts,.slice pA pl pc,.int .i64 major,.slice wA wl wk,.slice vA vl vc,.slice qA ql qc] 28)) := lies_alloc (heap_alloc_new w _) _
    have XB : Hid (((w.alloc (.cells #[.int .i64 hosts,.slice pA pl pc,.int .i64 major,.slice wA wl wk,.slice vA vl vc,.slice qA ql qc] 28)).alloc (.cells #[.int .i64 wpart,.int .i64 wbeg,.int .i64 wlong] 58)).heap[w.heap.size + 1]? = some (.cells #[.int .i64 wpart,.int .i64 wbeg,.int .i64 wlong] 58)) := by
      have := heap_alloc_new (w.alloc (.cells #[.int .i64 hosts,.slice pA pl pc,.int .i64 major,.slice wA wl wk,.slice vA vl vc,.slice qA ql qc] 28)) (.cells #[.int .i64 wpart,.int .i64 wbeg,.int .i64 wlong] 58)
      rw [World.size_alloc] at this
      exact this
    have BB : Hid (Below w.heap.size w ((w.alloc (.cells #[.int .i64 hosts,.slice pA pl pc,.int .i64 major,.slice wA wl wk,.slice vA vl vc,.slice qA ql qc] 28)).alloc (.cells #[.int .i64 wpart,.int .i64 wbeg,.int .i64 wlong] 58))) := (((Below.refl _ w).alloc (Nat.le_refl _) _)).alloc (((Below.refl _ w).alloc (Nat.le_refl _) _)).size _
    generalize (w.alloc (.cells #[.int .i64 hosts,.slice pA pl pc,.int .i64 major,.slice wA wl wk,.slice vA vl vc,.slice qA ql qc] 28)).alloc (.cells #[.int .i64 wpart,.int .i64 wbeg,.int .i64 wlong] 58) = W1 at CB XB BB ⊢
    obtain ⟨c0,c1,c2,c3,c4,c5⟩ := cells_6 CB.out
    obtain ⟨x0,x1,x2⟩ := cells_3 XB.out
    cases b1
    · go_wp2_with (first
        | (go_at_call 101;(with_reducible refine (H1.out _).mono ?_);rintro e w2 ⟨rfl,hbb⟩
           (have C2 := Lib.hid (lies_below CB.out hbb (lies_lt CB.out)))
           (have X2 := Lib.hid (lies_below XB.out hbb (lies_lt XB.out)))
           (have B2 := Lib.hid (BB.out.trans (hbb.mono BB.out.size)))
           (clear hbb c0 c1 c2 c3 c4 c5 x0 x1 x2)
           (obtain ⟨c0,c1,c2,c3,c4,c5⟩ := cells_6 C2.out)
           (obtain ⟨x0,x1,x2⟩ := cells_3 X2.out)))
      go_returns
      exact ⟨rfl,B2.out⟩
    · cases b3
      · go_wp2_with (first
          | (go_at_call 101;(with_reducible refine (H1.out _).mono ?_);rintro e w2 ⟨rfl,hbb⟩
             (have C2 := Lib.hid (lies_below CB.out hbb (lies_lt CB.out)))
             (have X2 := Lib.hid (lies_below XB.out hbb (lies_lt XB.out)))
             (have B2 := Lib.hid (BB.out.trans (hbb.mono BB.out.size)))
             (clear hbb c0 c1 c2 c3 c4 c5 x0 x1 x2)
             (obtain ⟨c0,c1,c2,c3,c4,c5⟩ := cells_6 C2.out)
             (obtain ⟨x0,x1,x2⟩ := cells_3 X2.out)))
        go_returns
        exact ⟨rfl,B2.out⟩
      · cases b4
        · go_wp2_with (first
            | (go_at_call 101;(with_reducible refine (H1.out _).mono ?_);rintro e w2 ⟨rfl,hbb⟩
               (have C2 := Lib.hid (lies_below CB.out hbb (lies_lt CB.out)))
               (have X2 := Lib.hid (lies_below XB.out hbb (lies_lt XB.out)))
               (have B2 := Lib.hid (BB.out.trans (hbb.mono BB.out.size)))
               (clear hbb c0 c1 c2 c3 c4 c5 x0 x1 x2)
               (obtain ⟨c0,c1,c2,c3,c4,c5⟩ := cells_6 C2.out)
               (obtain ⟨x0,x1,x2⟩ := cells_3 X2.out)))
          go_returns
          exact ⟨rfl,B2.out⟩
        · go_wp2_with (first
            | (go_at_call 101;(with_reducible refine (H1.out _).mono ?_);rintro e w2 ⟨rfl,hbb⟩
               (have C2 := Lib.hid (lies_below CB.out hbb (lies_lt CB.out)))
               (have X2 := Lib.hid (lies_below XB.out hbb (lies_lt XB.out)))
               (have B2 := Lib.hid (BB.out.trans (hbb.mono BB.out.size)))
               (clear hbb c0 c1 c2 c3 c4 c5 x0 x1 x2)
               (obtain ⟨c0,c1,c2,c3,c4,c5⟩ := cells_6 C2.out)
               (obtain ⟨x0,x1,x2⟩ := cells_3 X2.out)))
          go_returns
          exact ⟨rfl,B2.out⟩
  · rw [decide_eq_false hb2]
    have hb2 := decide_eq_false hb2
    clear htl h0 h1 hsub
    go_enter Tryz.func77,Tryz.ntmps77
    go_upto_region 1 with (fail)
    have CB : Hid (((w.alloc (.cells #[.int .i64 hosts,.slice pA pl pc,.int .i64 major,.slice wA wl wk,.slice vA vl vc,.slice qA ql qc] 28)).alloc (.cells #[.int .i64 wpart,.int .i64 wbeg,.int .i64 wlong] 58)).heap[w.heap.size]? = some (.cells #[.int .i64 hosts,.slice pA pl pc,.int .i64 major,.slice wA wl wk,.slice vA vl vc,.slice qA ql qc] 28)) := lies_alloc (heap_alloc_new w _) _
    have XB : Hid (((w.alloc (.cells #[.int .i64 hosts,.slice pA pl pc,.int .i64 major,.slice wA wl wk,.slice vA vl vc,.slice qA ql qc] 28)).alloc (.cells #[.int .i64 wpart,.int .i64 wbeg,.int .i64 wlong] 58)).heap[w.heap.size + 1]? = some (.cells #[.int .i64 wpart,.int .i64 wbeg,.int .i64 wlong] 58)) := by
      have := heap_alloc_new (w.alloc (.cells #[.int .i64 hosts,.slice pA pl pc,.int .i64 major,.slice wA wl wk,.slice vA vl vc,.slice qA ql qc] 28)) (.cells #[.int .i64 wpart,.int .i64 wbeg,.int .i64 wlong] 58)
      rw [World.size_alloc] at this
      exact this
    have BB : Hid (Below w.heap.size w ((w.alloc (.cells #[.int .i64 hosts,.slice pA pl pc,.int .i64 major,.slice wA wl wk,.slice vA vl vc,.slice qA ql qc] 28)).alloc (.cells #[.int .i64 wpart,.int .i64 wbeg,.int .i64 wlong] 58))) := (((Below.refl _ w).alloc (Nat.le_refl _) _)).alloc (((Below.refl _ w).alloc (Nat.le_refl _) _)).size _
    generalize (w.alloc (.cells #[.int .i64 hosts,.slice pA pl pc,.int .i64 major,.slice wA wl wk,.slice vA vl vc,.slice qA ql qc] 28)).alloc (.cells #[.int .i64 wpart,.int .i64 wbeg,.int .i64 wlong] 58) = W1 at CB XB BB ⊢
    obtain ⟨c0,c1,c2,c3,c4,c5⟩ := cells_6 CB.out
    obtain ⟨x0,x1,x2⟩ := cells_3 XB.out
    cases b1
    · go_wp2_with (first
        | (go_at_call 101;(with_reducible refine (H1.out _).mono ?_);rintro e w2 ⟨rfl,hbb⟩
           (have C2 := Lib.hid (lies_below CB.out hbb (lies_lt CB.out)))
           (have X2 := Lib.hid (lies_below XB.out hbb (lies_lt XB.out)))
           (have B2 := Lib.hid (BB.out.trans (hbb.mono BB.out.size)))
           (clear hbb c0 c1 c2 c3 c4 c5 x0 x1 x2)
           (obtain ⟨c0,c1,c2,c3,c4,c5⟩ := cells_6 C2.out)
           (obtain ⟨x0,x1,x2⟩ := cells_3 X2.out)))
      go_returns
      exact ⟨rfl,B2.out⟩
    · go_wp2_with (first
        | (go_at_call 101;(with_reducible refine (H1.out _).mono ?_);rintro e w2 ⟨rfl,hbb⟩
           (have C2 := Lib.hid (lies_below CB.out hbb (lies_lt CB.out)))
           (have X2 := Lib.hid (lies_below XB.out hbb (lies_lt XB.out)))
           (have B2 := Lib.hid (BB.out.trans (hbb.mono BB.out.size)))
           (clear hbb c0 c1 c2 c3 c4 c5 x0 x1 x2)
           (obtain ⟨c0,c1,c2,c3,c4,c5⟩ := cells_6 C2.out)
           (obtain ⟨x0,x1,x2⟩ := cells_3 X2.out)))
      go_returns
      exact ⟨rfl,B2.out⟩
def ec (parts : List Int) (l : List PitotConf.Win) : List Value := (List.range 64).map fun (h : Nat) => .int .i64 (PitotConf.endOf parts (some (h : Int)) l 0)
theorem ec_zero (parts : List Int) : (ec parts []).toArray = Array.replicate 64 (.int .i64 0) := by
  rw [← Array.toList_inj]
  show ec parts [] = List.replicate 64 (Value.int .i64 0)
  rfl
theorem ec_get (parts : List Int) (l : List PitotConf.Win) (h : Nat) (hh : h < 64) : (ec parts l)[h]? = some (.int .i64 (PitotConf.endOf parts (some (h : Int)) l 0)) := by
  simp [ec,hh]
theorem ec_set (parts : List Int) (l : List PitotConf.Win) (x : PitotConf.Win) (y : Nat) (hy : PitotConf.hostOf parts x.part = some (y : Int)) (v : Int) (hv : v = x.beg + x.long) : (ec parts l).toArray.setIfInBounds y (.int .i64 v) = (ec parts (l ++ [x])).toArray := by
  subst hv
  rw [← Array.toList_inj]
  simp only [Array.toList_setIfInBounds]
  apply List.ext_getElem?
  intro i
  rw [List.getElem?_set]
  by_cases hi : i < 64
  · rw [ec_get _ (l ++ [x]) _ hi,ec_get _ l _ hi,PitotConf.endOf_snoc,hy]
    by_cases e : y = i
    · subst e
      rw [if_pos rfl,if_pos (by simp [ec,hi]),if_pos rfl]
    · rw [if_neg e,if_neg (by intro h;injection h with h;omega)]
  · have e1 : (ec parts l)[i]? = none := by simp [ec];omega
    have e2 : (ec parts (l ++ [x]))[i]? = none := by simp [ec];omega
    rw [e1,e2]
    by_cases e : y = i
    · rw [if_pos e,if_neg (by simp [ec];omega)]
    · rw [if_neg e]
theorem Tryz.info118 : (Tryz.prog.info? 118).map (fun i => (i.zero,i.size,i.bytes)) = some (some (.agg (Array.replicate 64 (.int .i64 0))),64,512) := by kernel_rfl
theorem zero66 (parts : List Int) (w : World) : (zeroValue 118).run Tryz.prog w = .ok (.agg (ec parts []).toArray) w := by
  obtain ⟨i,hi,hz,_,_⟩ := info_parts Tryz.info118
  rw [ec_zero]
  simp only [zeroValue,typeInfo]
  simp [hi,hz]
theorem mayW_iff {parts : List Int} {major a b c : Int} : mayW parts.length major a b c = true ↔ ¬ (PitotConf.hostOf parts a = none ∨ b < 0 ∨ c < 1 ∨ major < b + c) := by
  have hh : PitotConf.hostOf parts a = none ↔ ¬ (0 ≤ a ∧ a < (parts.length : Int)) := by
    unfold PitotConf.hostOf
    by_cases h : 0 ≤ a
    · rw [if_pos h,List.getElem?_eq_none_iff];omega
    · rw [if_neg h];simp;omega
  rw [hh]
  simp only [mayW,Bool.and_eq_true,decide_eq_true_eq,not_or]
  constructor
  · rintro ⟨h1,h2,h3,h4⟩;exact ⟨by omega,by omega,by omega,by omega⟩
  · rintro ⟨h1,h2,h3,h4⟩;exact ⟨by omega,by omega,by omega,by omega⟩
theorem winJ_eq (parts : List Int) (major : Int) (l : List Wn) (k : Nat) (h : k < l.length) : PitotConf.winJ parts major ((l.map Wn.pl).take k) ((l.map Wn.pl)[k]'(by simpa using h)) = if 256 ≤ k then 1 else if mayW parts.length major l[k].part l[k].beg l[k].long = false then 1 else if l[k].beg < PitotConf.endOf parts (PitotConf.hostOf parts l[k].part) ((l.map Wn.pl).take k) 0 then 25 else 0 := by
  have hlen : ((l.map Wn.pl).take k).length = k := by simp;omega
  rw [PitotConf.winJ,hlen,List.getElem_map]
  generalize l[k] = x
  by_cases h1 : 256 ≤ k
  · rw [if_pos (Or.inl h1),if_pos h1]
  rw [if_neg h1]
  have hmay := @mayW_iff parts major x.part x.beg x.long
  by_cases h2 : mayW parts.length major x.part x.beg x.long = false
  · rw [if_pos h2]
    apply if_pos
    right
    apply Classical.byContradiction
    intro hn
    have := hmay.2 hn
    rw [this] at h2;cases h2
  · rw [if_neg h2]
    have h2 : mayW parts.length major x.part x.beg x.long = true := by simpa using h2
    refine (if_neg ?_).trans rfl
    rintro (q | q)
    · exact h1 q
    · exact hmay.1 h2 q
set_option maxHeartbeats 4000000 in
theorem judgeWins_any (c : Cx) (w : World) (hc : c.Held w) (hpl : c.parts.length ≤ maxLen) (hl : c.wins.length ≤ 1000) (hm : 0 ≤ c.major ∧ c.major ≤ 1073741824) (hp : ∀ h ∈ c.parts,0 ≤ h ∧ h < 64) (hok : ∀ x ∈ c.wins,x.beg ≤ 9223372036854775807) : Calls Tryz.prog 31 #[c.val] w fun e w' => e = .returned (judged (told (PitotConf.scan (PitotConf.winJ c.parts c.major) [] (c.wins.map Wn.pl)))) ∧ Below w.heap.size w w' := by
  have HV : Hid (WnsAt w c.winsA c.wins) := hc.2.1
  have HPA : Hid (IntsAt w c.partsA c.parts) := hc.1
  have HOK := Lib.hid hok
  have HP := Lib.hid hp
  clear hc hok hp
  obtain ⟨R,HR⟩ : ∃ R,Hid (told (PitotConf.scan (PitotConf.winJ c.parts c.major) [] (c.wins.map Wn.pl)) = R) := ⟨_,rfl⟩
  rw [HR.out]
  obtain ⟨hosts,pA,pc,parts,major,wA,wk,wins,vA,vc,vls,qA,qc,ports⟩ := c
  simp only at HV HPA HR hl hpl hm HOK HP ⊢
  obtain ⟨m,Hm⟩ : ∃ m,Hid (wins.length = m) := ⟨_,rfl⟩
  obtain ⟨pl,Hpl⟩ : ∃ pl,Hid (parts.length = pl) := ⟨_,rfl⟩
  show Calls Tryz.prog 31 #[.agg #[.int .i64 hosts,.slice pA parts.length pc,.int .i64 major,.slice wA wins.length wk,.slice vA vls.length vc,.slice qA ports.length qc]] w _
  rw [Hm.out] at hl ⊢
  rw [Hpl.out] at hpl ⊢
  generalize vls.length = vl,ports.length = ql
  obtain ⟨ra,re⟩ := R
  have HM := Lib.hid (fun wpart wbeg wlong w (h : wbeg ≤ 9223372036854775807) => mayWindow_any hosts major pA wA vA qA pl pc m wk vl vc ql qc wpart wbeg wlong w hpl hm h)
  have CB0 : Hid (((w.alloc (.cells #[.int .i64 hosts,.slice pA pl pc,.int .i64 major,.slice wA m wk,.slice vA vl vc,.slice qA ql qc] 28)).alloc (.cells (ec parts []).toArray 118)).heap[w.heap.size]? = some (.cells #[.int .i64 hosts,.slice pA pl pc,.int .i64 major,.slice wA m wk,.slice vA vl vc,.slice qA ql qc] 28)) := lies_alloc (heap_alloc_new w _) _
  have EB0 : Hid (((w.alloc (.cells #[.int .i64 hosts,.slice pA pl pc,.int .i64 major,.slice wA m wk,.slice vA vl vc,.slice qA ql qc] 28)).alloc (.cells (ec parts []).toArray 118)).heap[w.heap.size + 1]? = some (.cells (ec parts []).toArray 118)) := by
    have := heap_alloc_new (w.alloc (.cells #[.int .i64 hosts,.slice pA pl pc,.int .i64 major,.slice wA m wk,.slice vA vl vc,.slice qA ql qc] 28)) (.cells (ec parts []).toArray 118)
    rw [World.size_alloc] at this
    exact this
  have BB0 : Hid (Below w.heap.size w ((w.alloc (.cells #[.int .i64 hosts,.slice pA pl pc,.int .i64 major,.slice wA m wk,.slice vA vl vc,.slice qA ql qc] 28)).alloc (.cells (ec parts []).toArray 118))) := (((Below.refl _ w).alloc (Nat.le_refl _) _)).alloc (((Below.refl _ w).alloc (Nat.le_refl _) _)).size _
  have hz := zero66 parts
  go_enter Tryz.func31,Tryz.ntmps31
  go_upto_region 3 with (fail)
  clear hz
  go_loopw [11] (fun v11 wr => ∃ k : Nat,k ≤ m ∧ v11 = .int .i64 k ∧ Hid (told (PitotConf.scan (PitotConf.winJ parts major) ((wins.map Wn.pl).take k) ((wins.map Wn.pl).drop k)) = (ra,re)) ∧ wr.heap[w.heap.size]? = some (.cells #[.int .i64 hosts,.slice pA pl pc,.int .i64 major,.slice wA m wk,.slice vA vl vc,.slice qA ql qc] 28) ∧ wr.heap[w.heap.size + 1]? = some (.cells (ec parts ((wins.map Wn.pl).take k)).toArray 118) ∧ Below w.heap.size w wr) (fun v11 _ => m - (intOf v11).toNat)
  case atStart => exact ⟨0,Nat.zero_le _,rfl,HR,CB0.out,EB0.out,BB0.out⟩
  case round =>
    obtain ⟨k,hk,rfl,ht,hC,hE,hB⟩ := hrel
    have HB := Lib.hid hB;have HC := Lib.hid hC;have HE := Lib.hid hE
    clear hB hC hE CB0 BB0 EB0
    obtain ⟨c0,c1,c2,c3,c4,c5⟩ := cells_6 HC.out
    by_cases hkm : k < m
    · have hkl : k < wins.length := by rw [Hm.out];exact hkm
      have e1 : decide ((k : Int) < (m : Int)) = true := decide_eq_true (by omega)
      have e1' : decide (k < m) = true := decide_eq_true hkm
      obtain ⟨b,off,rfl,hb,hat⟩ := HV.out.get hkl
      have hat := hat.below HB.out hb
      have hs := scan_step (PitotConf.winJ parts major) (wins.map Wn.pl) k (by simpa using hkl)
      rw [winJ_eq parts major wins k hkl,Hpl.out] at hs
      have hxo := HOK.out _ (List.getElem_mem hkl)
      have hst : (wins.map Wn.pl).take (k + 1) = (wins.map Wn.pl).take k ++ [wins[k].pl] := by
        rw [List.take_succ_eq_append_getElem (by simpa using hkl),List.getElem_map]
      generalize wins[k] = x at hat hs hxo hst
      obtain ⟨xpart,xbeg,xlong⟩ := x
      simp only [WnAt] at hat
      simp only at hs hxo
      have HM2 := fun W => HM.out xpart xbeg xlong W hxo
      have HMW : Hid (mayW pl major xpart xbeg xlong = true → (0 ≤ xpart ∧ xpart < (pl : Int)) ∧ 0 ≤ xbeg ∧ 1 ≤ xlong ∧ xlong ≤ major - xbeg) := by
        intro h
        simp only [mayW,Bool.and_eq_true,decide_eq_true_eq] at h
        exact h
      generalize mayW pl major xpart xbeg xlong = B at HM2 HMW hs
      have HS := Lib.hid hs
      have HST := Lib.hid hst
      have HM3 := Lib.hid HM2
      clear hs hst HM2
      obtain ⟨a0,a1,a2⟩ := hat
      go_upto_region 5 with (fail)
      have CB : Hid ((wr.alloc (.cells #[.int .i64 xpart,.int .i64 xbeg,.int .i64 xlong] 58)).heap[w.heap.size]? = some (.cells #[.int .i64 hosts,.slice pA pl pc,.int .i64 major,.slice (some ⟨b,off,none⟩) m wk,.slice vA vl vc,.slice qA ql qc] 28)) := lies_alloc HC.out _
      have XB : Hid ((wr.alloc (.cells #[.int .i64 xpart,.int .i64 xbeg,.int .i64 xlong] 58)).heap[wr.heap.size]? = some (.cells #[.int .i64 xpart,.int .i64 xbeg,.int .i64 xlong] 58)) := heap_alloc_new wr _
      have EB : Hid ((wr.alloc (.cells #[.int .i64 xpart,.int .i64 xbeg,.int .i64 xlong] 58)).heap[w.heap.size + 1]? = some (.cells (ec parts ((wins.map Wn.pl).take k)).toArray 118)) := lies_alloc HE.out _
      have AB : Hid (Below wr.heap.size wr (wr.alloc (.cells #[.int .i64 xpart,.int .i64 xbeg,.int .i64 xlong] 58))) := (Below.refl _ wr).alloc (Nat.le_refl _) _
      have BB : Hid (Below w.heap.size w (wr.alloc (.cells #[.int .i64 xpart,.int .i64 xbeg,.int .i64 xlong] 58))) := HB.out.trans (AB.out.mono HB.out.size)
      have hwx : w.heap.size + 1 < wr.heap.size := lies_lt HE.out
      clear a0 a1 a2 c0 c1 c2 c3 c4 c5 HC HB AB HE
      generalize wr.alloc (.cells #[.int .i64 xpart,.int .i64 xbeg,.int .i64 xlong] 58) = W1 at CB XB BB EB ⊢
      generalize wr.heap.size = xb at XB hwx ⊢
      obtain ⟨c0,c1,c2,c3,c4,c5⟩ := cells_6 CB.out
      obtain ⟨x0,x1,x2⟩ := cells_3 XB.out
      by_cases g0 : 256 ≤ k
      · have f0 : decide (256 ≤ (k : Int)) = true := decide_eq_true (by omega)
        have f0' : decide (256 ≤ k) = true := decide_eq_true g0
        have HT : Hid (((k : Int),(1 : Int)) = (ra,re)) := by
          show _ = _
          rw [← ht.out,HS.out,if_pos g0,if_neg (show ¬ ((1 : Int) = 0) by decide)];rfl
        clear ht
        go_wp2
        go_returns
        have := HT.out
        injection this with h1 h2
        subst h1;subst h2
        exact ⟨rfl,BB.out⟩
      · have f0 : decide (256 ≤ (k : Int)) = false := decide_eq_false (by omega)
        have f0' : decide (256 ≤ k) = false := decide_eq_false g0
        have hs := HS.out
        rw [if_neg g0] at hs
        clear HS
        cases B
        · rw [if_pos rfl,if_neg (show ¬ ((1 : Int) = 0) by decide)] at hs
          have HT : Hid (((k : Int),(1 : Int)) = (ra,re)) := by
            show _ = _
            rw [← ht.out,hs];rfl
          clear ht hs
          go_wp2_with (go_at_call 77;(with_reducible refine (HM3.out _).mono ?_);rintro e w2 ⟨rfl,hb2⟩)
          go_returns
          have := HT.out
          injection this with h1 h2
          subst h1;subst h2
          exact ⟨rfl,BB.out.trans (hb2.mono BB.out.size)⟩
        · obtain ⟨⟨q0,q1⟩,q2,q3,q4⟩ := HMW.out rfl
          rw [if_neg (show ¬ (true = false) by decide)] at hs
          have hjl : xpart.toNat < parts.length := by rw [Hpl.out];omega
          have hho : PitotConf.hostOf parts xpart = some parts[xpart.toNat] := by
            rw [PitotConf.hostOf,if_pos q0,List.getElem?_eq_getElem hjl]
          rw [hho] at hs
          have hyr := HP.out _ (List.getElem_mem hjl)
          obtain ⟨b2,off2,rfl,hb2w,hat2⟩ := HPA.out.get hjl
          generalize parts[xpart.toNat] = y at hs hyr hat2 hho
          obtain ⟨yn,rfl⟩ : ∃ yn : Nat,y = (yn : Int) := ⟨y.toNat,by omega⟩
          have hyn : yn < 64 := by omega
          have HHO := Lib.hid hho
          clear hho
          generalize hj : xpart.toNat = j at hat2
          go_upto_region 7 with (first
            | (go_at_call 77;(with_reducible refine (HM3.out _).mono ?_);rintro e w2 ⟨rfl,hb2⟩))
          have C2 := Lib.hid (lies_below CB.out hb2 (lies_lt CB.out))
          have X2 := Lib.hid (lies_below XB.out hb2 (lies_lt XB.out))
          have E2 := Lib.hid (lies_below EB.out hb2 (lies_lt EB.out))
          have B2 := Lib.hid (BB.out.trans (hb2.mono BB.out.size))
          clear hb2 c0 c1 c2 c3 c4 c5 x0 x1 x2 CB XB EB BB
          have hat2 := (B2.out.cell hb2w).trans hat2
          obtain ⟨c0,c1,c2,c3,c4,c5⟩ := cells_6 C2.out
          obtain ⟨x0,x1,x2⟩ := cells_3 X2.out
          have hE := (lies_cell E2.out yn)
          rw [List.getElem?_toArray,ec_get _ _ _ hyn] at hE
          have fE := lies_frozen E2.out yn
          generalize PitotConf.endOf parts (some (yn : Int)) ((wins.map Wn.pl).take k) 0 = en at hE hs
          have hyI : (yn : Int) < 64 := by omega
          have hy0 : 0 ≤ (yn : Int) := by omega
          have hsum : IntKind.i64.wrap (xbeg + xlong) = xbeg + xlong := IntWalk.i64_in _ (by omega)
          go_upto_region 8 with (fail)
          by_cases g1 : xbeg < en
          · have g2 : decide (xbeg < en) = true := decide_eq_true g1
            rw [if_pos g1,if_neg (show ¬ ((25 : Int) = 0) by decide)] at hs
            have HT : Hid (((k : Int),(25 : Int)) = (ra,re)) := by
              show _ = _
              rw [← ht.out,hs];rfl
            clear ht hs g1
            go_quiet (fail)
            go_wp2
            go_returns
            have := HT.out
            injection this with h1 h2
            subst h1;subst h2
            exact ⟨rfl,below_drewN B2.out nq⟩
          · have g2 : decide (xbeg < en) = false := decide_eq_false g1
            rw [if_neg g1,if_pos rfl] at hs
            have HT : Hid (told (PitotConf.scan (PitotConf.winJ parts major) ((wins.map Wn.pl).take (k + 1)) ((wins.map Wn.pl).drop (k + 1))) = (ra,re)) := by
              show _ = _
              rw [← ht.out,hs]
            have HES := Lib.hid (ec_set parts ((wins.map Wn.pl).take k) ⟨xpart,xbeg,xlong⟩ yn HHO.out (xbeg + xlong) rfl)
            clear ht hs g1
            go_quiet (fail)
            have C3 : Hid ((w2.drewN nq).heap[w.heap.size]? = _) := drew_lies C2.out nq
            have X3 : Hid ((w2.drewN nq).heap[xb]? = _) := drew_lies X2.out nq
            have E3 : Hid ((w2.drewN nq).heap[w.heap.size + 1]? = _) := drew_lies E2.out nq
            have B3 : Hid (Below w.heap.size w (w2.drewN nq)) := below_drewN B2.out nq
            clear c0 c1 c2 c3 c4 c5 x0 x1 x2 C2 X2 E2 B2 hat2 hE fE
            generalize w2.drewN nq = w3 at C3 X3 E3 B3 ⊢
            obtain ⟨x0,x1,x2⟩ := cells_3 X3.out
            have fE := lies_frozen E3.out yn
            have hE : w3.cell? ⟨w.heap.size + 1,yn,none⟩ = _ := lies_cell E3.out yn
            rw [List.getElem?_toArray,ec_get _ _ _ hyn] at hE
            have C4 : Hid ((w3.setCell ⟨w.heap.size + 1,yn,none⟩ (.int .i64 (xbeg + xlong))).heap[w.heap.size]? = some (.cells #[.int .i64 hosts,.slice (some ⟨b2,off2,none⟩) pl pc,.int .i64 major,.slice (some ⟨b,off,none⟩) m wk,.slice vA vl vc,.slice qA ql qc] 28)) := (Below.heap_setCell _ _ _ _ (show w.heap.size ≠ w.heap.size + 1 by omega)).trans C3.out
            have E4 : Hid ((w3.setCell ⟨w.heap.size + 1,yn,none⟩ (.int .i64 (xbeg + xlong))).heap[w.heap.size + 1]? = some (.cells (ec parts ((wins.map Wn.pl).take (k + 1))).toArray 118)) := by
              have := lies_set E3.out yn (.int .i64 (xbeg + xlong))
              rw [HES.out,← HST.out] at this
              exact this
            have B4 : Hid (Below w.heap.size w (w3.setCell ⟨w.heap.size + 1,yn,none⟩ (.int .i64 (xbeg + xlong)))) := B3.out.setCell (show w.heap.size ≤ (⟨w.heap.size + 1,yn,none⟩ : Addr).block by show _ ≤ w.heap.size + 1;omega) _
            go_wp2
            go_roundw
            case rel => exact ⟨k + 1,by omega,by go_num,HT,C4.out,E4.out,B4.out⟩
            case measure => simp [intOf];omega
    · have e1 : decide ((k : Int) < (m : Int)) = false := decide_eq_false (by omega)
      have e1' : decide (k < m) = false := decide_eq_false hkm
      have HT : Hid (((0 : Int),(0 : Int)) = (ra,re)) := by
        show _ = _
        rw [← ht.out,scan_end _ _ _ (by rw [List.length_map,Hm.out];omega)];rfl
      clear ht
      go_wp2
      go_returns
      have := HT.out
      injection this with h1 h2
      subst h1;subst h2
      exact ⟨rfl,HB.out⟩
end Go.Proofs.YtdgkanamceeheaaGreat
