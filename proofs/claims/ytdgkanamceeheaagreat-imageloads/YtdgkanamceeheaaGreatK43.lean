/- The program's Load. -/
import Derived.Test.YtdgkanamceeheaaGreatK41
import Derived.Test.YtdgkanamceeheaaGreatK39
import Derived.Test.YtdgkanamceeheaaGreatK42
import Derived.Deep.CutRange
set_option linter.unusedVariables false
set_option maxRecDepth 100000
set_option linter.unusedVariables false
namespace Go.Proofs.YtdgkanamceeheaaGreat.Im
open Go.RowKit
open PitotImg (St rd)
theorem zero_rd (w : World) : (zeroValue 50).run Tryz.prog w = .ok (.agg #[.pointer none,.int .i64 0]) w := by kernel_rfl
theorem Fr.of_below2 {base a b : Nat} {w w' : World} (h : Below base w w') : Fr base a b w w' := ⟨h.os,h.tape,h.output,h.size,fun k hk _ _ _ => h.block k hk⟩
def Wide (c : PitotConf.Cf) : Prop := c.parts.length ≤ 5000 ∧ c.wins.length ≤ 1000 ∧ c.vls.length ≤ 400 ∧ c.ports.length ≤ 1000 ∧ ∀ v ∈ c.vls,v.to.length ≤ 5000
theorem sm_of2 (c : Cx) (h : PitotImg.cfB c.pl) (hw : Wide c.pl) : Sm c := by
  obtain ⟨b1,b2,b3,b4,b5⟩ := hw
  have b2 : c.wins.length ≤ 1000 := by simpa [Cx.pl] using b2
  have b3 : c.vls.length ≤ 400 := by simpa [Cx.pl] using b3
  have b4 : c.ports.length ≤ 1000 := by simpa [Cx.pl] using b4
  have b1 : c.parts.length ≤ 5000 := b1
  have b5 : ∀ v ∈ c.vls,v.to.length ≤ 5000 := fun v hv => b5 v.pl (List.mem_map_of_mem hv)
  obtain ⟨h1,h2,h3,h4,h5,h6⟩ := h
  refine ⟨⟨few_wf h1,by unfold maxLen;omega,fun n hn => few_wf (h2 n hn),few_wf h3,by unfold maxLen;omega,fun y hy => ?_,by unfold maxLen;omega,fun y hy => ?_,by unfold maxLen;omega,fun y hy => ?_⟩,by omega,by omega,by omega,by omega,fun v hv => by have := b5 v hv;omega⟩
  · obtain ⟨a,b,d⟩ := h4 _ (List.mem_map_of_mem hy)
    have a1 : PitotImg.Few8 y.part := a
    have b1 : PitotImg.Few8 y.beg := b
    have d1 : PitotImg.Few8 y.long := d
    exact ⟨few_wf a1,few_wf b1,few_wf d1⟩
  · obtain ⟨a,b,d,e,f,g,k⟩ := h5 _ (List.mem_map_of_mem hy)
    have := b5 y hy
    have a1 : PitotImg.Few8 y.id := a
    have b1 : PitotImg.Few8 y.host := b
    have d1 : PitotImg.Few8 y.bag := d
    have e1 : PitotImg.Few8 y.smax := e
    have f1 : PitotImg.Few8 y.subs := f
    have g1 : PitotImg.Few8 y.skew := g
    have k1 : ∀ t ∈ y.to,PitotImg.Few8 t := k
    exact ⟨few_wf a1,few_wf b1,few_wf d1,few_wf e1,few_wf f1,few_wf g1,by unfold maxLen;omega,fun n hn => few_wf (k1 n hn)⟩
  · obtain ⟨a,b,d,e,f,g,k,l,m,n⟩ := h6 _ (List.mem_map_of_mem hy)
    have a1 : PitotImg.Few8 y.id := a
    have b1 : PitotImg.Few8 y.host := b
    have d1 : PitotImg.Few8 y.part := d
    have e1 : PitotImg.Few8 y.kind := e
    have f1 : PitotImg.Few8 y.vl := f
    have g1 : PitotImg.Few8 y.sub := g
    have k1 : PitotImg.Few8 y.udp := k
    have l1 : PitotImg.Few8 y.size := l
    have m1 : PitotImg.Few8 y.depth := m
    have n1 : PitotImg.Few8 y.fresh := n
    exact ⟨few_wf a1,few_wf b1,few_wf d1,few_wf e1,few_wf f1,few_wf g1,few_wf k1,few_wf l1,few_wf m1,few_wf n1⟩
set_option maxHeartbeats 8000000 in
theorem Load_any (s : List UInt8) (hs : s.length ≤ 95000) (hwide : PitotCrc.opened s = true → ∀ c,PitotImg.cfR ((s.take (s.length - 4)).drop 6) = .ok (c,[]) → Wide c) (w : World) : Calls Tryz.prog 8 #[.string ⟨s.toArray⟩] w fun e w' => Ans (PitotImg.load s) e w' ∧ Below w.heap.size w w' := by
  obtain ⟨S,HS⟩ : ∃ S : ByteArray,Hid (S = ⟨s.toArray⟩) := ⟨_,Lib.hid rfl⟩
  have HSL : Hid (S.data.toList = s) := by show _ = _;rw [HS.out]
  have hsz : S.size = s.length := by rw [HS.out,Bi.size_list]
  obtain ⟨R,HR⟩ : ∃ R,Hid (PitotImg.load s = R) := ⟨_,Lib.hid rfl⟩
  rw [← HS.out,HR.out]
  have HZ0 : Hid ((w.alloc (.cells #[.int .i64 0,.slice none 0 0,.int .i64 0,.slice none 0 0,.slice none 0 0,.slice none 0 0] 28)).heap[w.heap.size]? = some (.cells #[.int .i64 0,.slice none 0 0,.int .i64 0,.slice none 0 0,.slice none 0 0,.slice none 0 0] 28)) := heap_alloc_new w _
  have HB0 : Hid (Below w.heap.size w (w.alloc (.cells #[.int .i64 0,.slice none 0 0,.int .i64 0,.slice none 0 0,.slice none 0 0,.slice none 0 0] 28))) := (Below.refl _ w).alloc (Nat.le_refl _) _
  have hzc := zero_cf
  go_enter Tryz.func8,Tryz.ntmps8
  go_upto_region 1 with (fail)
  have HZ := HZ0
  have HBW := HB0
  clear HZ0 HB0
  generalize w.alloc (.cells #[.int .i64 0,.slice none 0 0,.int .i64 0,.slice none 0 0,.slice none 0 0,.slice none 0 0] 28) = Wi at HZ HBW ⊢
  obtain ⟨resb,hresb⟩ : ∃ b,w.heap.size = b := ⟨_,rfl⟩
  rw [hresb] at HZ ⊢
  by_cases h4 : s.length < 4
  case pos =>
    have HO := Lib.hid (fun w => Cr.open_short S w (by omega))
    go_upto_region 3 with (go_at_call 14;(with_reducible refine (HO.out _).mono ?_);rintro e w2 ⟨rfl,hb2⟩)
    have hZX := HZ.out
    rw [hb2] at HZ HBW
    have HRZ : R = .error (10) := HR.out.symm.trans (PitotImg.ld_short h4)
    have f0 := lies_frozen HZ.out 0
    have f1 := lies_frozen HZ.out 1
    have f2 := lies_frozen HZ.out 2
    have f3 := lies_frozen HZ.out 3
    have f4 := lies_frozen HZ.out 4
    have f5 := lies_frozen HZ.out 5
    obtain ⟨r0,r1,r2,r3,r4,r5⟩ := cells_6 HZ.out
    have hbz := build_cf
    have HRZ1 := Lib.hid HRZ
    clear HRZ
    go_wp2
    (try simp only [Exit.inBlock,Exit.then])
    obtain ⟨k0,k1,k2,k3,k4,k5,_⟩ := read_6 (y0 := .int .i64 0) (y1 := .slice none 0 0) (y2 := .int .i64 0) (y3 := .slice none 0 0) (y4 := .slice none 0 0) (y5 := .slice none 0 0) HZ.out
    refine bodyPost_ret (by simp [results,Tryz.results8,go_sem,k0,k1,k2,k3,k4,k5];try rfl) rfl ?_
    rw [HRZ1.out]
    exact ⟨rfl,below_6 HBW.out (by omega) _ _ _ _ _ _⟩
  obtain ⟨n,hn⟩ : ∃ n,s.length = n + 4 := ⟨s.length - 4,by omega⟩
  have HO := Lib.hid (fun w => Cr.open_long S w n (by omega) (by omega))
  rw [HSL.out] at HO
  cases hop : PitotCrc.opened s
  case false =>
    rw [hop] at HO
    simp only [Bool.false_eq_true,if_false] at HO
    go_upto_region 3 with (go_at_call 14;(with_reducible refine (HO.out _).mono ?_);rintro e w2 ⟨he,hb2⟩;obtain rfl := he.out)
    have HZX := Lib.hid (lies_below HZ.out hb2 (lies_lt HZ.out))
    have HBX := Lib.hid (HBW.out.trans (hb2.mono HBW.out.size))
    clear HZ HBW hb2
    have HZ := HZX
    have HBW := HBX
    clear HZX HBX
    have HRZ : R = .error (12) := HR.out.symm.trans (PitotImg.ld_sum h4 hop)
    have f0 := lies_frozen HZ.out 0
    have f1 := lies_frozen HZ.out 1
    have f2 := lies_frozen HZ.out 2
    have f3 := lies_frozen HZ.out 3
    have f4 := lies_frozen HZ.out 4
    have f5 := lies_frozen HZ.out 5
    obtain ⟨r0,r1,r2,r3,r4,r5⟩ := cells_6 HZ.out
    have hbz := build_cf
    have HRZ1 := Lib.hid HRZ
    clear HRZ
    go_wp2
    (try simp only [Exit.inBlock,Exit.then])
    obtain ⟨k0,k1,k2,k3,k4,k5,_⟩ := read_6 (y0 := .int .i64 0) (y1 := .slice none 0 0) (y2 := .int .i64 0) (y3 := .slice none 0 0) (y4 := .slice none 0 0) (y5 := .slice none 0 0) HZ.out
    refine bodyPost_ret (by simp [results,Tryz.results8,go_sem,k0,k1,k2,k3,k4,k5];try rfl) rfl ?_
    rw [HRZ1.out]
    exact ⟨rfl,below_6 HBW.out (by omega) _ _ _ _ _ _⟩
  rw [hop] at HO
  simp only [if_true] at HO
  obtain ⟨t,ht⟩ : ∃ t,s.take (s.length - 4) = t := ⟨_,rfl⟩
  obtain ⟨T,hT⟩ : ∃ T : ByteArray,S.extract 0 n = T := ⟨_,rfl⟩
  have HTl : Hid (T = ⟨t.toArray⟩) := by
    show _ = _
    rw [← hT,← ht,HS.out,hn]
    apply ByteArray.ext
    simp
  have htl : t.length = n := by rw [← ht,List.length_take];omega
  have hTs : T.size = n := by rw [HTl.out,Bi.size_list];exact htl
  rw [hT] at HO
  clear hT
  have e4 : ¬ s.length < 4 := h4
  by_cases h6 : t.length < 6
  case pos =>
    have g1 : decide ((T.size : Int) < 6) = true := decide_eq_true (by omega)
    have g1' : decide (T.size < 6) = true := decide_eq_true (by omega)
    go_upto_region 5 with (go_at_call 14;(with_reducible refine (HO.out _).mono ?_);rintro e w2 ⟨he,hb2⟩;obtain rfl := he.out)
    have HZX := Lib.hid (lies_below HZ.out hb2 (lies_lt HZ.out))
    have HBX := Lib.hid (HBW.out.trans (hb2.mono HBW.out.size))
    clear HZ HBW hb2
    have HZ := HZX
    have HBW := HBX
    clear HZX HBX
    have HRZ : R = .error (10) := HR.out.symm.trans (PitotImg.ld_six h4 hop (by rw [ht];exact h6))
    have f0 := lies_frozen HZ.out 0
    have f1 := lies_frozen HZ.out 1
    have f2 := lies_frozen HZ.out 2
    have f3 := lies_frozen HZ.out 3
    have f4 := lies_frozen HZ.out 4
    have f5 := lies_frozen HZ.out 5
    obtain ⟨r0,r1,r2,r3,r4,r5⟩ := cells_6 HZ.out
    have hbz := build_cf
    have HRZ1 := Lib.hid HRZ
    clear HRZ
    go_wp2
    (try simp only [Exit.inBlock,Exit.then])
    obtain ⟨k0,k1,k2,k3,k4,k5,_⟩ := read_6 (y0 := .int .i64 0) (y1 := .slice none 0 0) (y2 := .int .i64 0) (y3 := .slice none 0 0) (y4 := .slice none 0 0) (y5 := .slice none 0 0) HZ.out
    refine bodyPost_ret (by simp [results,Tryz.results8,go_sem,k0,k1,k2,k3,k4,k5];try rfl) rfl ?_
    rw [HRZ1.out]
    exact ⟨rfl,below_6 HBW.out (by omega) _ _ _ _ _ _⟩
  have g1 : decide ((T.size : Int) < 6) = false := decide_eq_false (by omega)
  have g1' : decide (T.size < 6) = false := decide_eq_false (by omega)
  have h6' : 6 ≤ T.size := by omega
  have hq0 : ((T.extract 0 6).toList == (⟨#[65,70,68,88,0,1]⟩ : ByteArray).toList) = decide (t.take 6 = PitotImg.magic) := by
    have e1 : (T.extract 0 6) = ⟨(t.take 6).toArray⟩ := by
      rw [HTl.out]
      apply ByteArray.ext
      simp
    rw [e1,Bool.eq_iff_iff,beq_iff_eq,decide_eq_true_eq,ByteArray.toList_eq,ByteArray.toList_eq]
    exact Iff.rfl
  by_cases hm : t.take 6 = PitotImg.magic
  case neg =>
    have HCP := Lib.hid (fun w => cutP_any T ⟨#[65,70,68,88,0,1]⟩ 6 false rfl h6' (by omega) (hq0.trans (decide_eq_false hm)) w)
    clear hq0
    go_upto_region 6 with (go_at_call 14;(with_reducible refine (HO.out _).mono ?_);rintro e w2 ⟨he,hb2⟩;obtain rfl := he.out)
    have HZX := Lib.hid (lies_below HZ.out hb2 (lies_lt HZ.out))
    have HBX := Lib.hid (HBW.out.trans (hb2.mono HBW.out.size))
    clear HZ HBW hb2
    have HZ := HZX
    have HBW := HBX
    clear HZX HBX
    go_upto_region 8 with (go_at_call 15;(with_reducible refine (HCP.out _).mono ?_);rintro e w3 ⟨rfl,rfl⟩)
    have HRZ : R = .error (13) := HR.out.symm.trans (PitotImg.ld_kind h4 hop (by rw [ht];exact h6) (by rw [ht];exact hm))
    have f0 := lies_frozen HZ.out 0
    have f1 := lies_frozen HZ.out 1
    have f2 := lies_frozen HZ.out 2
    have f3 := lies_frozen HZ.out 3
    have f4 := lies_frozen HZ.out 4
    have f5 := lies_frozen HZ.out 5
    obtain ⟨r0,r1,r2,r3,r4,r5⟩ := cells_6 HZ.out
    have hbz := build_cf
    have HRZ1 := Lib.hid HRZ
    clear HRZ
    go_wp2
    (try simp only [Exit.inBlock,Exit.then])
    obtain ⟨k0,k1,k2,k3,k4,k5,_⟩ := read_6 (y0 := .int .i64 0) (y1 := .slice none 0 0) (y2 := .int .i64 0) (y3 := .slice none 0 0) (y4 := .slice none 0 0) (y5 := .slice none 0 0) HZ.out
    refine bodyPost_ret (by simp [results,Tryz.results8,go_sem,k0,k1,k2,k3,k4,k5];try rfl) rfl ?_
    rw [HRZ1.out]
    exact ⟨rfl,below_6 HBW.out (by omega) _ _ _ _ _ _⟩
  have HRD : Hid (R = PitotImg.fin (PitotImg.sread (t.drop 6))) := by
    show _ = _
    rw [← HR.out,← ht]
    exact PitotImg.ld_read h4 hop (by rw [ht];exact h6) (by rw [ht];exact hm)
  obtain ⟨u,hu⟩ : ∃ u,t.drop 6 = u := ⟨_,rfl⟩
  have hul : u.length ≤ 95000 := by rw [← hu,List.length_drop];omega
  have hU : T.extract 6 T.size = ⟨u.toArray⟩ := by
    rw [hTs,← hu,HTl.out]
    apply ByteArray.ext
    simp
    exact List.take_of_length_le (by simp;omega)
  have HCP := Lib.hid (fun w => cutP_any T ⟨#[65,70,68,88,0,1]⟩ 6 true rfl h6' (by omega) (hq0.trans (decide_eq_true hm)) w)
  simp only [if_true] at HCP
  rw [hU] at HCP
  rw [hu] at HRD
  rw [ht,hu] at hwide
  have HWI := Lib.hid (hwide hop)
  have HRDR := Lib.hid (fun w => Bi.read_any u w)
  clear hm h6 hop HSL e4 h4 HR hq0 hU hwide
  go_upto_region 6 with (go_at_call 14;(with_reducible refine (HO.out _).mono ?_);rintro e w2 ⟨he,hb2⟩;obtain rfl := he.out)
  have HZX := Lib.hid (lies_below HZ.out hb2 (lies_lt HZ.out))
  have HBX := Lib.hid (HBW.out.trans (hb2.mono HBW.out.size))
  clear HZ HBW hb2
  have HZ := HZX
  have HBW := HBX
  clear HZX HBX
  have hzr := zero_rd
  go_upto_region 9 with (go_at_call 15;(with_reducible refine (HCP.out _).mono ?_);rintro e w3 ⟨rfl,rfl⟩)
  have HPq : Hid (((w2.alloc (.cells #[.string ⟨u.toArray⟩,.int .i64 0] 82)).alloc (.cells #[.pointer (some ⟨w2.heap.size,0,none⟩),.int .i64 0] 50)).heap[w2.heap.size + 1]? = some (.cells #[.pointer (some ⟨w2.heap.size,0,none⟩),.int .i64 0] 50)) := alloc_at2 (by simp)
  have HRq : Hid (RS 82 ((w2.alloc (.cells #[.string ⟨u.toArray⟩,.int .i64 0] 82)).alloc (.cells #[.pointer (some ⟨w2.heap.size,0,none⟩),.int .i64 0] 50)) w2.heap.size (some u)) := RS.al (T := 82) (σ := some u) (show RS 82 _ _ (some u) from ⟨u,heap_alloc_new w2 _,by omega,fun l' e => by injection e⟩) _
  have HZq := Lib.hid (lies_alloc (o := .cells #[.pointer (some ⟨w2.heap.size,0,none⟩),.int .i64 0] 50) (lies_alloc (o := .cells #[.string ⟨u.toArray⟩,.int .i64 0] 82) HZ.out))
  have HBq : Hid (Below w.heap.size w ((w2.alloc (.cells #[.string ⟨u.toArray⟩,.int .i64 0] 82)).alloc (.cells #[.pointer (some ⟨w2.heap.size,0,none⟩),.int .i64 0] 50))) := (HBW.out.alloc HBW.out.size _).alloc (by have := HBW.out.size;simp;omega) _
  have hrl := lies_lt HZ.out
  have hsq : ((w2.alloc (.cells #[.string ⟨u.toArray⟩,.int .i64 0] 82)).alloc (.cells #[.pointer (some ⟨w2.heap.size,0,none⟩),.int .i64 0] 50)).heap.size = w2.heap.size + 1 + 1 := by simp
  go_upto_region 10 with (go_at_call 16;(with_reducible refine (HRDR.out _).mono ?_);rintro e w3 ⟨rfl,hw3⟩;subst hw3)
  clear HZ HBW hzr
  have HZ := HZq
  have HBW := HBq
  clear HZq HBq
  obtain ⟨W3,hW3⟩ : ∃ W,(w2.alloc (.cells #[.string ⟨u.toArray⟩,.int .i64 0] 82)).alloc (.cells #[.pointer (some ⟨w2.heap.size,0,none⟩),.int .i64 0] 50) = W := ⟨_,rfl⟩
  rw [hW3] at HPq HRq HZ HBW hsq ⊢
  clear hW3
  obtain ⟨rb,hrb⟩ : ∃ n,w2.heap.size = n := ⟨_,rfl⟩
  rw [hrb] at HPq HRq hrl hsq ⊢
  obtain ⟨pb,hpb⟩ : ∃ n,rb + 1 = n := ⟨_,rfl⟩
  rw [hpb] at HPq hsq ⊢
  obtain ⟨lo,hlo⟩ : ∃ n,W3.heap.size = n := ⟨_,rfl⟩
  have hrl2 : resb < lo := by omega
  have hrl3 : rb < lo := by omega
  have hrl4 : pb < lo := by omega
  have hpr : pb ≠ rb := by omega
  have hrr : resb ≠ rb := by omega
  have hrp : resb ≠ pb := by omega
  have HRE := Lib.hid (read_any pb rb u W3 ⟨HPq.out,HRq.out⟩ hpr)
  rw [hlo] at HRE
  have HLO := Lib.hid hlo
  have HRB := Lib.hid hresb
  have HBB2 : Hid (w.heap.size ≤ rb ∧ w.heap.size ≤ pb ∧ w.heap.size ≤ lo) := by show _ ∧ _ ∧ _;omega
  clear hrb hpb hsq hlo HPq HRq hresb
  go_upto_region 11 with (first
    | (go_at_call 17;(with_reducible refine (HRE.out).mono ?_);rintro e w4 ⟨⟨⟨hosts,PA,pcap,parts,major,WA,wcap,wins,VA,vcap,vls,QA,qcap,ports⟩,xw,σe,hres,he,hin,hps⟩,hf⟩
       (have he : e = .returned (.agg #[.int .i64 hosts,.slice PA parts.length pcap,.int .i64 major,.slice WA wins.length wcap,.slice VA vls.length vcap,.slice QA ports.length qcap]) := he)
       (obtain ⟨pl,hpl⟩ : ∃ n,parts.length = n := ⟨_,rfl⟩)
       (obtain ⟨wl,hwl⟩ : ∃ n,wins.length = n := ⟨_,rfl⟩)
       (obtain ⟨vl,hvl⟩ : ∃ n,vls.length = n := ⟨_,rfl⟩)
       (obtain ⟨ql,hql⟩ : ∃ n,ports.length = n := ⟨_,rfl⟩)
       (rw [hpl,hwl,hvl,hql] at he)
       (subst he)
       (have HPL := Lib.hid hpl)
       (have HWL := Lib.hid hwl)
       (have HVL := Lib.hid hvl)
       (have HQL := Lib.hid hql)
       (have HRS := Lib.hid hres)
       (have HIN := Lib.hid hin)
       (have HPS := Lib.hid hps)
       (have HFR := Lib.hid hf)
       (clear hpl hwl hvl hql hres hin hps hf)))
  obtain ⟨cx,HCX⟩ : ∃ c : Cx,Hid (c = ⟨hosts,PA,pcap,parts,major,WA,wcap,wins,VA,vcap,vls,QA,qcap,ports⟩) := ⟨_,Lib.hid rfl⟩
  rw [← HCX.out] at HRS HIN
  have HZ4 := Lib.hid (lies_alloc (o := .cells #[.int .i64 hosts,.slice PA pl pcap,.int .i64 major,.slice WA wl wcap,.slice VA vl vcap,.slice QA ql qcap] 28) ((HFR.out.block resb (by omega) hrr hrp (lies_lt HZ.out)).trans HZ.out))
  have HB4 : Hid (Below w.heap.size w (w4.alloc (.cells #[.int .i64 hosts,.slice PA pl pcap,.int .i64 major,.slice WA wl wcap,.slice VA vl vcap,.slice QA ql qcap] 28))) := by
    have h1 := HRB.out
    have h2 := HBW.out.size
    have h3 := HFR.out.size
    have h4 := HLO.out
    have h5 := HBB2.out
    exact (HBW.out.trans (Below.of_fr (B := w.heap.size) HFR.out (by omega) (by omega) (by omega) (by omega))).alloc (by omega) _
  have HC4 : Hid ((w4.alloc (.cells #[.int .i64 hosts,.slice PA pl pcap,.int .i64 major,.slice WA wl wcap,.slice VA vl vcap,.slice QA ql qcap] 28)).heap[w4.heap.size]? = some (.cells #[.int .i64 hosts,.slice PA pl pcap,.int .i64 major,.slice WA wl wcap,.slice VA vl vcap,.slice QA ql qcap] 28)) := heap_alloc_new w4 _
  have HP4 : Hid (PS (w4.alloc (.cells #[.int .i64 hosts,.slice PA pl pcap,.int .i64 major,.slice WA wl wcap,.slice VA vl vcap,.slice QA ql qcap] 28)) pb rb xw σe) := ⟨lies_alloc HPS.out.1 _,RS.al HPS.out.2 _⟩
  have HI4 : Hid (CxIn lo (w4.alloc (.cells #[.int .i64 hosts,.slice PA pl pcap,.int .i64 major,.slice WA wl wcap,.slice VA vl vcap,.slice QA ql qcap] 28)).heap.size (w4.alloc (.cells #[.int .i64 hosts,.slice PA pl pcap,.int .i64 major,.slice WA wl wcap,.slice VA vl vcap,.slice QA ql qcap] 28)) cx) := (HIN.out.fr (Fr.al (a := resb) (b := resb) Fr.refl _) (Nat.le_refl _) hrl2 hrl2).mono (Nat.le_refl _) (by simp)
  have hcb : lo ≤ w4.heap.size := by (have h1 := HFR.out.size);(have h2 := HLO.out);omega
  clear HZ HBW HIN HPS HFR HRE
  obtain ⟨W5,hW5⟩ : ∃ W,w4.alloc (.cells #[.int .i64 hosts,.slice PA pl pcap,.int .i64 major,.slice WA wl wcap,.slice VA vl vcap,.slice QA ql qcap] 28) = W := ⟨_,rfl⟩
  rw [hW5] at HZ4 HB4 HC4 HP4 HI4 ⊢
  clear hW5
  obtain ⟨cb,hcb2⟩ : ∃ n,w4.heap.size = n := ⟨_,rfl⟩
  rw [hcb2] at HC4 hcb ⊢
  clear hcb2
  obtain ⟨v,hj,hv⟩ : ∃ v : Int,Hid (Calls Tryz.prog 18 #[.pointer (some ⟨pb,0,none⟩),.agg #[.int .i64 hosts,.slice PA pl pcap,.int .i64 major,.slice WA wl wcap,.slice VA vl vcap,.slice QA ql qcap]] W5 fun e w' => e = .returned (.int .i64 v) ∧ Below W5.heap.size W5 w') ∧ ((v ≠ 0 ∧ R = .error v) ∨ (v = 0 ∧ R = .ok cx.pl)) := by
    rcases HRS.out with ⟨a,b⟩ | ⟨a,b,c⟩ | ⟨a,l,b,c⟩
    · refine ⟨1,Lib.hid (judge_err pb rb xw 1 σe _ _ _ _ _ _ _ _ _ _ _ _ _ _ W5 HP4.out (by rw [a];rfl) (by decide)),.inl ⟨by decide,?_⟩⟩
      rw [HRD.out,b];rfl
    · refine ⟨10,Lib.hid (judge_err pb rb xw 10 σe _ _ _ _ _ _ _ _ _ _ _ _ _ _ W5 HP4.out (by rw [a,b];rfl) (by decide)),.inl ⟨by decide,?_⟩⟩
      rw [HRD.out,c];rfl
    · have hp := HP4.out
      rw [a,b] at hp
      by_cases hl : l = []
      · have hcf : PitotImg.cfR u = .ok (cx.pl,[]) := by rw [← PitotImg.sread_eq,c,hl]
        have hsm : Sm cx := sm_of2 cx (PitotImg.cf_few hcf) (HWI.out _ hcf)
        have hheld : cx.Held (W5.alloc (.cells #[.int .i64 hosts,.slice PA pl pcap,.int .i64 major,.slice WA wl wcap,.slice VA vl vcap,.slice QA ql qcap] 28)) := CxIn.at ((HI4.out.fr (Fr.al (a := resb) (b := resb) Fr.refl _) (Nat.le_refl _) hrl2 hrl2))
        have hck := Check_any cx hsm _ hheld
        have hj := judge_ok pb rb l (PitotConf.check cx.pl).2.2 hosts major PA WA VA QA pl pcap wl wcap vl vcap ql qcap _ _ W5 hp (by
          have e : cx.val = .agg #[.int .i64 hosts,.slice PA pl pcap,.int .i64 major,.slice WA wl wcap,.slice VA vl vcap,.slice QA ql qcap] := by rw [HCX.out,← HPL.out,← HWL.out,← HVL.out,← HQL.out]
          rw [e] at hck
          exact hck)
        rw [if_pos hl] at hj
        refine ⟨_,Lib.hid hj,?_⟩
        have hR : R = if (PitotConf.check cx.pl).2.2 ≠ 0 then .error (PitotConf.check cx.pl).2.2 else .ok cx.pl := by
          rw [HRD.out,c]
          unfold PitotImg.fin
          simp only
          rw [if_neg (by rw [hl];simp)]
        by_cases hz : (PitotConf.check cx.pl).2.2 = 0
        · exact .inr ⟨hz,by rw [hR,if_neg (by simpa using hz)]⟩
        · exact .inl ⟨hz,by rw [hR,if_pos hz]⟩
      · have hj := judge_ok11 pb rb l hosts major PA WA VA QA pl pcap wl wcap vl vcap ql qcap W5 hp hl
        refine ⟨11,Lib.hid hj,.inl ⟨by decide,?_⟩⟩
        rw [HRD.out,c]
        unfold PitotImg.fin
        simp only
        rw [if_pos hl]
  clear HRS HP4 HRD HWI
  have HV := Lib.hid hv
  clear hv
  obtain ⟨c0,c1,c2,c3,c4,c5⟩ := cells_6 HC4.out
  go_upto_region 12 with (go_at_call 18;(with_reducible refine (hj.out).mono ?_);rintro e w6 ⟨rfl,hb6⟩)
  have HZ := Lib.hid (lies_below HZ4.out hb6 (lies_lt HZ4.out))
  have HBW := Lib.hid (HB4.out.trans (hb6.mono HB4.out.size))
  have HC6 := Lib.hid (lies_below HC4.out hb6 (lies_lt HC4.out))
  have HI6 := Lib.hid ((HI4.out.fr (Fr.of_below2 (a := resb) (b := resb) hb6) (Nat.le_refl _) hrl2 hrl2).mono (Nat.le_refl _) hb6.size)
  clear HZ4 HB4 HC4 HI4 hb6 c0 c1 c2 c3 c4 c5 hj
  have hwb : w.heap.size ≤ resb := by have := HRB.out;omega
  by_cases hz : v = 0
  case neg =>
    have g1 : (v == 0) = false := by simpa using hz
    have g2 : (v != 0) = true := by simpa using hz
    have hR : R = .error v := by
      rcases HV.out with ⟨_,h⟩ | ⟨h,_⟩
      · exact h
      · exact absurd h hz
    have HRR := Lib.hid hR
    clear hR hz
    have HRZ : R = .error (v) := HRR.out
    have f0 := lies_frozen HZ.out 0
    have f1 := lies_frozen HZ.out 1
    have f2 := lies_frozen HZ.out 2
    have f3 := lies_frozen HZ.out 3
    have f4 := lies_frozen HZ.out 4
    have f5 := lies_frozen HZ.out 5
    obtain ⟨r0,r1,r2,r3,r4,r5⟩ := cells_6 HZ.out
    have hbz := build_cf
    have HRZ1 := Lib.hid HRZ
    clear HRZ
    go_wp2
    (try simp only [Exit.inBlock,Exit.then])
    obtain ⟨k0,k1,k2,k3,k4,k5,_⟩ := read_6 (y0 := .int .i64 0) (y1 := .slice none 0 0) (y2 := .int .i64 0) (y3 := .slice none 0 0) (y4 := .slice none 0 0) (y5 := .slice none 0 0) HZ.out
    refine bodyPost_ret (by simp [results,Tryz.results8,go_sem,k0,k1,k2,k3,k4,k5];try rfl) rfl ?_
    rw [HRZ1.out]
    exact ⟨rfl,below_6 HBW.out (by omega) _ _ _ _ _ _⟩
  have hR : R = .ok cx.pl := by
    rcases HV.out with ⟨h,_⟩ | ⟨_,h⟩
    · exact absurd hz h
    · exact h
  have HRR := Lib.hid hR
  clear hR
  subst hz
  have f0 := lies_frozen HZ.out 0
  have f1 := lies_frozen HZ.out 1
  have f2 := lies_frozen HZ.out 2
  have f3 := lies_frozen HZ.out 3
  have f4 := lies_frozen HZ.out 4
  have f5 := lies_frozen HZ.out 5
  obtain ⟨r0,r1,r2,r3,r4,r5⟩ := cells_6 HZ.out
  obtain ⟨c0,c1,c2,c3,c4,c5⟩ := cells_6 HC6.out
  go_wp2
  (try simp only [Exit.inBlock,Exit.then])
  obtain ⟨k0,k1,k2,k3,k4,k5,_⟩ := read_6 (y0 := .int .i64 hosts) (y1 := .slice PA pl pcap) (y2 := .int .i64 major) (y3 := .slice WA wl wcap) (y4 := .slice VA vl vcap) (y5 := .slice QA ql qcap) HZ.out
  refine bodyPost_ret (by simp [results,Tryz.results8,go_sem,k0,k1,k2,k3,k4,k5];try rfl) rfl ?_
  rw [HRR.out]
  have F6 : Fr w6.heap.size resb resb w6 ((((((w6.setCell ⟨resb,0,none⟩ (.int .i64 hosts)).setCell ⟨resb,1,none⟩ (.slice PA pl pcap)).setCell ⟨resb,2,none⟩ (.int .i64 major)).setCell ⟨resb,3,none⟩ (.slice WA wl wcap)).setCell ⟨resb,4,none⟩ (.slice VA vl vcap)).setCell ⟨resb,5,none⟩ (.slice QA ql qcap)) := Fr.set (Fr.set (Fr.set (Fr.set (Fr.set (Fr.set Fr.refl)))))
  refine ⟨⟨cx,rfl,((HI6.out.fr F6 (Nat.le_refl _) hrl2 hrl2).at),?_⟩,below_6 HBW.out (by omega) _ _ _ _ _ _⟩
  rw [HCX.out]
  show _ = Ending.returned (.tuple #[.agg #[.int .i64 hosts,.slice PA parts.length pcap,.int .i64 major,.slice WA wins.length wcap,.slice VA vls.length vcap,.slice QA ports.length qcap],.int .i64 0])
  rw [HPL.out,HWL.out,HVL.out,HQL.out]
end Go.Proofs.YtdgkanamceeheaaGreat.Im
