/- The document's Load. -/
import Derived.Test.YtdgkanamceeheaaGreatK39
import Derived.Test.YtdgkanamceeheaaGreatK42
import Derived.Deep.CutRange
set_option linter.unusedVariables false
set_option maxRecDepth 100000
set_option linter.unusedVariables false
namespace Go.Proofs.YtdgkanamceeheaaGreat.Im
open Go.RowKit
open PitotImg (St rd)
theorem then_n {K : Act → World → Prop} {Q : Exit → Act → World → Prop} {a : Act} {w : World} (h : K a w) : Exit.then K Q .normal a w := h
theorem then_r {K : Act → World → Prop} {Q : Exit → Act → World → Prop} {a : Act} {w : World} (h : Q .ret a w) : Exit.then K Q .ret a w := h
theorem inBlock_r {id : Nat} {Q : Exit → Act → World → Prop} {a : Act} {w : World} (h : Q .ret a w) : Exit.inBlock id Q .ret a w := h
theorem Fr.of_below {base a b : Nat} {w w' : World} (h : Below base w w') : Fr base a b w w' := ⟨h.os,h.tape,h.output,h.size,fun k hk _ _ _ => h.block k hk⟩
set_option maxHeartbeats 32000000 in
theorem refLoad_any (s : List UInt8) (hs : s.length ≤ 5000) (w : World) : Calls Tryz.prog 9 #[.string ⟨s.toArray⟩] w fun e w' => Ans (PitotImg.load s) e w' ∧ Below w.heap.size w w' := by
  obtain ⟨S,HS⟩ : ∃ S : ByteArray,Hid (S = ⟨s.toArray⟩) := ⟨_,Lib.hid rfl⟩
  have HSL : Hid (S.data.toList = s) := by show _ = _;rw [HS.out]
  have hsz : S.size = s.length := by rw [HS.out,Bi.size_list]
  obtain ⟨R,HR⟩ : ∃ R,Hid (PitotImg.load s = R) := ⟨_,rfl⟩
  rw [← HS.out,HR.out]
  have HZ0 : Hid ((w.alloc (.cells #[.int .i64 0,.slice none 0 0,.int .i64 0,.slice none 0 0,.slice none 0 0,.slice none 0 0] 28)).heap[w.heap.size]? = some (.cells #[.int .i64 0,.slice none 0 0,.int .i64 0,.slice none 0 0,.slice none 0 0,.slice none 0 0] 28)) := heap_alloc_new w _
  have HB0 : Hid (Below w.heap.size w (w.alloc (.cells #[.int .i64 0,.slice none 0 0,.int .i64 0,.slice none 0 0,.slice none 0 0,.slice none 0 0] 28))) := (Below.refl _ w).alloc (Nat.le_refl _) _
  have hzc := zero_cf
  go_enter Tryz.func9,Tryz.ntmps9
  go_upto_region 1 with (fail)
  have HZ := HZ0
  have HBW := HB0
  clear HZ0 HB0
  generalize w.alloc (.cells #[.int .i64 0,.slice none 0 0,.int .i64 0,.slice none 0 0,.slice none 0 0,.slice none 0 0] 28) = Wi at HZ HBW ⊢
  obtain ⟨resb,hresb⟩ : ∃ b,w.heap.size = b := ⟨_,rfl⟩
  rw [hresb] at HZ ⊢
  by_cases h4 : s.length < 4
  case pos =>
    have HO := Lib.hid (fun w => Cr.refOpen_short S w (by omega))
    go_upto_region 3 with (go_at_call 19;(with_reducible refine (HO.out _).mono ?_);rintro e w2 ⟨rfl,hb2⟩)
    have hZX := HZ.out
    rw [hb2] at HZ HBW
    have HRZ : R = .error (10) := HR.out.symm.trans (PitotImg.ld_short h4)
    have f0 := lies_frozen HZ.out 0
    have f1 := lies_frozen HZ.out 1
    have f2 := lies_frozen HZ.out 2
    have f3 := lies_frozen HZ.out 3
    have f4 := lies_frozen HZ.out 4
    have f5 := lies_frozen HZ.out 5
    obtain ⟨r0,r1,r2,r3,r4,r5⟩ := cells_6 HZ.out
    have hbz := build_cf
    go_wp2
    (try simp only [Exit.inBlock,Exit.then])
    obtain ⟨k0,k1,k2,k3,k4,k5,_⟩ := read_6 (y0 := .int .i64 0) (y1 := .slice none 0 0) (y2 := .int .i64 0) (y3 := .slice none 0 0) (y4 := .slice none 0 0) (y5 := .slice none 0 0) HZ.out
    refine bodyPost_ret (by simp [results,Tryz.results9,go_sem,k0,k1,k2,k3,k4,k5];try rfl) rfl ?_
    subst HRZ
    exact ⟨rfl,below_6 HBW.out (by omega) _ _ _ _ _ _⟩
  obtain ⟨n,hn⟩ : ∃ n,s.length = n + 4 := ⟨s.length - 4,by omega⟩
  have HO := Lib.hid (fun w => Cr.refOpen_long S w n (by omega) (by omega))
  rw [HSL.out] at HO
  cases hop : PitotCrc.opened s
  case false =>
    rw [hop] at HO
    simp only [Bool.false_eq_true,if_false] at HO
    go_upto_region 3 with (go_at_call 19;(with_reducible refine (HO.out _).mono ?_);rintro e w2 ⟨he,hb2⟩;obtain rfl := he.out)
    have HZX := Lib.hid (lies_below HZ.out hb2 (lies_lt HZ.out))
    have HBX := Lib.hid (HBW.out.trans (hb2.mono HBW.out.size))
    clear HZ HBW hb2
    have HZ := HZX
    have HBW := HBX
    have HRZ : R = .error (12) := HR.out.symm.trans (PitotImg.ld_sum h4 hop)
    have f0 := lies_frozen HZ.out 0
    have f1 := lies_frozen HZ.out 1
    have f2 := lies_frozen HZ.out 2
    have f3 := lies_frozen HZ.out 3
    have f4 := lies_frozen HZ.out 4
    have f5 := lies_frozen HZ.out 5
    obtain ⟨r0,r1,r2,r3,r4,r5⟩ := cells_6 HZ.out
    have hbz := build_cf
    go_wp2
    (try simp only [Exit.inBlock,Exit.then])
    obtain ⟨k0,k1,k2,k3,k4,k5,_⟩ := read_6 (y0 := .int .i64 0) (y1 := .slice none 0 0) (y2 := .int .i64 0) (y3 := .slice none 0 0) (y4 := .slice none 0 0) (y5 := .slice none 0 0) HZ.out
    refine bodyPost_ret (by simp [results,Tryz.results9,go_sem,k0,k1,k2,k3,k4,k5];try rfl) rfl ?_
    subst HRZ
    exact ⟨rfl,below_6 HBW.out (by omega) _ _ _ _ _ _⟩
  rw [hop] at HO
  simp only [if_true] at HO
  obtain ⟨t,ht⟩ : ∃ t,s.take (s.length - 4) = t := ⟨_,rfl⟩
  obtain ⟨T,hT⟩ : ∃ T : ByteArray,S.extract 0 n = T := ⟨_,rfl⟩
  have HTl : Hid (T = ⟨t.toArray⟩) := by
    show _ = _
    rw [← hT,← ht,HS.out,hn]
    apply ByteArray.ext
    simp
  have htl : t.length = n := by rw [← ht,List.length_take];omega
  have hTs : T.size = n := by rw [HTl.out,Bi.size_list];exact htl
  rw [hT] at HO
  clear hT
  have e4 : ¬ s.length < 4 := h4
  by_cases h6 : t.length < 6
  case pos =>
    have g1 : decide ((T.size : Int) < 6) = true := decide_eq_true (by omega)
    have g1' : decide (T.size < 6) = true := decide_eq_true (by omega)
    go_upto_region 4 with (go_at_call 19;(with_reducible refine (HO.out _).mono ?_);rintro e w2 ⟨he,hb2⟩;obtain rfl := he.out)
    have HZX := Lib.hid (lies_below HZ.out hb2 (lies_lt HZ.out))
    have HBX := Lib.hid (HBW.out.trans (hb2.mono HBW.out.size))
    clear HZ HBW hb2
    have HZ := HZX
    have HBW := HBX
    clear HZX HBX
    have HRZ : R = .error (10) := HR.out.symm.trans (PitotImg.ld_six h4 hop (by rw [ht];exact h6))
    have f0 := lies_frozen HZ.out 0
    have f1 := lies_frozen HZ.out 1
    have f2 := lies_frozen HZ.out 2
    have f3 := lies_frozen HZ.out 3
    have f4 := lies_frozen HZ.out 4
    have f5 := lies_frozen HZ.out 5
    obtain ⟨r0,r1,r2,r3,r4,r5⟩ := cells_6 HZ.out
    have hbz := build_cf
    go_wp2
    (try simp only [Exit.inBlock,Exit.then])
    obtain ⟨k0,k1,k2,k3,k4,k5,_⟩ := read_6 (y0 := .int .i64 0) (y1 := .slice none 0 0) (y2 := .int .i64 0) (y3 := .slice none 0 0) (y4 := .slice none 0 0) (y5 := .slice none 0 0) HZ.out
    refine bodyPost_ret (by simp [results,Tryz.results9,go_sem,k0,k1,k2,k3,k4,k5];try rfl) rfl ?_
    subst HRZ
    exact ⟨rfl,below_6 HBW.out (by omega) _ _ _ _ _ _⟩
  have g1 : decide ((T.size : Int) < 6) = false := decide_eq_false (by omega)
  have g1' : decide (T.size < 6) = false := decide_eq_false (by omega)
  have g2 : (6 : Int) ≤ (T.size : Int) := by omega
  have g2' : 6 ≤ T.size := by omega
  have g3 : T.size ≤ 1000000 := by omega
  obtain ⟨HD,hHD⟩ : ∃ H : ByteArray,T.extract 0 6 = H := ⟨_,rfl⟩
  obtain ⟨U,hU⟩ : ∃ U : ByteArray,T.extract 6 n = U := ⟨_,rfl⟩
  have HH : Hid (HD = ⟨(t.take 6).toArray⟩) := by
    show _ = _
    rw [← hHD,HTl.out]
    apply ByteArray.ext
    simp
  have HU : Hid (U = ⟨(t.drop 6).toArray⟩) := by
    show _ = _
    rw [← hU,HTl.out]
    apply ByteArray.ext
    simp
    exact List.take_of_length_le (by simp;omega)
  obtain ⟨q,hq⟩ : ∃ q,(HD.toList == ([65,70,68,88,0,1] : List UInt8)) = q := ⟨_,rfl⟩
  have HQM : Hid (q = decide (t.take 6 = PitotImg.magic)) := by
    show _ = _
    rw [← hq,HH.out,Bool.eq_iff_iff,beq_iff_eq,decide_eq_true_eq,ByteArray.toList_eq]
    exact Iff.rfl
  by_cases hm : t.take 6 = PitotImg.magic
  case neg =>
    have hqf : q = false := by rw [HQM.out];exact decide_eq_false hm
    subst hqf
    go_upto_region 4 with (go_at_call 19;(with_reducible refine (HO.out _).mono ?_);rintro e w2 ⟨he,hb2⟩;obtain rfl := he.out)
    have HZX := Lib.hid (lies_below HZ.out hb2 (lies_lt HZ.out))
    have HBX := Lib.hid (HBW.out.trans (hb2.mono HBW.out.size))
    clear HZ HBW hb2
    have HZ := HZX
    have HBW := HBX
    clear HZX HBX
    have HRZ : R = .error (13) := HR.out.symm.trans (PitotImg.ld_kind h4 hop (by rw [ht];exact h6) (by rw [ht];exact hm))
    have f0 := lies_frozen HZ.out 0
    have f1 := lies_frozen HZ.out 1
    have f2 := lies_frozen HZ.out 2
    have f3 := lies_frozen HZ.out 3
    have f4 := lies_frozen HZ.out 4
    have f5 := lies_frozen HZ.out 5
    obtain ⟨r0,r1,r2,r3,r4,r5⟩ := cells_6 HZ.out
    have hbz := build_cf
    go_wp2
    (try simp only [Exit.inBlock,Exit.then])
    obtain ⟨k0,k1,k2,k3,k4,k5,_⟩ := read_6 (y0 := .int .i64 0) (y1 := .slice none 0 0) (y2 := .int .i64 0) (y3 := .slice none 0 0) (y4 := .slice none 0 0) (y5 := .slice none 0 0) HZ.out
    refine bodyPost_ret (by simp [results,Tryz.results9,go_sem,k0,k1,k2,k3,k4,k5];try rfl) rfl ?_
    subst HRZ
    exact ⟨rfl,below_6 HBW.out (by omega) _ _ _ _ _ _⟩
  have hqt : q = true := by rw [HQM.out];exact decide_eq_true hm
  subst hqt
  have HRD : Hid (R = PitotImg.fin (PitotImg.sread (t.drop 6))) := by
    show _ = _
    rw [← HR.out,← ht]
    exact PitotImg.ld_read h4 hop (by rw [ht];exact h6) (by rw [ht];exact hm)
  obtain ⟨u,hu⟩ : ∃ u,t.drop 6 = u := ⟨_,rfl⟩
  have hul : u.length ≤ 5000 := by rw [← hu,List.length_drop];omega
  rw [hu] at HRD HU
  clear hm HQM HH h6 hop HSL e4 h4 HR
  go_upto_region 8 with (go_at_call 19;(with_reducible refine (HO.out _).mono ?_);rintro e w2 ⟨he,hb2⟩;obtain rfl := he.out)
  have HZX := Lib.hid (lies_below HZ.out hb2 (lies_lt HZ.out))
  have HBX := Lib.hid (HBW.out.trans (hb2.mono HBW.out.size))
  clear HZ HBW hb2
  have HZ := HZX
  have HBW := HBX
  clear HZX HBX
  have HR0 : Hid ((((w2.alloc (.cells #[.string U,.int .i64 0] 55)).alloc (.cells #[.int .i64 0,.slice none 0 0,.int .i64 0,.slice none 0 0,.slice none 0 0,.slice none 0 0] 28))).heap[w2.heap.size]? = some (.cells #[.string U,.int .i64 0] 55)) := lies_alloc (heap_alloc_new w2 _) _
  have HC0 : Hid ((((w2.alloc (.cells #[.string U,.int .i64 0] 55)).alloc (.cells #[.int .i64 0,.slice none 0 0,.int .i64 0,.slice none 0 0,.slice none 0 0,.slice none 0 0] 28))).heap[w2.heap.size + 1]? = some (.cells #[.int .i64 0,.slice none 0 0,.int .i64 0,.slice none 0 0,.slice none 0 0,.slice none 0 0] 28)) := by
    have h := heap_alloc_new (w2.alloc (.cells #[.string U,.int .i64 0] 55)) (.cells #[.int .i64 0,.slice none 0 0,.int .i64 0,.slice none 0 0,.slice none 0 0,.slice none 0 0] 28)
    rw [World.size_alloc] at h
    exact h
  have HZX := Lib.hid (lies_alloc (o := .cells #[.int .i64 0,.slice none 0 0,.int .i64 0,.slice none 0 0,.slice none 0 0,.slice none 0 0] 28) (lies_alloc (o := .cells #[.string U,.int .i64 0] 55) HZ.out))
  have HBX : Hid (Below w.heap.size w ((w2.alloc (.cells #[.string U,.int .i64 0] 55)).alloc (.cells #[.int .i64 0,.slice none 0 0,.int .i64 0,.slice none 0 0,.slice none 0 0,.slice none 0 0] 28))) := (HBW.out.alloc HBW.out.size _).alloc (by have := HBW.out.size;simp;omega) _
  have hsize0 : ((w2.alloc (.cells #[.string U,.int .i64 0] 55)).alloc (.cells #[.int .i64 0,.slice none 0 0,.int .i64 0,.slice none 0 0,.slice none 0 0,.slice none 0 0] 28)).heap.size = w2.heap.size + 1 + 1 := by simp
  have hrl := lies_lt HZ.out
  go_upto_region 10 with (fail)
  clear HZ HBW
  have HZ := HZX
  have HBW := HBX
  clear HZX HBX
  obtain ⟨W1,hW1⟩ : ∃ W,(w2.alloc (.cells #[.string U,.int .i64 0] 55)).alloc (.cells #[.int .i64 0,.slice none 0 0,.int .i64 0,.slice none 0 0,.slice none 0 0,.slice none 0 0] 28) = W := ⟨_,rfl⟩
  rw [hW1] at HR0 HC0 HZ HBW hsize0 ⊢
  clear hW1
  obtain ⟨rb,hrb⟩ : ∃ rb,w2.heap.size = rb := ⟨_,rfl⟩
  rw [hrb] at HR0 HC0 hsize0 hrl ⊢
  obtain ⟨cb,hcb⟩ : ∃ cb,rb + 1 = cb := ⟨_,rfl⟩
  rw [hcb] at HC0 hsize0 ⊢
  have HRS : Hid (RS 55 W1 rb (some u)) := ⟨u,by rw [← HU.out];exact HR0.out,by omega,fun l' e => by injection e⟩
  have HCB := HC0
  clear HC0 HR0 hrb
  have HSZ : Hid (cb + 1 ≤ W1.heap.size) := lies_lt HCB.out
  obtain ⟨c0,c1,c2,c3,c4,c5⟩ := cells_6 HCB.out
  obtain ⟨σ0,hσ0⟩ : ∃ σ : St,some u = σ := ⟨_,rfl⟩
  rw [hσ0] at HRS
  obtain ⟨hosts,σ1,HEa⟩ := rd_of 2 σ0
  have HNa : Hid (∀ w,RS 55 w rb σ0 → Calls Tryz.prog 20 #[.pointer (some ⟨rb,0,none⟩),.int .i64 2] w fun e w' => e = .returned (.int .i64 hosts) ∧ RS 55 w' rb σ1 ∧ w.grownBy w' (some rb)) := qnum_of (k := 2) HEa.out (by omega)
  go_upto_region 11 with (first
    | (go_at_call 20;(with_reducible refine (HNa.out _ HRS.out).mono ?_);rintro e w2 ⟨rfl,hw2,hg2⟩
       (have HC2 := Lib.hid (lies_grown HCB.out hg2 (by omega)))
       (have hc2 := lies_cell HC2.out 0)
       (have hf2 := lies_frozen HC2.out 0)))
  clear hc2 hf2
  have HFX := Lib.hid (fun base => (Fr.set (i := 0) (u := .int .i64 hosts) (Fr.grown (base := base) (b := cb) hg2)))
  have HRX := Lib.hid (RS.keep hw2 (heap_set_ne (k := cb) (i := 0) (u := .int .i64 hosts) (by omega)))
  have HCX : Hid ((w2.setCell ⟨cb,0,none⟩ (.int .i64 hosts)).heap[cb]? = some (.cells #[.int .i64 hosts,.slice none 0 0,.int .i64 0,.slice none 0 0,.slice none 0 0,.slice none 0 0] 28)) := lies_set HC2.out 0 _
  have HZX := Lib.hid (((HFX.out (resb + 1)).block resb (by omega) (by omega) (by omega) (lies_lt HZ.out)).trans HZ.out)
  have HBX := Lib.hid (HBW.out.trans (Below.of_fr (B := w.heap.size) (HFX.out w.heap.size) (Nat.le_refl _) HBW.out.size (by omega) (by omega)))
  have HSZX := Lib.hid (Nat.le_trans HSZ.out (HFX.out 0).size)
  clear hw2 hg2 HC2
  clear HFX HRS HCB HZ HBW HSZ c0 c1 c2 c3 c4 c5
  have HRS := HRX
  have HCB := HCX
  have HZ := HZX
  have HBW := HBX
  have HSZ := HSZX
  clear HRX HCX HZX HBX HSZX
  generalize w2.setCell ⟨cb,0,none⟩ (.int .i64 hosts) = W2 at HRS HCB HZ HBW HSZ ⊢
  obtain ⟨c0,c1,c2,c3,c4,c5⟩ := cells_6 HCB.out
  obtain ⟨np,σ2,HEb⟩ := rd_of 2 σ1
  have HNb : Hid (∀ w,RS 55 w rb σ1 → Calls Tryz.prog 20 #[.pointer (some ⟨rb,0,none⟩),.int .i64 2] w fun e w' => e = .returned (.int .i64 np) ∧ RS 55 w' rb σ2 ∧ w.grownBy w' (some rb)) := qnum_of (k := 2) HEb.out (by omega)
  go_upto_region 13 with (go_at_call 20;(with_reducible refine (HNb.out _ HRS.out).mono ?_);rintro e W3 ⟨rfl,hw2,hg2⟩)
  have HFX := Lib.hid (fun base => (Fr.grown (base := base) (b := cb) hg2))
  have HRX := Lib.hid (hw2)
  have HCX : Hid ((W3).heap[cb]? = some (.cells #[.int .i64 hosts,.slice none 0 0,.int .i64 0,.slice none 0 0,.slice none 0 0,.slice none 0 0] 28)) := lies_grown HCB.out hg2 (by omega)
  have HZX := Lib.hid (((HFX.out (resb + 1)).block resb (by omega) (by omega) (by omega) (lies_lt HZ.out)).trans HZ.out)
  have HBX := Lib.hid (HBW.out.trans (Below.of_fr (B := w.heap.size) (HFX.out w.heap.size) (Nat.le_refl _) HBW.out.size (by omega) (by omega)))
  have HSZX := Lib.hid (Nat.le_trans HSZ.out (HFX.out 0).size)
  clear hw2 hg2
  clear HFX HRS HCB HZ HBW HSZ c0 c1 c2 c3 c4 c5
  have HRS := HRX
  have HCB := HCX
  have HZ := HZX
  have HBW := HBX
  have HSZ := HSZX
  clear HRX HCX HZX HBX HSZX
  obtain ⟨c0,c1,c2,c3,c4,c5⟩ := cells_6 HCB.out
  have hbb := rd_ge HEb.out
  obtain ⟨nb,hnb⟩ : ∃ n : Nat,np = (n : Int) := ⟨np.toNat,by omega⟩
  have hNb : nb < 65536 := by have : np < 65536 := hbb.2;omega
  rw [hnb] at HEb ⊢
  obtain ⟨parts,σ3,HE3⟩ : ∃ l σ',Hid (PitotImg.manyS (rd 2) nb σ2 = (l,σ')) := ⟨_,_,Lib.hid rfl⟩
  have hsz3 : cb + 1 ≤ W3.heap.size := lies_lt HCB.out
  have HOW : Hid (W3.ownsRow (cb + 1) 3 1 (.slice none 0 0) 0 (enI [])) := World.ownsRow_nil _ _ _ _
  go_loopw [9] (fun v9 wr => ∃ (i : Nat) (σ : St) (acc : List Int) (rv : Value),i ≤ nb ∧ v9 = .int .i64 i ∧ acc.length = i ∧ Hid (acc ++ (PitotImg.manyS (rd 2) (nb - i) σ).1 = parts) ∧ Hid ((PitotImg.manyS (rd 2) (nb - i) σ).2 = σ3) ∧ Hid (RS 55 wr rb σ) ∧ Hid (wr.heap[cb]? = some (.cells #[.int .i64 hosts,rv,.int .i64 0,.slice none 0 0,.slice none 0 0,.slice none 0 0] 28)) ∧ Hid (wr.heap[resb]? = some (.cells #[.int .i64 0,.slice none 0 0,.int .i64 0,.slice none 0 0,.slice none 0 0,.slice none 0 0] 28)) ∧ Hid (Below w.heap.size w wr) ∧ Hid (cb + 1 ≤ wr.heap.size) ∧ Hid (wr.ownsRow (cb + 1) 3 1 rv i (enI acc))) (fun v9 _ => nb - (intOf v9).toNat)
  case atStart => exact ⟨0,σ2,[],_,Nat.zero_le _,rfl,rfl,by show _ = _;rw [Nat.sub_zero,HE3.out];rfl,by show _ = _;rw [Nat.sub_zero,HE3.out],HRS,HCB,HZ,HBW,HSZ,HOW⟩
  case round =>
    obtain ⟨i,σ,acc,rv,hi,rfl,hal,ha1,ha2,HR1,HC1,HZ1,HB1,HS1,HO1⟩ := hrel
    clear HRS HCB HZ HBW HSZ c0 c1 c2 c3 c4 c5 HOW hsz3
    have HRS := HR1
    have HCB := HC1
    have HZ := HZ1
    have HBW := HB1
    have HSZ := HS1
    clear HR1 HC1 HZ1 HB1 HS1
    obtain ⟨c0,c1,c2,c3,c4,c5⟩ := cells_6 HCB.out
    obtain ⟨Rg,hRg⟩ : ∃ R,(decide (i < nb) && σ.isSome) = R := ⟨_,rfl⟩
    go_upto_region 13 with (fail)
    refine g13 HRS.out hRg (fun _ _ _ _ _ h => h) ?_
    intro wc hwc z0 z1 z2 z3 z4 z5 z6 z7 z8
    subst hwc
    cases Rg
    case true =>
      obtain ⟨v,σ4,HEp⟩ := rd_of 2 σ
      have HNp : Hid (∀ w,RS 55 w rb σ → Calls Tryz.prog 20 #[.pointer (some ⟨rb,0,none⟩),.int .i64 2] w fun e w' => e = .returned (.int .i64 v) ∧ RS 55 w' rb σ4 ∧ w.grownBy w' (some rb)) := qnum_of (k := 2) HEp.out (by omega)
      obtain ⟨hlt,hgo⟩ := many_go (p := rd 2) hRg HEp.out
      rw [hgo] at ha1 ha2
      clear hgo hRg
      have hbb : Hid (cb + 1 ≤ wc.heap.size) := lies_lt HCB.out
      go_upto_region 15 with (fail)
      refine app15 HRS HNp HCB HO1 (by omega) hbb (Lib.hid (by omega)) (Lib.hid (by omega)) (Lib.hid (by omega)) (fun _ _ _ _ _ h => h) ?_
      intro W5 gq cp hcw hrw how hfr z0 z1 z2 z3 z4 z5 z6
      have HZX := Lib.hid ((hfr.block resb (by omega) (by omega) (by omega) (lies_lt HZ.out)).trans HZ.out)
      have HBX := Lib.hid (HBW.out.trans (Below.of_fr (B := w.heap.size) hfr (by omega) HBW.out.size (by omega) (by omega)))
      have HRX := Lib.hid hrw
      have HCX := Lib.hid hcw
      have HOX : Hid (W5.ownsRow (cb + 1) 3 1 (.slice (some ⟨gq,0,none⟩) (i + 1) cp) (i + 1) (enI (acc ++ [v]))) := by show World.ownsRow _ _ _ _ _ _ _;rw [show enI (acc ++ [v]) = enI acc ++ [.int .i64 v] by simp [enI]];exact how
      have HSX : Hid (cb + 1 ≤ W5.heap.size) := Nat.le_trans HSZ.out hfr.size
      clear hcw hrw how hfr HZ HBW HRS HCB HSZ c0 c1 c2 c3 c4 c5
      go_wp2
      go_roundw
      case rel => exact ⟨i + 1,σ4,acc ++ [v],_,by omega,by go_num,by simp [hal],by show _ = _;rw [← ha1.out,List.append_assoc];rfl,ha2,HRX,HCX,HZX,HBX,HSX,HOX⟩
      case measure => simp [intOf];omega
    rw [many_end hRg hi] at ha1 ha2
    have ha1 : acc = parts := by have := ha1.out;simpa using this
    have ha2 : σ = σ3 := ha2.out
    rw [ha2] at HRS
    rw [ha1] at HO1 hal
    obtain ⟨PA,pcap,hrv,HIP0⟩ := ints_row HO1.out hal.symm
    subst hrv
    obtain ⟨B3,hB3⟩ : ∃ B,wc.heap.size = B := ⟨_,rfl⟩
    rw [hB3] at HIP0
    have HIP := Lib.hid HIP0
    have hb3 : cb + 1 ≤ B3 := by have := lies_lt HCB.out;omega
    clear HSZ
    have HSZ : Hid (B3 ≤ wc.heap.size) := by show _ ≤ _;omega
    clear hB3
    obtain ⟨pl,hpl⟩ : ∃ n,parts.length = n := ⟨_,rfl⟩
    rw [hpl] at HCB
    clear HIP0 HO1 hRg c0 c1 c2 c3 c4 c5
    obtain ⟨c0,c1,c2,c3,c4,c5⟩ := cells_6 HCB.out
    obtain ⟨major,σ4,HEc⟩ := rd_of 4 σ3
    have HNc : Hid (∀ w,RS 55 w rb σ3 → Calls Tryz.prog 20 #[.pointer (some ⟨rb,0,none⟩),.int .i64 4] w fun e w' => e = .returned (.int .i64 major) ∧ RS 55 w' rb σ4 ∧ w.grownBy w' (some rb)) := qnum_of (k := 4) HEc.out (by omega)
    go_upto_region 17 with (first
      | (go_at_call 20;(with_reducible refine (HNc.out _ HRS.out).mono ?_);rintro e w2 ⟨rfl,hw2,hg2⟩
         (have HC2 := Lib.hid (lies_grown HCB.out hg2 (by omega)))
         (have hc2 := lies_cell HC2.out 2)
         (have hf2 := lies_frozen HC2.out 2)))
    clear hc2 hf2
    have HFX := Lib.hid (fun base => (Fr.set (i := 2) (u := .int .i64 major) (Fr.grown (base := base) (b := cb) hg2)))
    have HRX := Lib.hid (RS.keep hw2 (heap_set_ne (k := cb) (i := 2) (u := .int .i64 major) (by omega)))
    have HCX : Hid ((w2.setCell ⟨cb,2,none⟩ (.int .i64 major)).heap[cb]? = some (.cells #[.int .i64 hosts,.slice PA pl pcap,.int .i64 major,.slice none 0 0,.slice none 0 0,.slice none 0 0] 28)) := lies_set HC2.out 2 _
    have HZX := Lib.hid (((HFX.out (resb + 1)).block resb (by omega) (by omega) (by omega) (lies_lt HZ.out)).trans HZ.out)
    have HBX := Lib.hid (HBW.out.trans (Below.of_fr (B := w.heap.size) (HFX.out w.heap.size) (Nat.le_refl _) HBW.out.size (by omega) (by omega)))
    have HIPX := Lib.hid (HIP.out.fr (HFX.out B3) (Nat.le_refl _) (by omega) (by omega))
    have HSZX := Lib.hid (Nat.le_trans HSZ.out (HFX.out 0).size)
    clear hw2 hg2 HC2
    clear HFX HRS HCB HZ HBW HSZ HIP c0 c1 c2 c3 c4 c5
    have HRS := HRX
    have HCB := HCX
    have HZ := HZX
    have HBW := HBX
    have HSZ := HSZX
    have HIP := HIPX
    clear HRX HCX HZX HBX HSZX HIPX
    generalize w2.setCell ⟨cb,2,none⟩ (.int .i64 major) = W4 at HRS HCB HZ HBW HSZ HIP ⊢
    obtain ⟨c0,c1,c2,c3,c4,c5⟩ := cells_6 HCB.out
    obtain ⟨nw,σ5,HEd⟩ := rd_of 2 σ4
    have HNd : Hid (∀ w,RS 55 w rb σ4 → Calls Tryz.prog 20 #[.pointer (some ⟨rb,0,none⟩),.int .i64 2] w fun e w' => e = .returned (.int .i64 nw) ∧ RS 55 w' rb σ5 ∧ w.grownBy w' (some rb)) := qnum_of (k := 2) HEd.out (by omega)
    go_upto_region 19 with (go_at_call 20;(with_reducible refine (HNd.out _ HRS.out).mono ?_);rintro e W5 ⟨rfl,hw2,hg2⟩)
    have HFX := Lib.hid (fun base => (Fr.grown (base := base) (b := cb) hg2))
    have HRX := Lib.hid (hw2)
    have HCX : Hid ((W5).heap[cb]? = some (.cells #[.int .i64 hosts,.slice PA pl pcap,.int .i64 major,.slice none 0 0,.slice none 0 0,.slice none 0 0] 28)) := lies_grown HCB.out hg2 (by omega)
    have HZX := Lib.hid (((HFX.out (resb + 1)).block resb (by omega) (by omega) (by omega) (lies_lt HZ.out)).trans HZ.out)
    have HBX := Lib.hid (HBW.out.trans (Below.of_fr (B := w.heap.size) (HFX.out w.heap.size) (Nat.le_refl _) HBW.out.size (by omega) (by omega)))
    have HIPX := Lib.hid (HIP.out.fr (HFX.out B3) (Nat.le_refl _) (by omega) (by omega))
    have HSZX := Lib.hid (Nat.le_trans HSZ.out (HFX.out 0).size)
    clear hw2 hg2
    clear HFX HRS HCB HZ HBW HSZ HIP c0 c1 c2 c3 c4 c5
    have HRS := HRX
    have HCB := HCX
    have HZ := HZX
    have HBW := HBX
    have HSZ := HSZX
    have HIP := HIPX
    clear HRX HCX HZX HBX HSZX HIPX
    obtain ⟨c0,c1,c2,c3,c4,c5⟩ := cells_6 HCB.out
    have hbd := rd_ge HEd.out
    obtain ⟨nd,hnd⟩ : ∃ n : Nat,nw = (n : Int) := ⟨nw.toNat,by omega⟩
    have hNd : nd < 65536 := by have : nw < 65536 := hbd.2;omega
    rw [hnd] at HEd ⊢
    obtain ⟨winsP,σ6,HEσ6⟩ : ∃ l σ',Hid (PitotImg.manyS PitotImg.winS nd σ5 = (l,σ')) := ⟨_,_,Lib.hid rfl⟩
    obtain ⟨B5,hB5⟩ : ∃ B,W5.heap.size = B := ⟨_,rfl⟩
    have hlB5 : cb + 1 ≤ B5 := by have := lies_lt HCB.out;omega
    have HOW : Hid (W5.ownsRow B5 58 3 (.slice none 0 0) 0 []) := World.ownsRow_nil _ _ _ _
    have hleB5 : B3 ≤ B5 := by have := HSZ.out;omega
    clear HSZ
    have HSZ : Hid (B5 ≤ W5.heap.size) := by show _ ≤ _;omega
    clear hB5
    go_loopw [10] (fun vc wr => ∃ (i : Nat) (σ : St) (acc : List Wn) (rv : Value),i ≤ nd ∧ vc = .int .i64 i ∧ acc.length = i ∧ Hid (acc.map Wn.pl ++ (PitotImg.manyS PitotImg.winS (nd - i) σ).1 = winsP) ∧ Hid ((PitotImg.manyS PitotImg.winS (nd - i) σ).2 = σ6) ∧ Hid (RS 55 wr rb σ) ∧ Hid (wr.heap[cb]? = some (.cells #[.int .i64 hosts,.slice PA pl pcap,.int .i64 major,rv,.slice none 0 0,.slice none 0 0] 28)) ∧ Hid (wr.heap[resb]? = some (.cells #[.int .i64 0,.slice none 0 0,.int .i64 0,.slice none 0 0,.slice none 0 0,.slice none 0 0] 28)) ∧ Hid (Below w.heap.size w wr) ∧ Hid (B5 ≤ wr.heap.size) ∧ Hid (wr.ownsRow B5 58 3 rv i (acc.flatMap Wn.enc)) ∧ Hid (IntsIn (cb + 1) B3 wr PA parts)) (fun vc _ => nd - (intOf vc).toNat)
    case atStart => exact ⟨0,σ5,[],_,Nat.zero_le _,rfl,rfl,by show _ = _;rw [Nat.sub_zero,HEσ6.out];rfl,by show _ = _;rw [Nat.sub_zero,HEσ6.out],HRS,HCB,HZ,HBW,HSZ,HOW,HIP⟩
    case round =>
      obtain ⟨i,σ,acc,rv,hi,rfl,hal,ha1,ha2,HR1,HC1,HZ1,HB1,HS1,HO1,HIP1⟩ := hrel
      clear HRS HCB HZ HBW HSZ c0 c1 c2 c3 c4 c5 HOW HIP
      have HRS := HR1
      have HCB := HC1
      have HZ := HZ1
      have HBW := HB1
      have HSZ := HS1
      clear HR1 HC1 HZ1 HB1 HS1
      have HIP := HIP1
      clear HIP1
      obtain ⟨c0,c1,c2,c3,c4,c5⟩ := cells_6 HCB.out
      obtain ⟨Rg,hRg⟩ : ∃ R,(decide (i < nd) && σ.isSome) = R := ⟨_,rfl⟩
      go_upto_region 19 with (fail)
      refine g19 HRS.out hRg (fun _ _ _ _ _ h => h) ?_
      intro wc hwc z0 z1 z2 z3 z4 z5 z6 z7 z8
      subst hwc
      cases Rg
      case true =>
        have VB0 : Hid ((wc.alloc (.cells #[.int .i64 0,.int .i64 0,.int .i64 0] 58)).heap[wc.heap.size]? = some (.cells #[.int .i64 0,.int .i64 0,.int .i64 0] 58)) := heap_alloc_new wc _
        have HRX := Lib.hid (RS.al HRS.out (.cells #[.int .i64 0,.int .i64 0,.int .i64 0] 58))
        have HG0 : Hid (wc.grownBy (wc.alloc (.cells #[.int .i64 0,.int .i64 0,.int .i64 0] 58)) (some rb)) := Bi.grown_alloc _
        go_upto_region 22 with (fail)
        clear c0 c1 c2 c3 c4 c5
        generalize wc.alloc (.cells #[.int .i64 0,.int .i64 0,.int .i64 0] 58) = V0 at VB0 HRX HG0 ⊢
        obtain ⟨vb,hvb⟩ : ∃ b,wc.heap.size = b := ⟨_,rfl⟩
        rw [hvb] at VB0 ⊢
        have hcv : cb < vb := by have := lies_lt HCB.out;omega
        have VB := VB0
        have HG := HG0
        have HRV := HRX
        clear VB0 HG0 HRX
        obtain ⟨y1,τ1,HEp⟩ := rd_of 2 σ
        have HNp : Hid (∀ w,RS 55 w rb σ → Calls Tryz.prog 20 #[.pointer (some ⟨rb,0,none⟩),.int .i64 2] w fun e w' => e = .returned (.int .i64 y1) ∧ RS 55 w' rb τ1 ∧ w.grownBy w' (some rb)) := qnum_of (k := 2) HEp.out (by omega)
        go_upto_region 23 with (first
          | (go_at_call 20;(with_reducible refine (HNp.out _ HRV.out).mono ?_);rintro e w2 ⟨rfl,hw2,hg2⟩
             (have VX := Lib.hid (lies_grown VB.out hg2 (by omega)))
             (have hc2 := lies_cell VX.out 0)
             (have hf2 := lies_frozen VX.out 0)))
        clear hc2 hf2
        have VY : Hid ((w2.setCell ⟨vb,0,none⟩ (.int .i64 y1)).heap[vb]? = some (.cells #[.int .i64 y1,.int .i64 0,.int .i64 0] 58)) := lies_set VX.out 0 _
        have HRX : Hid (RS 55 (w2.setCell ⟨vb,0,none⟩ (.int .i64 y1)) rb τ1) := RS.keep hw2 (heap_set_ne (by omega))
        have HGX : Hid (wc.grownBy (w2.setCell ⟨vb,0,none⟩ (.int .i64 y1)) (some rb)) := grown_setN (Bi.grown_trans HG.out hg2) (by omega)
        clear VX VB HRV HG hw2 hg2
        have VB := VY
        have HRV := HRX
        have HG := HGX
        clear VY HRX HGX
        generalize w2.setCell ⟨vb,0,none⟩ (.int .i64 y1) = V1 at VB HRV HG ⊢
        obtain ⟨y2,τ2,HEq⟩ := rd_of 4 τ1
        have HNq : Hid (∀ w,RS 55 w rb τ1 → Calls Tryz.prog 20 #[.pointer (some ⟨rb,0,none⟩),.int .i64 4] w fun e w' => e = .returned (.int .i64 y2) ∧ RS 55 w' rb τ2 ∧ w.grownBy w' (some rb)) := qnum_of (k := 4) HEq.out (by omega)
        go_upto_region 24 with (first
          | (go_at_call 20;(with_reducible refine (HNq.out _ HRV.out).mono ?_);rintro e w2 ⟨rfl,hw2,hg2⟩
             (have VX := Lib.hid (lies_grown VB.out hg2 (by omega)))
             (have hc2 := lies_cell VX.out 1)
             (have hf2 := lies_frozen VX.out 1)))
        clear hc2 hf2
        have VY : Hid ((w2.setCell ⟨vb,1,none⟩ (.int .i64 y2)).heap[vb]? = some (.cells #[.int .i64 y1,.int .i64 y2,.int .i64 0] 58)) := lies_set VX.out 1 _
        have HRX : Hid (RS 55 (w2.setCell ⟨vb,1,none⟩ (.int .i64 y2)) rb τ2) := RS.keep hw2 (heap_set_ne (by omega))
        have HGX : Hid (wc.grownBy (w2.setCell ⟨vb,1,none⟩ (.int .i64 y2)) (some rb)) := grown_setN (Bi.grown_trans HG.out hg2) (by omega)
        clear VX VB HRV HG hw2 hg2
        have VB := VY
        have HRV := HRX
        have HG := HGX
        clear VY HRX HGX
        generalize w2.setCell ⟨vb,1,none⟩ (.int .i64 y2) = V2 at VB HRV HG ⊢
        obtain ⟨y3,τ3,HEr⟩ := rd_of 4 τ2
        have HNr : Hid (∀ w,RS 55 w rb τ2 → Calls Tryz.prog 20 #[.pointer (some ⟨rb,0,none⟩),.int .i64 4] w fun e w' => e = .returned (.int .i64 y3) ∧ RS 55 w' rb τ3 ∧ w.grownBy w' (some rb)) := qnum_of (k := 4) HEr.out (by omega)
        go_upto_region 25 with (first
          | (go_at_call 20;(with_reducible refine (HNr.out _ HRV.out).mono ?_);rintro e w2 ⟨rfl,hw2,hg2⟩
             (have VX := Lib.hid (lies_grown VB.out hg2 (by omega)))
             (have hc2 := lies_cell VX.out 2)
             (have hf2 := lies_frozen VX.out 2)))
        clear hc2 hf2
        have VY : Hid ((w2.setCell ⟨vb,2,none⟩ (.int .i64 y3)).heap[vb]? = some (.cells #[.int .i64 y1,.int .i64 y2,.int .i64 y3] 58)) := lies_set VX.out 2 _
        have HRX : Hid (RS 55 (w2.setCell ⟨vb,2,none⟩ (.int .i64 y3)) rb τ3) := RS.keep hw2 (heap_set_ne (by omega))
        have HGX : Hid (wc.grownBy (w2.setCell ⟨vb,2,none⟩ (.int .i64 y3)) (some rb)) := grown_setN (Bi.grown_trans HG.out hg2) (by omega)
        clear VX VB HRV HG hw2 hg2
        have VB := VY
        have HRV := HRX
        have HG := HGX
        clear VY HRX HGX
        generalize w2.setCell ⟨vb,2,none⟩ (.int .i64 y3) = V3 at VB HRV HG ⊢
        have HX : PitotImg.winS σ = (⟨y1,y2,y3⟩,τ3) := by unfold PitotImg.winS;rw [HEp.out,HEq.out,HEr.out]
        obtain ⟨hlt,hgo⟩ := many_go hRg HX
        rw [hgo] at ha1 ha2
        clear hgo hRg HX
        obtain ⟨ii,hii,hzz,hs3,hb3'⟩ := info_parts infoW
        have HC5 := Lib.hid (lies_alloc (o := .cells #[.int .i64 y1,.int .i64 y2,.int .i64 y3] 58) (lies_grown HCB.out HG.out (by omega)))
        have VB5 := Lib.hid (lies_alloc (o := .cells #[.int .i64 y1,.int .i64 y2,.int .i64 y3] 58) VB.out)
        have HOA := Lib.hid ((own_grown HO1.out HG.out (by omega)).alloc (.cells #[.int .i64 y1,.int .i64 y2,.int .i64 y3] 58))
        have HRA := Lib.hid (RS.al HRV.out (.cells #[.int .i64 y1,.int .i64 y2,.int .i64 y3] 58))
        have HFA : Hid (Fr B5 rb cb wc (V3.alloc (.cells #[.int .i64 y1,.int .i64 y2,.int .i64 y3] 58))) := Fr.al (Fr.grown HG.out) _
        have HNW : Hid (∀ j u,(Wn.enc (⟨y1,y2,y3⟩ : Wn))[j]? = some u → (V3.alloc (.cells #[.int .i64 y1,.int .i64 y2,.int .i64 y3] 58)).cell? ((⟨V3.heap.size,0,none⟩ : Addr).add j) = some u) := World.news_of_block (heap_alloc_new V3 _)
        have HONE := Lib.hid (Wn.enc_one (⟨y1,y2,y3⟩ : Wn))
        have hbs : Hid (B5 ≤ (V3.alloc (.cells #[.int .i64 y1,.int .i64 y2,.int .i64 y3] 58)).heap.size) := Nat.le_trans HSZ.out HFA.out.size
        have c3x := lies_cell (lies_grown HCB.out HG.out (by omega)) 3
        obtain ⟨v0,v1,v2⟩ := cells_3 VB.out
        go_wp2_with (first
          | (at_builtin;refine wpList_append_lies _ rfl _ _ 24 (by rfl) B5 58 ii _ 3 24 Tryz.underlying24 hii hzz hs3 hb3' rfl (by omega) rv i _ (by rfl) HOA.out ⟨V3.heap.size,0,none⟩ 1 1 (Wn.enc (⟨y1,y2,y3⟩ : Wn)) (by rfl) (by rfl) HNW.out HONE.out (by omega) (by unfold maxLen;omega) (by omega) hbs.out _ rfl ?_;intro gq cp w5 hrow5 hg5 hgb5 hgl5
             (have HC6 := Lib.hid ((hg5.block cb (lies_lt HC5.out) (own_neg HOA.out (by omega))).trans HC5.out))
             (have hc6 := lies_cell HC6.out 3)
             (have hf6 := lies_frozen HC6.out 3)))
        have HFX : Hid (Fr B5 rb cb wc (w5.setCell ⟨cb,3,none⟩ (.slice (some ⟨gq,0,none⟩) (i + 1) cp))) := Fr.set (Fr.app HFA.out HOA.out hg5)
        have HRX : Hid (RS 55 (w5.setCell ⟨cb,3,none⟩ (.slice (some ⟨gq,0,none⟩) (i + 1) cp)) rb τ3) := RS.keep (RS.keep HRA.out (hg5.block rb HRA.out.lt (own_neg HOA.out (by omega)))) (heap_set_ne (by omega))
        have HCX : Hid ((w5.setCell ⟨cb,3,none⟩ (.slice (some ⟨gq,0,none⟩) (i + 1) cp)).heap[cb]? = some (.cells #[.int .i64 hosts,.slice PA pl pcap,.int .i64 major,.slice (some ⟨gq,0,none⟩) (i + 1) cp,.slice none 0 0,.slice none 0 0] 28)) := lies_set HC6.out 3 _
        have HZX := Lib.hid ((HFX.out.block resb (by omega) (by omega) (by omega) (lies_lt HZ.out)).trans HZ.out)
        have HBX := Lib.hid (HBW.out.trans (Below.of_fr (B := w.heap.size) HFX.out (by omega) HBW.out.size (by omega) (by omega)))
        have HOX : Hid ((w5.setCell ⟨cb,3,none⟩ (.slice (some ⟨gq,0,none⟩) (i + 1) cp)).ownsRow B5 58 3 (.slice (some ⟨gq,0,none⟩) (i + 1) cp) (i + 1) ((acc ++ [(⟨y1,y2,y3⟩ : Wn)]).flatMap Wn.enc)) := by
          show World.ownsRow _ _ _ _ _ _ _
          rw [List.flatMap_append,List.flatMap_singleton]
          exact own_set hrow5 (by omega)
        have HIPX := Lib.hid (HIP.out.fr HFX.out (by omega) (by omega) (by omega))
        have HSX := Lib.hid (Nat.le_trans HSZ.out HFX.out.size)
        clear HRS HCB HZ HBW HSZ HRV HG VB HC5 VB5 HOA HRA HFA HNW HONE hbs c3x HFX HO1 hrow5 hg5 hgb5 hgl5 HC6 hc6 hf6 hii hzz hs3 hb3' ii v0 v1 v2 HIP
        generalize w5.setCell ⟨cb,3,none⟩ (.slice (some ⟨gq,0,none⟩) (i + 1) cp) = Wz at HRX HCX HZX HBX HOX HSX HIPX ⊢
        go_roundw
        case rel => exact ⟨i + 1,τ3,acc ++ [(⟨y1,y2,y3⟩ : Wn)],_,by omega,by go_num,by simp [hal],by show _ = _;rw [← ha1.out,List.map_append,List.append_assoc];rfl,ha2,HRX,HCX,HZX,HBX,HSX,HOX,HIPX⟩
        case measure => simp [intOf];omega
      rw [many_end hRg hi] at ha1 ha2
      have ha1 : acc.map Wn.pl = winsP := by have := ha1.out;simpa using this
      have ha2 : σ = σ6 := ha2.out
      rw [ha2] at HRS
      obtain ⟨WA,wcap,hrv,HIW0⟩ := Wns_row HO1.out hal.symm
      subst hrv
      obtain ⟨wins,hwins⟩ : ∃ l,acc = l := ⟨_,rfl⟩
      rw [hwins] at HIW0 HCB ha1
      have HWP : Hid (wins.map Wn.pl = winsP) := ha1
      clear ha1
      obtain ⟨B6,hB6⟩ : ∃ B,wc.heap.size = B := ⟨_,rfl⟩
      rw [hB6] at HIW0
      have hle6 : B5 ≤ B6 := by have := HSZ.out;omega
      have HIW : Hid (WnsIn (cb + 1) B6 wc WA wins) := HIW0.mono (by omega) (Nat.le_refl _)
      clear HSZ
      have HSZ : Hid (B6 ≤ wc.heap.size) := by show _ ≤ _;omega
      clear hB6
      obtain ⟨wl,hwl⟩ : ∃ n,wins.length = n := ⟨_,rfl⟩
      rw [hwl] at HCB
      clear HIW0 HO1 hRg hwins c0 c1 c2 c3 c4 c5
      obtain ⟨c0,c1,c2,c3,c4,c5⟩ := cells_6 HCB.out
      obtain ⟨nv,σ7,HEe⟩ := rd_of 2 σ6
      have HNe : Hid (∀ w,RS 55 w rb σ6 → Calls Tryz.prog 20 #[.pointer (some ⟨rb,0,none⟩),.int .i64 2] w fun e w' => e = .returned (.int .i64 nv) ∧ RS 55 w' rb σ7 ∧ w.grownBy w' (some rb)) := qnum_of (k := 2) HEe.out (by omega)
      go_upto_region 28 with (go_at_call 20;(with_reducible refine (HNe.out _ HRS.out).mono ?_);rintro e W6 ⟨rfl,hw2,hg2⟩)
      have HFX := Lib.hid (fun base => (Fr.grown (base := base) (b := cb) hg2))
      have HRX := Lib.hid (hw2)
      have HCX : Hid ((W6).heap[cb]? = some (.cells #[.int .i64 hosts,.slice PA pl pcap,.int .i64 major,.slice WA wl wcap,.slice none 0 0,.slice none 0 0] 28)) := lies_grown HCB.out hg2 (by omega)
      have HZX := Lib.hid (((HFX.out (resb + 1)).block resb (by omega) (by omega) (by omega) (lies_lt HZ.out)).trans HZ.out)
      have HBX := Lib.hid (HBW.out.trans (Below.of_fr (B := w.heap.size) (HFX.out w.heap.size) (Nat.le_refl _) HBW.out.size (by omega) (by omega)))
      have HIPX := Lib.hid (HIP.out.fr (HFX.out B3) (Nat.le_refl _) (by omega) (by omega))
      have HIWX := Lib.hid (HIW.out.fr (HFX.out B6) (Nat.le_refl _) (by omega) (by omega))
      have HSZX := Lib.hid (Nat.le_trans HSZ.out (HFX.out 0).size)
      clear hw2 hg2
      clear HFX HRS HCB HZ HBW HSZ HIP HIW c0 c1 c2 c3 c4 c5
      have HRS := HRX
      have HCB := HCX
      have HZ := HZX
      have HBW := HBX
      have HSZ := HSZX
      have HIP := HIPX
      have HIW := HIWX
      clear HRX HCX HZX HBX HSZX HIPX HIWX
      obtain ⟨c0,c1,c2,c3,c4,c5⟩ := cells_6 HCB.out
      have hbe := rd_ge HEe.out
      obtain ⟨ne,hne⟩ : ∃ n : Nat,nv = (n : Int) := ⟨nv.toNat,by omega⟩
      have hNe : ne < 65536 := by have : nv < 65536 := hbe.2;omega
      rw [hne] at HEe ⊢
      have tos0 : Hid (TosIn (W6.heap.size) W6 (.slice none 0 0) []) := fun x hx => by cases hx
      obtain ⟨vlsP,σ8,HEσ8⟩ : ∃ l σ',Hid (PitotImg.manyS PitotImg.vlS ne σ7 = (l,σ')) := ⟨_,_,Lib.hid rfl⟩
      obtain ⟨B7,hB7⟩ : ∃ B,W6.heap.size = B := ⟨_,rfl⟩
      have hlB7 : cb + 1 ≤ B7 := by have := lies_lt HCB.out;omega
      have HOW : Hid (W6.ownsRow B7 60 8 (.slice none 0 0) 0 []) := World.ownsRow_nil _ _ _ _
      have hleB7 : B6 ≤ B7 := by have := HSZ.out;omega
      clear HSZ
      have HSZ : Hid (B7 ≤ W6.heap.size) := by show _ ≤ _;omega
      clear hB7
      go_loopw [12] (fun vc wr => ∃ (i : Nat) (σ : St) (acc : List Vx) (rv : Value),i ≤ ne ∧ vc = .int .i64 i ∧ acc.length = i ∧ Hid (acc.map Vx.pl ++ (PitotImg.manyS PitotImg.vlS (ne - i) σ).1 = vlsP) ∧ Hid ((PitotImg.manyS PitotImg.vlS (ne - i) σ).2 = σ8) ∧ Hid (RS 55 wr rb σ) ∧ Hid (wr.heap[cb]? = some (.cells #[.int .i64 hosts,.slice PA pl pcap,.int .i64 major,.slice WA wl wcap,rv,.slice none 0 0] 28)) ∧ Hid (wr.heap[resb]? = some (.cells #[.int .i64 0,.slice none 0 0,.int .i64 0,.slice none 0 0,.slice none 0 0,.slice none 0 0] 28)) ∧ Hid (Below w.heap.size w wr) ∧ Hid (B7 ≤ wr.heap.size) ∧ Hid (wr.ownsRow B7 60 8 rv i (acc.flatMap Vx.enc)) ∧ Hid (IntsIn (cb + 1) B3 wr PA parts) ∧ Hid (WnsIn (cb + 1) B6 wr WA wins) ∧ Hid (TosIn B7 wr rv acc)) (fun vc _ => ne - (intOf vc).toNat)
      case atStart => exact ⟨0,σ7,[],_,Nat.zero_le _,rfl,rfl,by show _ = _;rw [Nat.sub_zero,HEσ8.out];rfl,by show _ = _;rw [Nat.sub_zero,HEσ8.out],HRS,HCB,HZ,HBW,HSZ,HOW,HIP,HIW,fun x hx => (by cases hx)⟩
      case round =>
        obtain ⟨i,σ,acc,rv,hi,rfl,hal,ha1,ha2,HR1,HC1,HZ1,HB1,HS1,HO1,HIP1,HIW1,HT1⟩ := hrel
        clear tos0 HRS HCB HZ HBW HSZ c0 c1 c2 c3 c4 c5 HOW HIP HIW
        have HRS := HR1
        have HCB := HC1
        have HZ := HZ1
        have HBW := HB1
        have HSZ := HS1
        clear HR1 HC1 HZ1 HB1 HS1
        have HIP := HIP1
        clear HIP1
        have HIW := HIW1
        clear HIW1
        obtain ⟨c0,c1,c2,c3,c4,c5⟩ := cells_6 HCB.out
        obtain ⟨Rg,hRg⟩ : ∃ R,(decide (i < ne) && σ.isSome) = R := ⟨_,rfl⟩
        go_upto_region 28 with (fail)
        refine g28 HRS.out hRg (fun _ _ _ _ _ h => h) ?_
        intro wc hwc z0 z1 z2 z3 z4 z5 z6 z7 z8
        subst hwc
        cases Rg
        case true =>
          have VB0 : Hid ((wc.alloc (.cells #[.int .i64 0,.int .i64 0,.int .i64 0,.int .i64 0,.bool false,.int .i64 0,.int .i64 0,.slice none 0 0] 60)).heap[wc.heap.size]? = some (.cells #[.int .i64 0,.int .i64 0,.int .i64 0,.int .i64 0,.bool false,.int .i64 0,.int .i64 0,.slice none 0 0] 60)) := heap_alloc_new wc _
          have HRX := Lib.hid (RS.al HRS.out (.cells #[.int .i64 0,.int .i64 0,.int .i64 0,.int .i64 0,.bool false,.int .i64 0,.int .i64 0,.slice none 0 0] 60))
          have HG0 : Hid (wc.grownBy (wc.alloc (.cells #[.int .i64 0,.int .i64 0,.int .i64 0,.int .i64 0,.bool false,.int .i64 0,.int .i64 0,.slice none 0 0] 60)) (some rb)) := Bi.grown_alloc _
          go_upto_region 31 with (fail)
          clear c0 c1 c2 c3 c4 c5
          generalize wc.alloc (.cells #[.int .i64 0,.int .i64 0,.int .i64 0,.int .i64 0,.bool false,.int .i64 0,.int .i64 0,.slice none 0 0] 60) = V0 at VB0 HRX HG0 ⊢
          obtain ⟨vb,hvb⟩ : ∃ b,wc.heap.size = b := ⟨_,rfl⟩
          rw [hvb] at VB0 ⊢
          have hcv : cb < vb := by have := lies_lt HCB.out;omega
          have VB := VB0
          have HG := HG0
          have HRV := HRX
          clear VB0 HG0 HRX
          obtain ⟨y1,τ1,HEp⟩ := rd_of 2 σ
          have HNp : Hid (∀ w,RS 55 w rb σ → Calls Tryz.prog 20 #[.pointer (some ⟨rb,0,none⟩),.int .i64 2] w fun e w' => e = .returned (.int .i64 y1) ∧ RS 55 w' rb τ1 ∧ w.grownBy w' (some rb)) := qnum_of (k := 2) HEp.out (by omega)
          go_upto_region 32 with (first
            | (go_at_call 20;(with_reducible refine (HNp.out _ HRV.out).mono ?_);rintro e w2 ⟨rfl,hw2,hg2⟩
               (have VX := Lib.hid (lies_grown VB.out hg2 (by omega)))
               (have hc2 := lies_cell VX.out 0)
               (have hf2 := lies_frozen VX.out 0)))
          clear hc2 hf2
          have VY : Hid ((w2.setCell ⟨vb,0,none⟩ (.int .i64 y1)).heap[vb]? = some (.cells #[.int .i64 y1,.int .i64 0,.int .i64 0,.int .i64 0,.bool false,.int .i64 0,.int .i64 0,.slice none 0 0] 60)) := lies_set VX.out 0 _
          have HRX : Hid (RS 55 (w2.setCell ⟨vb,0,none⟩ (.int .i64 y1)) rb τ1) := RS.keep hw2 (heap_set_ne (by omega))
          have HGX : Hid (wc.grownBy (w2.setCell ⟨vb,0,none⟩ (.int .i64 y1)) (some rb)) := grown_setN (Bi.grown_trans HG.out hg2) (by omega)
          clear VX VB HRV HG hw2 hg2
          have VB := VY
          have HRV := HRX
          have HG := HGX
          clear VY HRX HGX
          generalize w2.setCell ⟨vb,0,none⟩ (.int .i64 y1) = V1 at VB HRV HG ⊢
          obtain ⟨y2,τ2,HEq⟩ := rd_of 2 τ1
          have HNq : Hid (∀ w,RS 55 w rb τ1 → Calls Tryz.prog 20 #[.pointer (some ⟨rb,0,none⟩),.int .i64 2] w fun e w' => e = .returned (.int .i64 y2) ∧ RS 55 w' rb τ2 ∧ w.grownBy w' (some rb)) := qnum_of (k := 2) HEq.out (by omega)
          go_upto_region 33 with (first
            | (go_at_call 20;(with_reducible refine (HNq.out _ HRV.out).mono ?_);rintro e w2 ⟨rfl,hw2,hg2⟩
               (have VX := Lib.hid (lies_grown VB.out hg2 (by omega)))
               (have hc2 := lies_cell VX.out 1)
               (have hf2 := lies_frozen VX.out 1)))
          clear hc2 hf2
          have VY : Hid ((w2.setCell ⟨vb,1,none⟩ (.int .i64 y2)).heap[vb]? = some (.cells #[.int .i64 y1,.int .i64 y2,.int .i64 0,.int .i64 0,.bool false,.int .i64 0,.int .i64 0,.slice none 0 0] 60)) := lies_set VX.out 1 _
          have HRX : Hid (RS 55 (w2.setCell ⟨vb,1,none⟩ (.int .i64 y2)) rb τ2) := RS.keep hw2 (heap_set_ne (by omega))
          have HGX : Hid (wc.grownBy (w2.setCell ⟨vb,1,none⟩ (.int .i64 y2)) (some rb)) := grown_setN (Bi.grown_trans HG.out hg2) (by omega)
          clear VX VB HRV HG hw2 hg2
          have VB := VY
          have HRV := HRX
          have HG := HGX
          clear VY HRX HGX
          generalize w2.setCell ⟨vb,1,none⟩ (.int .i64 y2) = V2 at VB HRV HG ⊢
          obtain ⟨yb,τ3,HEr⟩ := rd_of 1 τ2
          have HNr : Hid (∀ w,RS 55 w rb τ2 → Calls Tryz.prog 20 #[.pointer (some ⟨rb,0,none⟩),.int .i64 1] w fun e w' => e = .returned (.int .i64 yb) ∧ RS 55 w' rb τ3 ∧ w.grownBy w' (some rb)) := qnum_of (k := 1) HEr.out (by omega)
          go_upto_region 34 with (first
            | (go_at_call 20;(with_reducible refine (HNr.out _ HRV.out).mono ?_);rintro e V3 ⟨rfl,hw2,hg2⟩
               (have VX := Lib.hid (lies_grown VB.out hg2 (by omega)))))
          have HRX := Lib.hid hw2
          have HGX := Lib.hid (Bi.grown_trans HG.out hg2)
          clear VB HRV HG hw2 hg2
          have VB := VX
          have HRV := HRX
          have HG := HGX
          clear VX HRX HGX
          have hyb := rd_ge HEr.out
          have hyb0 := hyb.1
          have hyb1 : yb < 256 := hyb.2
          clear hyb
          have hc2 := lies_cell VB.out 2
          have hf2 := lies_frozen VB.out 2
          have hc4 := lies_cell VB.out 4
          have hf4 := lies_frozen VB.out 4
          have hc5 := lies_cell VB.out 5
          have hf5 := lies_frozen VB.out 5
          go_upto_region 37 with (fail)
          clear hc2 hf2 hc4 hf4 hc5 hf5
          have VY : Hid (((((V3).setCell ⟨vb,2,none⟩ (.int .i64 (yb / 16))).setCell ⟨vb,4,none⟩ (.bool (decide (yb / 8 % 2 = 1)))).setCell ⟨vb,5,none⟩ (.int .i64 (yb % 8))).heap[vb]? = some (.cells #[.int .i64 y1,.int .i64 y2,.int .i64 (yb / 16),.int .i64 0,.bool (decide (yb / 8 % 2 = 1)),.int .i64 (yb % 8),.int .i64 0,.slice none 0 0] 60)) := (lies_set (lies_set (lies_set VB.out 2 _) 4 _) 5 _)
          have HRX : Hid (RS 55 ((((V3).setCell ⟨vb,2,none⟩ (.int .i64 (yb / 16))).setCell ⟨vb,4,none⟩ (.bool (decide (yb / 8 % 2 = 1)))).setCell ⟨vb,5,none⟩ (.int .i64 (yb % 8))) rb τ3) := (RS.keep (RS.keep (RS.keep HRV.out (heap_set_ne (by omega))) (heap_set_ne (by omega))) (heap_set_ne (by omega)))
          have HGX : Hid (wc.grownBy ((((V3).setCell ⟨vb,2,none⟩ (.int .i64 (yb / 16))).setCell ⟨vb,4,none⟩ (.bool (decide (yb / 8 % 2 = 1)))).setCell ⟨vb,5,none⟩ (.int .i64 (yb % 8))) (some rb)) := (grown_setN (grown_setN (grown_setN HG.out (by omega)) (by omega)) (by omega))
          clear VB HRV HG
          have VB := VY
          have HRV := HRX
          have HG := HGX
          clear VY HRX HGX
          generalize (((V3).setCell ⟨vb,2,none⟩ (.int .i64 (yb / 16))).setCell ⟨vb,4,none⟩ (.bool (decide (yb / 8 % 2 = 1)))).setCell ⟨vb,5,none⟩ (.int .i64 (yb % 8)) = V4 at VB HRV HG ⊢
          obtain ⟨y4,τ4,HEs⟩ := rd_of 2 τ3
          have HNs : Hid (∀ w,RS 55 w rb τ3 → Calls Tryz.prog 20 #[.pointer (some ⟨rb,0,none⟩),.int .i64 2] w fun e w' => e = .returned (.int .i64 y4) ∧ RS 55 w' rb τ4 ∧ w.grownBy w' (some rb)) := qnum_of (k := 2) HEs.out (by omega)
          go_upto_region 38 with (first
            | (go_at_call 20;(with_reducible refine (HNs.out _ HRV.out).mono ?_);rintro e w2 ⟨rfl,hw2,hg2⟩
               (have VX := Lib.hid (lies_grown VB.out hg2 (by omega)))
               (have hc2 := lies_cell VX.out 3)
               (have hf2 := lies_frozen VX.out 3)))
          clear hc2 hf2
          have VY : Hid ((w2.setCell ⟨vb,3,none⟩ (.int .i64 y4)).heap[vb]? = some (.cells #[.int .i64 y1,.int .i64 y2,.int .i64 (yb / 16),.int .i64 y4,.bool (decide (yb / 8 % 2 = 1)),.int .i64 (yb % 8),.int .i64 0,.slice none 0 0] 60)) := lies_set VX.out 3 _
          have HRX : Hid (RS 55 (w2.setCell ⟨vb,3,none⟩ (.int .i64 y4)) rb τ4) := RS.keep hw2 (heap_set_ne (by omega))
          have HGX : Hid (wc.grownBy (w2.setCell ⟨vb,3,none⟩ (.int .i64 y4)) (some rb)) := grown_setN (Bi.grown_trans HG.out hg2) (by omega)
          clear VX VB HRV HG hw2 hg2
          have VB := VY
          have HRV := HRX
          have HG := HGX
          clear VY HRX HGX
          generalize w2.setCell ⟨vb,3,none⟩ (.int .i64 y4) = V5 at VB HRV HG ⊢
          obtain ⟨y5,τ5,HEt⟩ := rd_of 4 τ4
          have HNt : Hid (∀ w,RS 55 w rb τ4 → Calls Tryz.prog 20 #[.pointer (some ⟨rb,0,none⟩),.int .i64 4] w fun e w' => e = .returned (.int .i64 y5) ∧ RS 55 w' rb τ5 ∧ w.grownBy w' (some rb)) := qnum_of (k := 4) HEt.out (by omega)
          go_upto_region 39 with (first
            | (go_at_call 20;(with_reducible refine (HNt.out _ HRV.out).mono ?_);rintro e w2 ⟨rfl,hw2,hg2⟩
               (have VX := Lib.hid (lies_grown VB.out hg2 (by omega)))
               (have hc2 := lies_cell VX.out 6)
               (have hf2 := lies_frozen VX.out 6)))
          clear hc2 hf2
          have VY : Hid ((w2.setCell ⟨vb,6,none⟩ (.int .i64 y5)).heap[vb]? = some (.cells #[.int .i64 y1,.int .i64 y2,.int .i64 (yb / 16),.int .i64 y4,.bool (decide (yb / 8 % 2 = 1)),.int .i64 (yb % 8),.int .i64 y5,.slice none 0 0] 60)) := lies_set VX.out 6 _
          have HRX : Hid (RS 55 (w2.setCell ⟨vb,6,none⟩ (.int .i64 y5)) rb τ5) := RS.keep hw2 (heap_set_ne (by omega))
          have HGX : Hid (wc.grownBy (w2.setCell ⟨vb,6,none⟩ (.int .i64 y5)) (some rb)) := grown_setN (Bi.grown_trans HG.out hg2) (by omega)
          clear VX VB HRV HG hw2 hg2
          have VB := VY
          have HRV := HRX
          have HG := HGX
          clear VY HRX HGX
          generalize w2.setCell ⟨vb,6,none⟩ (.int .i64 y5) = V6 at VB HRV HG ⊢
          obtain ⟨ym,τ6,HEu⟩ := rd_of 2 τ5
          have HNu : Hid (∀ w,RS 55 w rb τ5 → Calls Tryz.prog 20 #[.pointer (some ⟨rb,0,none⟩),.int .i64 2] w fun e w' => e = .returned (.int .i64 ym) ∧ RS 55 w' rb τ6 ∧ w.grownBy w' (some rb)) := qnum_of (k := 2) HEu.out (by omega)
          go_upto_region 41 with (first
            | (go_at_call 20;(with_reducible refine (HNu.out _ HRV.out).mono ?_);rintro e V7 ⟨rfl,hw2,hg2⟩
               (have VX := Lib.hid (lies_grown VB.out hg2 (by omega)))))
          have HRX := Lib.hid hw2
          have HGX := Lib.hid (Bi.grown_trans HG.out hg2)
          clear VB HRV HG hw2 hg2
          have VB := VX
          have HRV := HRX
          have HG := HGX
          clear VX HRX HGX
          have hbu := rd_ge HEu.out
          obtain ⟨nu,hnu⟩ : ∃ n : Nat,ym = (n : Int) := ⟨ym.toNat,by omega⟩
          have hNu : nu < 65536 := by have : ym < 65536 := hbu.2;omega
          rw [hnu] at HEu ⊢
          obtain ⟨tos,τ7,HE7⟩ : ∃ l σ',Hid (PitotImg.manyS (rd 2) nu τ6 = (l,σ')) := ⟨_,_,Lib.hid rfl⟩
          obtain ⟨BT,hBT⟩ : ∃ B,V7.heap.size = B := ⟨_,rfl⟩
          have hwT : wc.heap.size ≤ BT := by have := HG.out.size;omega
          have hvbT : vb < BT := by have := lies_lt VB.out;omega
          have HOW2 : Hid (V7.ownsRow BT 3 1 (.slice none 0 0) 0 (enI [])) := World.ownsRow_nil _ _ _ _
          have HRW := HRV
          have HVW := VB
          go_loopw [16] (fun vc wr => ∃ (j : Nat) (σ : St) (acc2 : List Int) (rv2 : Value),j ≤ nu ∧ vc = .int .i64 j ∧ acc2.length = j ∧ Hid (acc2 ++ (PitotImg.manyS (rd 2) (nu - j) σ).1 = tos) ∧ Hid ((PitotImg.manyS (rd 2) (nu - j) σ).2 = τ7) ∧ Hid (RS 55 wr rb σ) ∧ Hid (wr.heap[vb]? = some (.cells #[.int .i64 y1,.int .i64 y2,.int .i64 (yb / 16),.int .i64 y4,.bool (decide (yb / 8 % 2 = 1)),.int .i64 (yb % 8),.int .i64 y5,rv2] 60)) ∧ Hid (wr.ownsRow BT 3 1 rv2 j (enI acc2)) ∧ Hid (Fr BT rb vb V7 wr)) (fun vc _ => nu - (intOf vc).toNat)
          case atStart => exact ⟨0,τ6,[],_,Nat.zero_le _,rfl,rfl,by show _ = _;rw [Nat.sub_zero,HE7.out];rfl,by show _ = _;rw [Nat.sub_zero,HE7.out],HRW,HVW,HOW2,Fr.refl⟩
          case round =>
            obtain ⟨j,σt,acc2,rv2,hj,rfl,hal2,hb1,hb2,HRt,HVt,HOt,HFt⟩ := hrel
            clear HRW HVW HOW2
            obtain ⟨Rh,hRh⟩ : ∃ R,(decide (j < nu) && σt.isSome) = R := ⟨_,rfl⟩
            go_upto_region 41 with (fail)
            refine g41 HRt.out hRh (fun _ _ _ _ _ h => h) ?_
            intro wd hwd z0 z1 z2 z3 z4 z5 z6 z7 z8
            subst hwd
            cases Rh
            case true =>
              obtain ⟨v,σu,HEv⟩ := rd_of 2 σt
              have HNv : Hid (∀ w,RS 55 w rb σt → Calls Tryz.prog 20 #[.pointer (some ⟨rb,0,none⟩),.int .i64 2] w fun e w' => e = .returned (.int .i64 v) ∧ RS 55 w' rb σu ∧ w.grownBy w' (some rb)) := qnum_of (k := 2) HEv.out (by omega)
              obtain ⟨hlt,hgo⟩ := many_go (p := rd 2) hRh HEv.out
              rw [hgo] at hb1 hb2
              clear hgo hRh
              have hbb : Hid (BT ≤ wd.heap.size) := by have := HFt.out.size;show _ ≤ _;omega
              go_upto_region 43 with (fail)
              refine app43 HRt HNv HVt HOt (by omega) hbb (Lib.hid (by omega)) (Lib.hid (by omega)) (Lib.hid (by omega)) (fun _ _ _ _ _ h => h) ?_
              intro W8 gq cp hcw hrw how hfr z0 z1 z2 z3 z4 z5 z6
              have HRX := Lib.hid hrw
              have HVX := Lib.hid hcw
              have HFX := Lib.hid (HFt.out.trans hfr)
              have HOX : Hid (W8.ownsRow BT 3 1 (.slice (some ⟨gq,0,none⟩) (j + 1) cp) (j + 1) (enI (acc2 ++ [v]))) := by show World.ownsRow _ _ _ _ _ _ _;rw [show enI (acc2 ++ [v]) = enI acc2 ++ [.int .i64 v] by simp [enI]];exact how
              clear hcw hrw how hfr HRt HVt HOt HFt hbb
              go_wp2
              go_roundw
              case rel => exact ⟨j + 1,σu,acc2 ++ [v],_,by omega,by go_num,by simp [hal2],by show _ = _;rw [← hb1.out,List.append_assoc];rfl,hb2,HRX,HVX,HOX,HFX⟩
              case measure => simp [intOf];omega
            rw [many_end hRh hj] at hb1 hb2
            have hb1 : acc2 = tos := by have := hb1.out;simpa using this
            have hb2 : σt = τ7 := hb2.out
            rw [hb2] at HRt
            rw [hb1] at HOt hal2
            obtain ⟨TA,tcap,hrv2,HTI0⟩ := ints_row HOt.out hal2.symm
            subst hrv2
            have HTI := Lib.hid HTI0
            have HX : PitotImg.vlS σ = (⟨y1,y2,yb / 16,y4,decide (yb / 8 % 2 = 1),yb % 8,y5,tos⟩,τ7) := by
              have e7 : PitotImg.manyS (rd 2) ((nu : Int)).toNat τ6 = (tos,τ7) := by rw [Int.toNat_natCast];exact HE7.out
              unfold PitotImg.vlS PitotImg.vlT
              simp only [HEp.out,HEq.out,HEr.out,HEs.out,HEt.out,HEu.out,e7]
            obtain ⟨hlt,hgo⟩ := many_go hRg HX
            rw [hgo] at ha1 ha2
            clear hgo hRg HX
            have HGz := Lib.hid (grown_fr HG.out HFt.out (by omega) (by omega))
            clear HG
            have HG := HGz
            clear HGz
            have HRV2 := HRt
            clear HRV HRt
            have HRV := HRV2
            clear HRV2 VB
            have VB := HVt
            clear HVt
            have HLV : Hid (∀ k,rv.ownBlock = some k → k < wc.heap.size) := fun k hk => (HO1.out.lt k hk).2
            have HTN : Hid (tos ≠ [] → ∃ b,TA = some ⟨b,0,none⟩ ∧ B7 ≤ b ∧ b < wd.heap.size ∧ some b ≠ rv.ownBlock ∧ ∀ i (h : i < tos.length),wd.cell? ⟨b,i,none⟩ = some (.int .i64 tos[i])) := fun hne => by
              obtain ⟨b,g1,g2,g3,_,g5⟩ := HTI.out hne
              have hgs := HSZ.out
              exact ⟨b,g1,by omega,g3,fun e => by have := HLV.out b e.symm;omega,g5⟩
            clear HTI0 HTI HOt HFt hal2 hRh
            have HT2 : Hid (TosIn B7 wd rv acc) := HT1.out.grown HG.out (by omega)
            clear HT1
            obtain ⟨ii,hii,hzz,hs3,hb3'⟩ := info_parts infoV
            have HC5 := Lib.hid (lies_alloc (o := .cells #[.int .i64 y1,.int .i64 y2,.int .i64 (yb / 16),.int .i64 y4,.bool (decide (yb / 8 % 2 = 1)),.int .i64 (yb % 8),.int .i64 y5,.slice TA tos.length tcap] 60) (lies_grown HCB.out HG.out (by omega)))
            have VB5 := Lib.hid (lies_alloc (o := .cells #[.int .i64 y1,.int .i64 y2,.int .i64 (yb / 16),.int .i64 y4,.bool (decide (yb / 8 % 2 = 1)),.int .i64 (yb % 8),.int .i64 y5,.slice TA tos.length tcap] 60) VB.out)
            have HOA := Lib.hid ((own_grown HO1.out HG.out (by omega)).alloc (.cells #[.int .i64 y1,.int .i64 y2,.int .i64 (yb / 16),.int .i64 y4,.bool (decide (yb / 8 % 2 = 1)),.int .i64 (yb % 8),.int .i64 y5,.slice TA tos.length tcap] 60))
            have HRA := Lib.hid (RS.al HRV.out (.cells #[.int .i64 y1,.int .i64 y2,.int .i64 (yb / 16),.int .i64 y4,.bool (decide (yb / 8 % 2 = 1)),.int .i64 (yb % 8),.int .i64 y5,.slice TA tos.length tcap] 60))
            have HFA : Hid (Fr B7 rb cb wc (wd.alloc (.cells #[.int .i64 y1,.int .i64 y2,.int .i64 (yb / 16),.int .i64 y4,.bool (decide (yb / 8 % 2 = 1)),.int .i64 (yb % 8),.int .i64 y5,.slice TA tos.length tcap] 60))) := Fr.al (Fr.grown HG.out) _
            have HNW : Hid (∀ j u,(Vx.enc (⟨y1,y2,yb / 16,y4,decide (yb / 8 % 2 = 1),yb % 8,y5,TA,tcap,tos⟩ : Vx))[j]? = some u → (wd.alloc (.cells #[.int .i64 y1,.int .i64 y2,.int .i64 (yb / 16),.int .i64 y4,.bool (decide (yb / 8 % 2 = 1)),.int .i64 (yb % 8),.int .i64 y5,.slice TA tos.length tcap] 60)).cell? ((⟨wd.heap.size,0,none⟩ : Addr).add j) = some u) := World.news_of_block (heap_alloc_new wd _)
            have HONE := Lib.hid (Vx.enc_one (⟨y1,y2,yb / 16,y4,decide (yb / 8 % 2 = 1),yb % 8,y5,TA,tcap,tos⟩ : Vx))
            have hbs : Hid (B7 ≤ (wd.alloc (.cells #[.int .i64 y1,.int .i64 y2,.int .i64 (yb / 16),.int .i64 y4,.bool (decide (yb / 8 % 2 = 1)),.int .i64 (yb % 8),.int .i64 y5,.slice TA tos.length tcap] 60)).heap.size) := Nat.le_trans HSZ.out HFA.out.size
            have c3x := lies_cell (lies_grown HCB.out HG.out (by omega)) 4
            obtain ⟨v0,v1,v2,v3,v4,v5,v6,v7⟩ := cells_8 VB.out
            go_wp2_with (first
              | (at_builtin;refine wpList_append_lies _ rfl _ _ 25 (by rfl) B7 60 ii _ 8 80 Tryz.underlying25 hii hzz hs3 hb3' rfl (by omega) rv i _ (by rfl) HOA.out ⟨wd.heap.size,0,none⟩ 1 1 (Vx.enc (⟨y1,y2,yb / 16,y4,decide (yb / 8 % 2 = 1),yb % 8,y5,TA,tcap,tos⟩ : Vx)) (by rfl) (by rfl) HNW.out HONE.out (by omega) (by unfold maxLen;omega) (by omega) hbs.out _ rfl ?_;intro gq cp w5 hrow5 hg5 hgb5 hgl5
                 (have HC6 := Lib.hid ((hg5.block cb (lies_lt HC5.out) (own_neg HOA.out (by omega))).trans HC5.out))
                 (have hc6 := lies_cell HC6.out 4)
                 (have hf6 := lies_frozen HC6.out 4)))
            have HFX : Hid (Fr B7 rb cb wc (w5.setCell ⟨cb,4,none⟩ (.slice (some ⟨gq,0,none⟩) (i + 1) cp))) := Fr.set (Fr.app HFA.out HOA.out hg5)
            have HRX : Hid (RS 55 (w5.setCell ⟨cb,4,none⟩ (.slice (some ⟨gq,0,none⟩) (i + 1) cp)) rb τ7) := RS.keep (RS.keep HRA.out (hg5.block rb HRA.out.lt (own_neg HOA.out (by omega)))) (heap_set_ne (by omega))
            have HCX : Hid ((w5.setCell ⟨cb,4,none⟩ (.slice (some ⟨gq,0,none⟩) (i + 1) cp)).heap[cb]? = some (.cells #[.int .i64 hosts,.slice PA pl pcap,.int .i64 major,.slice WA wl wcap,.slice (some ⟨gq,0,none⟩) (i + 1) cp,.slice none 0 0] 28)) := lies_set HC6.out 4 _
            have HZX := Lib.hid ((HFX.out.block resb (by omega) (by omega) (by omega) (lies_lt HZ.out)).trans HZ.out)
            have HBX := Lib.hid (HBW.out.trans (Below.of_fr (B := w.heap.size) HFX.out (by omega) HBW.out.size (by omega) (by omega)))
            have HOX : Hid ((w5.setCell ⟨cb,4,none⟩ (.slice (some ⟨gq,0,none⟩) (i + 1) cp)).ownsRow B7 60 8 (.slice (some ⟨gq,0,none⟩) (i + 1) cp) (i + 1) ((acc ++ [(⟨y1,y2,yb / 16,y4,decide (yb / 8 % 2 = 1),yb % 8,y5,TA,tcap,tos⟩ : Vx)]).flatMap Vx.enc)) := by
              show World.ownsRow _ _ _ _ _ _ _
              rw [List.flatMap_append,List.flatMap_singleton]
              exact own_set hrow5 (by omega)
            have HTX : Hid (TosIn B7 (w5.setCell ⟨cb,4,none⟩ (.slice (some ⟨gq,0,none⟩) (i + 1) cp)) (.slice (some ⟨gq,0,none⟩) (i + 1) cp) (acc ++ [(⟨y1,y2,yb / 16,y4,decide (yb / 8 % 2 = 1),yb % 8,y5,TA,tcap,tos⟩ : Vx)])) := TosIn.app (⟨y1,y2,yb / 16,y4,decide (yb / 8 % 2 = 1),yb % 8,y5,TA,tcap,tos⟩ : Vx) TA tos HT2.out rfl rfl _ HTN.out hg5 hgb5 (by omega)
            clear HT2 HTN
            have HIPX := Lib.hid (HIP.out.fr HFX.out (by omega) (by omega) (by omega))
            have HIWX := Lib.hid (HIW.out.fr HFX.out (by omega) (by omega) (by omega))
            have HSX := Lib.hid (Nat.le_trans HSZ.out HFX.out.size)
            clear HRS HCB HZ HBW HSZ HRV HG VB HC5 VB5 HOA HRA HFA HNW HONE hbs c3x HFX HO1 hrow5 hg5 hgb5 hgl5 HC6 hc6 hf6 hii hzz hs3 hb3' ii v0 v1 v2 v3 v4 v5 v6 v7 HIP HIW
            generalize w5.setCell ⟨cb,4,none⟩ (.slice (some ⟨gq,0,none⟩) (i + 1) cp) = Wz at HRX HCX HZX HBX HOX HSX HTX HIPX HIWX ⊢
            go_roundw
            case rel => exact ⟨i + 1,τ7,acc ++ [(⟨y1,y2,yb / 16,y4,decide (yb / 8 % 2 = 1),yb % 8,y5,TA,tcap,tos⟩ : Vx)],_,by omega,by go_num,by simp [hal],by show _ = _;rw [← ha1.out,List.map_append,List.append_assoc];rfl,ha2,HRX,HCX,HZX,HBX,HSX,HOX,HIPX,HIWX,HTX⟩
            case measure => simp [intOf];omega
        rw [many_end hRg hi] at ha1 ha2
        have ha1 : acc.map Vx.pl = vlsP := by have := ha1.out;simpa using this
        have ha2 : σ = σ8 := ha2.out
        rw [ha2] at HRS
        obtain ⟨VA,vcap,hrv,HIV0⟩ := Vxs_row HO1.out hal.symm HT1.out
        subst hrv
        obtain ⟨vls,hvls⟩ : ∃ l,acc = l := ⟨_,rfl⟩
        rw [hvls] at HIV0 HCB ha1
        have HVP : Hid (vls.map Vx.pl = vlsP) := ha1
        clear ha1
        obtain ⟨B8,hB8⟩ : ∃ B,wc.heap.size = B := ⟨_,rfl⟩
        rw [hB8] at HIV0
        have hle8 : B7 ≤ B8 := by have := HSZ.out;omega
        have HIV : Hid (VxsIn (cb + 1) B8 wc VA vls) := HIV0.mono (by omega) (Nat.le_refl _)
        clear HSZ
        have HSZ : Hid (B8 ≤ wc.heap.size) := by show _ ≤ _;omega
        clear hB8
        obtain ⟨vl,hvl⟩ : ∃ n,vls.length = n := ⟨_,rfl⟩
        rw [hvl] at HCB
        clear HIV0 HO1 HT1 hRg hvls c0 c1 c2 c3 c4 c5
        obtain ⟨c0,c1,c2,c3,c4,c5⟩ := cells_6 HCB.out
        obtain ⟨nq,σ9,HEf⟩ := rd_of 2 σ8
        have HNf : Hid (∀ w,RS 55 w rb σ8 → Calls Tryz.prog 20 #[.pointer (some ⟨rb,0,none⟩),.int .i64 2] w fun e w' => e = .returned (.int .i64 nq) ∧ RS 55 w' rb σ9 ∧ w.grownBy w' (some rb)) := qnum_of (k := 2) HEf.out (by omega)
        go_upto_region 48 with (go_at_call 20;(with_reducible refine (HNf.out _ HRS.out).mono ?_);rintro e W7 ⟨rfl,hw2,hg2⟩)
        have HFX := Lib.hid (fun base => (Fr.grown (base := base) (b := cb) hg2))
        have HRX := Lib.hid (hw2)
        have HCX : Hid ((W7).heap[cb]? = some (.cells #[.int .i64 hosts,.slice PA pl pcap,.int .i64 major,.slice WA wl wcap,.slice VA vl vcap,.slice none 0 0] 28)) := lies_grown HCB.out hg2 (by omega)
        have HZX := Lib.hid (((HFX.out (resb + 1)).block resb (by omega) (by omega) (by omega) (lies_lt HZ.out)).trans HZ.out)
        have HBX := Lib.hid (HBW.out.trans (Below.of_fr (B := w.heap.size) (HFX.out w.heap.size) (Nat.le_refl _) HBW.out.size (by omega) (by omega)))
        have HIPX := Lib.hid (HIP.out.fr (HFX.out B3) (Nat.le_refl _) (by omega) (by omega))
        have HIWX := Lib.hid (HIW.out.fr (HFX.out B6) (Nat.le_refl _) (by omega) (by omega))
        have HIVX := Lib.hid (HIV.out.fr (HFX.out B8) (Nat.le_refl _) (by omega) (by omega))
        have HSZX := Lib.hid (Nat.le_trans HSZ.out (HFX.out 0).size)
        clear hw2 hg2
        clear HFX HRS HCB HZ HBW HSZ HIP HIW HIV c0 c1 c2 c3 c4 c5
        have HRS := HRX
        have HCB := HCX
        have HZ := HZX
        have HBW := HBX
        have HSZ := HSZX
        have HIP := HIPX
        have HIW := HIWX
        have HIV := HIVX
        clear HRX HCX HZX HBX HSZX HIPX HIWX HIVX
        obtain ⟨c0,c1,c2,c3,c4,c5⟩ := cells_6 HCB.out
        have hbf := rd_ge HEf.out
        obtain ⟨nf,hnf⟩ : ∃ n : Nat,nq = (n : Int) := ⟨nq.toNat,by omega⟩
        have hNf : nf < 65536 := by have : nq < 65536 := hbf.2;omega
        rw [hnf] at HEf ⊢
        obtain ⟨PT,HEP⟩ : ∃ P,Hid (PitotImg.portsS nf σ9 = P) := ⟨_,Lib.hid rfl⟩
        have HSR : Hid (PitotImg.sread u = PT.elim (.error 1) (fun r => r.2.elim (.error 10) (fun l => .ok (⟨hosts,parts,major,winsP,vlsP,r.1⟩,l)))) := by
          show _ = _
          have e : PitotImg.cfT (some u) = ⟨(hosts,σ1),((nb : Int),σ2),(parts,σ3),(major,σ4),((nd : Int),σ5),(winsP,σ6),((ne : Int),σ7),(vlsP,σ8),((nf : Int),σ9)⟩ := by
            unfold PitotImg.cfT
            simp only [hσ0,HEa.out,HEb.out,Int.toNat_natCast,HE3.out,HEc.out,HEd.out,HEσ6.out,HEe.out,HEσ8.out,HEf.out]
          unfold PitotImg.sread
          rw [e]
          simp only [Int.toNat_natCast,HEP.out]
          cases PT with
          | none => rfl
          | some r => obtain ⟨ra,rb'⟩ := r;cases rb' <;> rfl
        obtain ⟨B9,hB9⟩ : ∃ B,W7.heap.size = B := ⟨_,rfl⟩
        have hlB9 : cb + 1 ≤ B9 := by have := lies_lt HCB.out;omega
        have hleB9 : B8 ≤ B9 := by have := HSZ.out;omega
        clear HSZ
        have HSZ : Hid (B9 ≤ W7.heap.size) := by show _ ≤ _;omega
        clear hB9
        have HOW : Hid (W7.ownsRow B9 62 11 (.slice none 0 0) 0 []) := World.ownsRow_nil _ _ _ _
        go_loopw [17,18] (fun vg vc wr => ∃ (i : Nat) (σ : St) (acc : List Px) (rv : Value) (wg : Bool),i ≤ nf ∧ vc = .int .i64 i ∧ acc.length = i ∧ vg = .bool wg ∧ Hid (wg = true → σ = none) ∧ Hid ((PitotImg.portsS (nf - i) σ).map (fun r => (acc.map Px.pl ++ r.1,r.2)) = PT) ∧ Hid (RS 55 wr rb σ) ∧ Hid (wr.heap[cb]? = some (.cells #[.int .i64 hosts,.slice PA pl pcap,.int .i64 major,.slice WA wl wcap,.slice VA vl vcap,rv] 28)) ∧ Hid (wr.heap[resb]? = some (.cells #[.int .i64 0,.slice none 0 0,.int .i64 0,.slice none 0 0,.slice none 0 0,.slice none 0 0] 28)) ∧ Hid (Below w.heap.size w wr) ∧ Hid (B9 ≤ wr.heap.size) ∧ Hid (wr.ownsRow B9 62 11 rv i (acc.flatMap Px.enc)) ∧ Hid (IntsIn (cb + 1) B3 wr PA parts) ∧ Hid (WnsIn (cb + 1) B6 wr WA wins) ∧ Hid (VxsIn (cb + 1) B8 wr VA vls)) (fun _ vc _ => nf - (intOf vc).toNat)
        case atStart => exact ⟨0,σ9,[],_,false,Nat.zero_le _,rfl,rfl,rfl,fun h => by (cases h),by show _ = _;rw [Nat.sub_zero,HEP.out];cases PT <;> rfl,HRS,HCB,HZ,HBW,HSZ,HOW,HIP,HIW,HIV⟩
        case round =>
          obtain ⟨i,σ,acc,rv,wg,hi,rfl,hal,rfl,hwg,ha1,HR1,HC1,HZ1,HB1,HS1,HO1,HIP1,HIW1,HIV1⟩ := hrel
          clear HRS HCB HZ HBW HSZ c0 c1 c2 c3 c4 c5 HOW HIP HIW HIV
          have HRS := HR1
          have HCB := HC1
          have HZ := HZ1
          have HBW := HB1
          have HSZ := HS1
          clear HR1 HC1 HZ1 HB1 HS1
          have HIP := HIP1
          clear HIP1
          have HIW := HIW1
          clear HIW1
          have HIV := HIV1
          clear HIV1
          obtain ⟨c0,c1,c2,c3,c4,c5⟩ := cells_6 HCB.out
          obtain ⟨Rg,hRg⟩ : ∃ R,(decide (i < nf) && σ.isSome) = R := ⟨_,rfl⟩
          go_upto_region 48 with (fail)
          refine g48 HRS.out hRg (fun _ _ _ _ _ h => h) ?_
          intro wc hwc z0 z1 z2 z3 z4 z5 z6 z7 z8
          subst hwc
          cases Rg
          case true =>
            have hw0 : wg = false := by
              cases wg with
              | false => rfl
              | true => rw [hwg.out rfl] at hRg;simp at hRg
            subst hw0
            have VB0 : Hid ((wc.alloc (.cells #[.int .i64 0,.int .i64 0,.int .i64 0,.int .i64 0,.bool false,.int .i64 0,.int .i64 0,.int .i64 0,.int .i64 0,.int .i64 0,.int .i64 0] 62)).heap[wc.heap.size]? = some (.cells #[.int .i64 0,.int .i64 0,.int .i64 0,.int .i64 0,.bool false,.int .i64 0,.int .i64 0,.int .i64 0,.int .i64 0,.int .i64 0,.int .i64 0] 62)) := heap_alloc_new wc _
            have HRX := Lib.hid (RS.al HRS.out (.cells #[.int .i64 0,.int .i64 0,.int .i64 0,.int .i64 0,.bool false,.int .i64 0,.int .i64 0,.int .i64 0,.int .i64 0,.int .i64 0,.int .i64 0] 62))
            have HG0 : Hid (wc.grownBy (wc.alloc (.cells #[.int .i64 0,.int .i64 0,.int .i64 0,.int .i64 0,.bool false,.int .i64 0,.int .i64 0,.int .i64 0,.int .i64 0,.int .i64 0,.int .i64 0] 62)) (some rb)) := Bi.grown_alloc _
            go_upto_region 51 with (fail)
            clear c0 c1 c2 c3 c4 c5
            generalize wc.alloc (.cells #[.int .i64 0,.int .i64 0,.int .i64 0,.int .i64 0,.bool false,.int .i64 0,.int .i64 0,.int .i64 0,.int .i64 0,.int .i64 0,.int .i64 0] 62) = V0 at VB0 HRX HG0 ⊢
            obtain ⟨vb,hvb⟩ : ∃ b,wc.heap.size = b := ⟨_,rfl⟩
            rw [hvb] at VB0 ⊢
            have hcv : cb < vb := by have := lies_lt HCB.out;omega
            have VB := VB0
            have HG := HG0
            have HRV := HRX
            clear VB0 HG0 HRX
            obtain ⟨y1,τ1,HEp⟩ := rd_of 4 σ
            have HNp : Hid (∀ w,RS 55 w rb σ → Calls Tryz.prog 20 #[.pointer (some ⟨rb,0,none⟩),.int .i64 4] w fun e w' => e = .returned (.int .i64 y1) ∧ RS 55 w' rb τ1 ∧ w.grownBy w' (some rb)) := qnum_of (k := 4) HEp.out (by omega)
            go_upto_region 52 with (first
              | (go_at_call 20;(with_reducible refine (HNp.out _ HRV.out).mono ?_);rintro e w2 ⟨rfl,hw2,hg2⟩
                 (have VX := Lib.hid (lies_grown VB.out hg2 (by omega)))
                 (have hc2 := lies_cell VX.out 0)
                 (have hf2 := lies_frozen VX.out 0)))
            clear hc2 hf2
            have VY : Hid ((w2.setCell ⟨vb,0,none⟩ (.int .i64 y1)).heap[vb]? = some (.cells #[.int .i64 y1,.int .i64 0,.int .i64 0,.int .i64 0,.bool false,.int .i64 0,.int .i64 0,.int .i64 0,.int .i64 0,.int .i64 0,.int .i64 0] 62)) := lies_set VX.out 0 _
            have HRX : Hid (RS 55 (w2.setCell ⟨vb,0,none⟩ (.int .i64 y1)) rb τ1) := RS.keep hw2 (heap_set_ne (by omega))
            have HGX : Hid (wc.grownBy (w2.setCell ⟨vb,0,none⟩ (.int .i64 y1)) (some rb)) := grown_setN (Bi.grown_trans HG.out hg2) (by omega)
            clear VX VB HRV HG hw2 hg2
            have VB := VY
            have HRV := HRX
            have HG := HGX
            clear VY HRX HGX
            generalize w2.setCell ⟨vb,0,none⟩ (.int .i64 y1) = V1 at VB HRV HG ⊢
            obtain ⟨y2,τ2,HEq⟩ := rd_of 2 τ1
            have HNq : Hid (∀ w,RS 55 w rb τ1 → Calls Tryz.prog 20 #[.pointer (some ⟨rb,0,none⟩),.int .i64 2] w fun e w' => e = .returned (.int .i64 y2) ∧ RS 55 w' rb τ2 ∧ w.grownBy w' (some rb)) := qnum_of (k := 2) HEq.out (by omega)
            go_upto_region 53 with (first
              | (go_at_call 20;(with_reducible refine (HNq.out _ HRV.out).mono ?_);rintro e w2 ⟨rfl,hw2,hg2⟩
                 (have VX := Lib.hid (lies_grown VB.out hg2 (by omega)))
                 (have hc2 := lies_cell VX.out 1)
                 (have hf2 := lies_frozen VX.out 1)))
            clear hc2 hf2
            have VY : Hid ((w2.setCell ⟨vb,1,none⟩ (.int .i64 y2)).heap[vb]? = some (.cells #[.int .i64 y1,.int .i64 y2,.int .i64 0,.int .i64 0,.bool false,.int .i64 0,.int .i64 0,.int .i64 0,.int .i64 0,.int .i64 0,.int .i64 0] 62)) := lies_set VX.out 1 _
            have HRX : Hid (RS 55 (w2.setCell ⟨vb,1,none⟩ (.int .i64 y2)) rb τ2) := RS.keep hw2 (heap_set_ne (by omega))
            have HGX : Hid (wc.grownBy (w2.setCell ⟨vb,1,none⟩ (.int .i64 y2)) (some rb)) := grown_setN (Bi.grown_trans HG.out hg2) (by omega)
            clear VX VB HRV HG hw2 hg2
            have VB := VY
            have HRV := HRX
            have HG := HGX
            clear VY HRX HGX
            generalize w2.setCell ⟨vb,1,none⟩ (.int .i64 y2) = V2 at VB HRV HG ⊢
            obtain ⟨y3,τ3,HEr⟩ := rd_of 2 τ2
            have HNr : Hid (∀ w,RS 55 w rb τ2 → Calls Tryz.prog 20 #[.pointer (some ⟨rb,0,none⟩),.int .i64 2] w fun e w' => e = .returned (.int .i64 y3) ∧ RS 55 w' rb τ3 ∧ w.grownBy w' (some rb)) := qnum_of (k := 2) HEr.out (by omega)
            go_upto_region 54 with (first
              | (go_at_call 20;(with_reducible refine (HNr.out _ HRV.out).mono ?_);rintro e w2 ⟨rfl,hw2,hg2⟩
                 (have VX := Lib.hid (lies_grown VB.out hg2 (by omega)))
                 (have hc2 := lies_cell VX.out 2)
                 (have hf2 := lies_frozen VX.out 2)))
            clear hc2 hf2
            have VY : Hid ((w2.setCell ⟨vb,2,none⟩ (.int .i64 y3)).heap[vb]? = some (.cells #[.int .i64 y1,.int .i64 y2,.int .i64 y3,.int .i64 0,.bool false,.int .i64 0,.int .i64 0,.int .i64 0,.int .i64 0,.int .i64 0,.int .i64 0] 62)) := lies_set VX.out 2 _
            have HRX : Hid (RS 55 (w2.setCell ⟨vb,2,none⟩ (.int .i64 y3)) rb τ3) := RS.keep hw2 (heap_set_ne (by omega))
            have HGX : Hid (wc.grownBy (w2.setCell ⟨vb,2,none⟩ (.int .i64 y3)) (some rb)) := grown_setN (Bi.grown_trans HG.out hg2) (by omega)
            clear VX VB HRV HG hw2 hg2
            have VB := VY
            have HRV := HRX
            have HG := HGX
            clear VY HRX HGX
            generalize w2.setCell ⟨vb,2,none⟩ (.int .i64 y3) = V3 at VB HRV HG ⊢
            obtain ⟨yb,τ4,HEs⟩ := rd_of 1 τ3
            have HNs : Hid (∀ w,RS 55 w rb τ3 → Calls Tryz.prog 20 #[.pointer (some ⟨rb,0,none⟩),.int .i64 1] w fun e w' => e = .returned (.int .i64 yb) ∧ RS 55 w' rb τ4 ∧ w.grownBy w' (some rb)) := qnum_of (k := 1) HEs.out (by omega)
            go_upto_region 55 with (first
              | (go_at_call 20;(with_reducible refine (HNs.out _ HRV.out).mono ?_);rintro e V4 ⟨rfl,hw2,hg2⟩
                 (have VX := Lib.hid (lies_grown VB.out hg2 (by omega)))))
            have HRX := Lib.hid hw2
            have HGX := Lib.hid (Bi.grown_trans HG.out hg2)
            clear VB HRV HG hw2 hg2
            have VB := VX
            have HRV := HRX
            have HG := HGX
            clear VX HRX HGX
            have hyb := rd_ge HEs.out
            have hyb0 := hyb.1
            have hyb1 : yb < 256 := hyb.2
            clear hyb
            have hc3 := lies_cell VB.out 3
            have hf3 := lies_frozen VB.out 3
            have hc4 := lies_cell VB.out 4
            have hf4 := lies_frozen VB.out 4
            have hc6 := lies_cell VB.out 6
            have hf6 := lies_frozen VB.out 6
            go_upto_region 58 with (fail)
            clear hc3 hf3 hc4 hf4 hc6 hf6
            have VY : Hid (((((V4).setCell ⟨vb,3,none⟩ (.int .i64 (yb / 64))).setCell ⟨vb,4,none⟩ (.bool (decide (yb / 32 % 2 = 1)))).setCell ⟨vb,6,none⟩ (.int .i64 (yb % 32))).heap[vb]? = some (.cells #[.int .i64 y1,.int .i64 y2,.int .i64 y3,.int .i64 (yb / 64),.bool (decide (yb / 32 % 2 = 1)),.int .i64 0,.int .i64 (yb % 32),.int .i64 0,.int .i64 0,.int .i64 0,.int .i64 0] 62)) := (lies_set (lies_set (lies_set VB.out 3 _) 4 _) 6 _)
            have HRX : Hid (RS 55 ((((V4).setCell ⟨vb,3,none⟩ (.int .i64 (yb / 64))).setCell ⟨vb,4,none⟩ (.bool (decide (yb / 32 % 2 = 1)))).setCell ⟨vb,6,none⟩ (.int .i64 (yb % 32))) rb τ4) := (RS.keep (RS.keep (RS.keep HRV.out (heap_set_ne (by omega))) (heap_set_ne (by omega))) (heap_set_ne (by omega)))
            have HGX : Hid (wc.grownBy ((((V4).setCell ⟨vb,3,none⟩ (.int .i64 (yb / 64))).setCell ⟨vb,4,none⟩ (.bool (decide (yb / 32 % 2 = 1)))).setCell ⟨vb,6,none⟩ (.int .i64 (yb % 32))) (some rb)) := (grown_setN (grown_setN (grown_setN HG.out (by omega)) (by omega)) (by omega))
            clear VB HRV HG
            have VB := VY
            have HRV := HRX
            have HG := HGX
            clear VY HRX HGX
            generalize (((V4).setCell ⟨vb,3,none⟩ (.int .i64 (yb / 64))).setCell ⟨vb,4,none⟩ (.bool (decide (yb / 32 % 2 = 1)))).setCell ⟨vb,6,none⟩ (.int .i64 (yb % 32)) = V5 at VB HRV HG ⊢
            obtain ⟨y5,τ5,HEt⟩ := rd_of 2 τ4
            have HNt : Hid (∀ w,RS 55 w rb τ4 → Calls Tryz.prog 20 #[.pointer (some ⟨rb,0,none⟩),.int .i64 2] w fun e w' => e = .returned (.int .i64 y5) ∧ RS 55 w' rb τ5 ∧ w.grownBy w' (some rb)) := qnum_of (k := 2) HEt.out (by omega)
            go_upto_region 59 with (first
              | (go_at_call 20;(with_reducible refine (HNt.out _ HRV.out).mono ?_);rintro e w2 ⟨rfl,hw2,hg2⟩
                 (have VX := Lib.hid (lies_grown VB.out hg2 (by omega)))
                 (have hc2 := lies_cell VX.out 5)
                 (have hf2 := lies_frozen VX.out 5)))
            clear hc2 hf2
            have VY : Hid ((w2.setCell ⟨vb,5,none⟩ (.int .i64 y5)).heap[vb]? = some (.cells #[.int .i64 y1,.int .i64 y2,.int .i64 y3,.int .i64 (yb / 64),.bool (decide (yb / 32 % 2 = 1)),.int .i64 y5,.int .i64 (yb % 32),.int .i64 0,.int .i64 0,.int .i64 0,.int .i64 0] 62)) := lies_set VX.out 5 _
            have HRX : Hid (RS 55 (w2.setCell ⟨vb,5,none⟩ (.int .i64 y5)) rb τ5) := RS.keep hw2 (heap_set_ne (by omega))
            have HGX : Hid (wc.grownBy (w2.setCell ⟨vb,5,none⟩ (.int .i64 y5)) (some rb)) := grown_setN (Bi.grown_trans HG.out hg2) (by omega)
            clear VX VB HRV HG hw2 hg2
            have VB := VY
            have HRV := HRX
            have HG := HGX
            clear VY HRX HGX
            generalize w2.setCell ⟨vb,5,none⟩ (.int .i64 y5) = V6 at VB HRV HG ⊢
            obtain ⟨y7,τ6,HEu⟩ := rd_of 2 τ5
            have HNu : Hid (∀ w,RS 55 w rb τ5 → Calls Tryz.prog 20 #[.pointer (some ⟨rb,0,none⟩),.int .i64 2] w fun e w' => e = .returned (.int .i64 y7) ∧ RS 55 w' rb τ6 ∧ w.grownBy w' (some rb)) := qnum_of (k := 2) HEu.out (by omega)
            go_upto_region 60 with (first
              | (go_at_call 20;(with_reducible refine (HNu.out _ HRV.out).mono ?_);rintro e w2 ⟨rfl,hw2,hg2⟩
                 (have VX := Lib.hid (lies_grown VB.out hg2 (by omega)))
                 (have hc2 := lies_cell VX.out 7)
                 (have hf2 := lies_frozen VX.out 7)))
            clear hc2 hf2
            have VY : Hid ((w2.setCell ⟨vb,7,none⟩ (.int .i64 y7)).heap[vb]? = some (.cells #[.int .i64 y1,.int .i64 y2,.int .i64 y3,.int .i64 (yb / 64),.bool (decide (yb / 32 % 2 = 1)),.int .i64 y5,.int .i64 (yb % 32),.int .i64 y7,.int .i64 0,.int .i64 0,.int .i64 0] 62)) := lies_set VX.out 7 _
            have HRX : Hid (RS 55 (w2.setCell ⟨vb,7,none⟩ (.int .i64 y7)) rb τ6) := RS.keep hw2 (heap_set_ne (by omega))
            have HGX : Hid (wc.grownBy (w2.setCell ⟨vb,7,none⟩ (.int .i64 y7)) (some rb)) := grown_setN (Bi.grown_trans HG.out hg2) (by omega)
            clear VX VB HRV HG hw2 hg2
            have VB := VY
            have HRV := HRX
            have HG := HGX
            clear VY HRX HGX
            generalize w2.setCell ⟨vb,7,none⟩ (.int .i64 y7) = V7 at VB HRV HG ⊢
            obtain ⟨y8,τ7,HEv⟩ := rd_of 2 τ6
            have HNv : Hid (∀ w,RS 55 w rb τ6 → Calls Tryz.prog 20 #[.pointer (some ⟨rb,0,none⟩),.int .i64 2] w fun e w' => e = .returned (.int .i64 y8) ∧ RS 55 w' rb τ7 ∧ w.grownBy w' (some rb)) := qnum_of (k := 2) HEv.out (by omega)
            go_upto_region 61 with (first
              | (go_at_call 20;(with_reducible refine (HNv.out _ HRV.out).mono ?_);rintro e w2 ⟨rfl,hw2,hg2⟩
                 (have VX := Lib.hid (lies_grown VB.out hg2 (by omega)))
                 (have hc2 := lies_cell VX.out 8)
                 (have hf2 := lies_frozen VX.out 8)))
            clear hc2 hf2
            have VY : Hid ((w2.setCell ⟨vb,8,none⟩ (.int .i64 y8)).heap[vb]? = some (.cells #[.int .i64 y1,.int .i64 y2,.int .i64 y3,.int .i64 (yb / 64),.bool (decide (yb / 32 % 2 = 1)),.int .i64 y5,.int .i64 (yb % 32),.int .i64 y7,.int .i64 y8,.int .i64 0,.int .i64 0] 62)) := lies_set VX.out 8 _
            have HRX : Hid (RS 55 (w2.setCell ⟨vb,8,none⟩ (.int .i64 y8)) rb τ7) := RS.keep hw2 (heap_set_ne (by omega))
            have HGX : Hid (wc.grownBy (w2.setCell ⟨vb,8,none⟩ (.int .i64 y8)) (some rb)) := grown_setN (Bi.grown_trans HG.out hg2) (by omega)
            clear VX VB HRV HG hw2 hg2
            have VB := VY
            have HRV := HRX
            have HG := HGX
            clear VY HRX HGX
            generalize w2.setCell ⟨vb,8,none⟩ (.int .i64 y8) = V8 at VB HRV HG ⊢
            obtain ⟨y9,τ8,HEw⟩ := rd_of 2 τ7
            have HNw : Hid (∀ w,RS 55 w rb τ7 → Calls Tryz.prog 20 #[.pointer (some ⟨rb,0,none⟩),.int .i64 2] w fun e w' => e = .returned (.int .i64 y9) ∧ RS 55 w' rb τ8 ∧ w.grownBy w' (some rb)) := qnum_of (k := 2) HEw.out (by omega)
            go_upto_region 62 with (first
              | (go_at_call 20;(with_reducible refine (HNw.out _ HRV.out).mono ?_);rintro e w2 ⟨rfl,hw2,hg2⟩
                 (have VX := Lib.hid (lies_grown VB.out hg2 (by omega)))
                 (have hc2 := lies_cell VX.out 9)
                 (have hf2 := lies_frozen VX.out 9)))
            clear hc2 hf2
            have VY : Hid ((w2.setCell ⟨vb,9,none⟩ (.int .i64 y9)).heap[vb]? = some (.cells #[.int .i64 y1,.int .i64 y2,.int .i64 y3,.int .i64 (yb / 64),.bool (decide (yb / 32 % 2 = 1)),.int .i64 y5,.int .i64 (yb % 32),.int .i64 y7,.int .i64 y8,.int .i64 y9,.int .i64 0] 62)) := lies_set VX.out 9 _
            have HRX : Hid (RS 55 (w2.setCell ⟨vb,9,none⟩ (.int .i64 y9)) rb τ8) := RS.keep hw2 (heap_set_ne (by omega))
            have HGX : Hid (wc.grownBy (w2.setCell ⟨vb,9,none⟩ (.int .i64 y9)) (some rb)) := grown_setN (Bi.grown_trans HG.out hg2) (by omega)
            clear VX VB HRV HG hw2 hg2
            have VB := VY
            have HRV := HRX
            have HG := HGX
            clear VY HRX HGX
            generalize w2.setCell ⟨vb,9,none⟩ (.int .i64 y9) = V9 at VB HRV HG ⊢
            obtain ⟨yh,τ9,HEx⟩ := rd_of 4 τ8
            have HNx : Hid (∀ w,RS 55 w rb τ8 → Calls Tryz.prog 20 #[.pointer (some ⟨rb,0,none⟩),.int .i64 4] w fun e w' => e = .returned (.int .i64 yh) ∧ RS 55 w' rb τ9 ∧ w.grownBy w' (some rb)) := qnum_of (k := 4) HEx.out (by omega)
            go_upto_region 63 with (first
              | (go_at_call 20;(with_reducible refine (HNx.out _ HRV.out).mono ?_);rintro e VA_ ⟨rfl,hw2,hg2⟩
                 (have VX := Lib.hid (lies_grown VB.out hg2 (by omega)))))
            have HRX := Lib.hid hw2
            have HGX := Lib.hid (Bi.grown_trans HG.out hg2)
            clear VB HRV HG hw2 hg2
            have VB := VX
            have HRV := HRX
            have HG := HGX
            clear VX HRX HGX
            obtain ⟨yl,τA,HEy⟩ := rd_of 4 τ9
            have HNy : Hid (∀ w,RS 55 w rb τ9 → Calls Tryz.prog 20 #[.pointer (some ⟨rb,0,none⟩),.int .i64 4] w fun e w' => e = .returned (.int .i64 yl) ∧ RS 55 w' rb τA ∧ w.grownBy w' (some rb)) := qnum_of (k := 4) HEy.out (by omega)
            go_upto_region 64 with (first
              | (go_at_call 20;(with_reducible refine (HNy.out _ HRV.out).mono ?_);rintro e w2 ⟨rfl,hw2,hg2⟩
                 (have VX := Lib.hid (lies_grown VB.out hg2 (by omega)))
                 (have hc2 := lies_cell VX.out 10)
                 (have hf2 := lies_frozen VX.out 10)))
            clear hc2 hf2
            have VY : Hid ((w2.setCell ⟨vb,10,none⟩ (.int .i64 yl)).heap[vb]? = some (.cells #[.int .i64 y1,.int .i64 y2,.int .i64 y3,.int .i64 (yb / 64),.bool (decide (yb / 32 % 2 = 1)),.int .i64 y5,.int .i64 (yb % 32),.int .i64 y7,.int .i64 y8,.int .i64 y9,.int .i64 yl] 62)) := lies_set VX.out 10 _
            have HRX : Hid (RS 55 (w2.setCell ⟨vb,10,none⟩ (.int .i64 yl)) rb τA) := RS.keep hw2 (heap_set_ne (by omega))
            have HGX : Hid (wc.grownBy (w2.setCell ⟨vb,10,none⟩ (.int .i64 yl)) (some rb)) := grown_setN (Bi.grown_trans HG.out hg2) (by omega)
            clear VX VB HRV HG hw2 hg2
            have VB := VY
            have HRV := HRX
            have HG := HGX
            clear VY HRX HGX
            generalize w2.setCell ⟨vb,10,none⟩ (.int .i64 yl) = VB_ at VB HRV HG ⊢
            have hyh := rd_ge HEx.out
            have hyl := rd_ge HEy.out
            have hyl1 : yl < 4294967296 := hyl.2
            have hyh1 : yh < 4294967296 := hyh.2
            have hyl0 := hyl.1
            have hyh0 := hyh.1
            clear hyl hyh
            have HX : PitotImg.prtS σ = (⟨y1,y2,y3,yb / 64,decide (yb / 32 % 2 = 1),y5,yb % 32,y7,y8,y9,PitotImg.freshF yh yl⟩,τA) := by
              unfold PitotImg.prtS PitotImg.prtT
              simp only [HEp.out,HEq.out,HEr.out,HEs.out,HEt.out,HEu.out,HEv.out,HEw.out,HEx.out,HEy.out]
            have HBP : PitotImg.badP σ = (PitotImg.wrongF yh yl && τA.isSome) := by
              unfold PitotImg.badP PitotImg.prtT
              simp only [HEp.out,HEq.out,HEr.out,HEs.out,HEt.out,HEu.out,HEv.out,HEw.out,HEx.out,HEy.out]
            obtain ⟨wf,hwf⟩ : ∃ b,PitotImg.wrongF yh yl = b := ⟨_,rfl⟩
            rw [hwf] at HBP
            refine r64 VB hwf (fun _ _ _ _ _ h => h) ?_
            intro wq hwq z0 z1 z2 z3 z4 z5 z6 z7 z8 z9
            subst hwq
            cases wf
            case false =>
              have hfr : PitotImg.freshF yh yl = yl + yh * 4294967296 := by unfold PitotImg.freshF;rw [hwf,if_neg (by decide)]
              have hfb : yl + yh * 4294967296 ≤ 1099511627776 := by
                unfold PitotImg.wrongF at hwf
                simp only [Bool.or_eq_false_iff,Bool.and_eq_false_iff,decide_eq_false_iff_not] at hwf
                omega
              rw [hfr] at HX
              have q1 : IntKind.i64.wrap (yh * 4294967296) = yh * 4294967296 := IntWalk.i64_in _ (by omega)
              have q2 : IntKind.i64.wrap (yl + yh * 4294967296) = yl + yh * 4294967296 := IntWalk.i64_in _ (by omega)
              have hc10 := lies_cell VB.out 10
              have hf10 := lies_frozen VB.out 10
              go_upto_region 67 with (fail)
              clear hc10 hf10
              have VY : Hid (((wq).setCell ⟨vb,10,none⟩ (.int .i64 (yl + yh * 4294967296))).heap[vb]? = some (.cells #[.int .i64 y1,.int .i64 y2,.int .i64 y3,.int .i64 (yb / 64),.bool (decide (yb / 32 % 2 = 1)),.int .i64 y5,.int .i64 (yb % 32),.int .i64 y7,.int .i64 y8,.int .i64 y9,.int .i64 (yl + yh * 4294967296)] 62)) := (lies_set VB.out 10 _)
              have HRX : Hid (RS 55 ((wq).setCell ⟨vb,10,none⟩ (.int .i64 (yl + yh * 4294967296))) rb τA) := (RS.keep HRV.out (heap_set_ne (by omega)))
              have HGX : Hid (wc.grownBy ((wq).setCell ⟨vb,10,none⟩ (.int .i64 (yl + yh * 4294967296))) (some rb)) := (grown_setN HG.out (by omega))
              clear VB HRV HG
              have VB := VY
              have HRV := HRX
              have HG := HGX
              clear VY HRX HGX
              generalize (wq).setCell ⟨vb,10,none⟩ (.int .i64 (yl + yh * 4294967296)) = VC_ at VB HRV HG ⊢
              refine r67 HRV.out (R := false) (by simp) (fun _ _ _ _ _ h => h) ?_
              intro wq2 hwq2 z0 z1 z2 z3 z4 z5 z6
              subst hwq2
              obtain ⟨hlt,hgo⟩ := ports_go hRg HX (by rw [HBP];simp)
              rw [hgo,opt_map] at ha1
              clear hgo hRg HX HBP
              obtain ⟨ii,hii,hzz,hs3,hb3'⟩ := info_parts infoP
              have HC5 := Lib.hid (lies_alloc (o := .cells #[.int .i64 y1,.int .i64 y2,.int .i64 y3,.int .i64 (yb / 64),.bool (decide (yb / 32 % 2 = 1)),.int .i64 y5,.int .i64 (yb % 32),.int .i64 y7,.int .i64 y8,.int .i64 y9,.int .i64 (yl + yh * 4294967296)] 62) (lies_grown HCB.out HG.out (by omega)))
              have VB5 := Lib.hid (lies_alloc (o := .cells #[.int .i64 y1,.int .i64 y2,.int .i64 y3,.int .i64 (yb / 64),.bool (decide (yb / 32 % 2 = 1)),.int .i64 y5,.int .i64 (yb % 32),.int .i64 y7,.int .i64 y8,.int .i64 y9,.int .i64 (yl + yh * 4294967296)] 62) VB.out)
              have HOA := Lib.hid ((own_grown HO1.out HG.out (by omega)).alloc (.cells #[.int .i64 y1,.int .i64 y2,.int .i64 y3,.int .i64 (yb / 64),.bool (decide (yb / 32 % 2 = 1)),.int .i64 y5,.int .i64 (yb % 32),.int .i64 y7,.int .i64 y8,.int .i64 y9,.int .i64 (yl + yh * 4294967296)] 62))
              have HRA := Lib.hid (RS.al HRV.out (.cells #[.int .i64 y1,.int .i64 y2,.int .i64 y3,.int .i64 (yb / 64),.bool (decide (yb / 32 % 2 = 1)),.int .i64 y5,.int .i64 (yb % 32),.int .i64 y7,.int .i64 y8,.int .i64 y9,.int .i64 (yl + yh * 4294967296)] 62))
              have HFA : Hid (Fr B9 rb cb wc (wq2.alloc (.cells #[.int .i64 y1,.int .i64 y2,.int .i64 y3,.int .i64 (yb / 64),.bool (decide (yb / 32 % 2 = 1)),.int .i64 y5,.int .i64 (yb % 32),.int .i64 y7,.int .i64 y8,.int .i64 y9,.int .i64 (yl + yh * 4294967296)] 62))) := Fr.al (Fr.grown HG.out) _
              have HNW : Hid (∀ j u,(Px.enc (⟨y1,y2,y3,yb / 64,decide (yb / 32 % 2 = 1),y5,yb % 32,y7,y8,y9,yl + yh * 4294967296⟩ : Px))[j]? = some u → (wq2.alloc (.cells #[.int .i64 y1,.int .i64 y2,.int .i64 y3,.int .i64 (yb / 64),.bool (decide (yb / 32 % 2 = 1)),.int .i64 y5,.int .i64 (yb % 32),.int .i64 y7,.int .i64 y8,.int .i64 y9,.int .i64 (yl + yh * 4294967296)] 62)).cell? ((⟨wq2.heap.size,0,none⟩ : Addr).add j) = some u) := World.news_of_block (heap_alloc_new wq2 _)
              have HONE := Lib.hid (Px.enc_one (⟨y1,y2,y3,yb / 64,decide (yb / 32 % 2 = 1),y5,yb % 32,y7,y8,y9,yl + yh * 4294967296⟩ : Px))
              have hbs : Hid (B9 ≤ (wq2.alloc (.cells #[.int .i64 y1,.int .i64 y2,.int .i64 y3,.int .i64 (yb / 64),.bool (decide (yb / 32 % 2 = 1)),.int .i64 y5,.int .i64 (yb % 32),.int .i64 y7,.int .i64 y8,.int .i64 y9,.int .i64 (yl + yh * 4294967296)] 62)).heap.size) := Nat.le_trans HSZ.out HFA.out.size
              have c3x := lies_cell (lies_grown HCB.out HG.out (by omega)) 5
              obtain ⟨v0,v1,v2,v3,v4,v5,v6,v7,v8,v9,v10⟩ := cells_11 VB.out
              go_wp2_with (first
                | (at_builtin;refine wpList_append_lies _ rfl _ _ 26 (by rfl) B9 62 ii _ 11 88 Tryz.underlying26 hii hzz hs3 hb3' rfl (by omega) rv i _ (by rfl) HOA.out ⟨wq2.heap.size,0,none⟩ 1 1 (Px.enc (⟨y1,y2,y3,yb / 64,decide (yb / 32 % 2 = 1),y5,yb % 32,y7,y8,y9,yl + yh * 4294967296⟩ : Px)) (by rfl) (by rfl) HNW.out HONE.out (by omega) (by unfold maxLen;omega) (by omega) hbs.out _ rfl ?_;intro gq cp w5 hrow5 hg5 hgb5 hgl5
                   (have HC6 := Lib.hid ((hg5.block cb (lies_lt HC5.out) (own_neg HOA.out (by omega))).trans HC5.out))
                   (have hc6 := lies_cell HC6.out 5)
                   (have hf6 := lies_frozen HC6.out 5)))
              have HFX : Hid (Fr B9 rb cb wc (w5.setCell ⟨cb,5,none⟩ (.slice (some ⟨gq,0,none⟩) (i + 1) cp))) := Fr.set (Fr.app HFA.out HOA.out hg5)
              have HRX : Hid (RS 55 (w5.setCell ⟨cb,5,none⟩ (.slice (some ⟨gq,0,none⟩) (i + 1) cp)) rb τA) := RS.keep (RS.keep HRA.out (hg5.block rb HRA.out.lt (own_neg HOA.out (by omega)))) (heap_set_ne (by omega))
              have HCX : Hid ((w5.setCell ⟨cb,5,none⟩ (.slice (some ⟨gq,0,none⟩) (i + 1) cp)).heap[cb]? = some (.cells #[.int .i64 hosts,.slice PA pl pcap,.int .i64 major,.slice WA wl wcap,.slice VA vl vcap,.slice (some ⟨gq,0,none⟩) (i + 1) cp] 28)) := lies_set HC6.out 5 _
              have HZX := Lib.hid ((HFX.out.block resb (by omega) (by omega) (by omega) (lies_lt HZ.out)).trans HZ.out)
              have HBX := Lib.hid (HBW.out.trans (Below.of_fr (B := w.heap.size) HFX.out (by omega) HBW.out.size (by omega) (by omega)))
              have HOX : Hid ((w5.setCell ⟨cb,5,none⟩ (.slice (some ⟨gq,0,none⟩) (i + 1) cp)).ownsRow B9 62 11 (.slice (some ⟨gq,0,none⟩) (i + 1) cp) (i + 1) ((acc ++ [(⟨y1,y2,y3,yb / 64,decide (yb / 32 % 2 = 1),y5,yb % 32,y7,y8,y9,yl + yh * 4294967296⟩ : Px)]).flatMap Px.enc)) := by
                show World.ownsRow _ _ _ _ _ _ _
                rw [List.flatMap_append,List.flatMap_singleton]
                exact own_set hrow5 (by omega)
              have HIPX := Lib.hid (HIP.out.fr HFX.out (by omega) (by omega) (by omega))
              have HIWX := Lib.hid (HIW.out.fr HFX.out (by omega) (by omega) (by omega))
              have HIVX := Lib.hid (HIV.out.fr HFX.out (by omega) (by omega) (by omega))
              have HSX := Lib.hid (Nat.le_trans HSZ.out HFX.out.size)
              clear HRS HCB HZ HBW HSZ HRV HG VB HC5 VB5 HOA HRA HFA HNW HONE hbs c3x HFX HO1 hrow5 hg5 hgb5 hgl5 HC6 hc6 hf6 hii hzz hs3 hb3' ii v0 v1 v2 v3 v4 v5 v6 v7 v8 v9 v10 HIP HIW HIV
              generalize w5.setCell ⟨cb,5,none⟩ (.slice (some ⟨gq,0,none⟩) (i + 1) cp) = Wz at HRX HCX HZX HBX HOX HSX HIPX HIWX HIVX ⊢
              have ha3 : Hid ((PitotImg.portsS (nf - (i + 1)) τA).map (fun r => ((acc ++ [(⟨y1,y2,y3,yb / 64,decide (yb / 32 % 2 = 1),y5,yb % 32,y7,y8,y9,yl + yh * 4294967296⟩ : Px)]).map Px.pl ++ r.1,r.2)) = PT) := by
                show _ = _
                rw [← ha1.out,List.map_append];rfl
              clear ha1
              go_roundw
              case rel => exact ⟨i + 1,τA,acc ++ [(⟨y1,y2,y3,yb / 64,decide (yb / 32 % 2 = 1),y5,yb % 32,y7,y8,y9,yl + yh * 4294967296⟩ : Px)],_,false,by omega,by go_num,by simp [hal],rfl,fun h => by (cases h),ha3,HRX,HCX,HZX,HBX,HSX,HOX,HIPX,HIWX,HIVX⟩
              case measure => simp [intOf];omega
            have hfr : PitotImg.freshF yh yl = yl := by unfold PitotImg.freshF;rw [hwf,if_pos rfl]
            rw [hfr] at HX
            go_upto_region 67 with (fail)
            obtain ⟨Rb,hRb⟩ : ∃ b,(τA.isSome && true) = b := ⟨_,rfl⟩
            refine r67 HRV.out hRb (fun _ _ _ _ _ h => h) ?_
            intro wq2 hwq2 z0 z1 z2 z3 z4 z5 z6
            subst hwq2
            cases Rb
            case true =>
              have hpn : PT = none := by rw [← ha1.out,ports_bad hRg (by rw [HBP];simpa using hRb)];rfl
              have HZX := Lib.hid ((HG.out.block resb (lies_lt HZ.out) (by simp;omega)).trans HZ.out)
              have HBX := Lib.hid (HBW.out.trans (Below.of_grown (B := w.heap.size) HG.out HBW.out.size (by omega)))
              clear HZ HBW
              have HZ := HZX
              have HBW := HBX
              clear HZX HBX
              have HRZ : R = .error 1 := by rw [HRD.out,HSR.out,hpn];rfl
              go_upto_region 68 with (fail)
              refine r68 HZ (fun _ _ _ _ _ h => h) ?_
              intro wd hz hbl z0
              have HBD := Lib.hid (HBW.out.trans (hbl w.heap.size (by omega)))
              obtain ⟨k0,k1,k2,k3,k4,k5⟩ := cells_6 hz
              refine then_n ?_
              go_step
              go_step
              repeat (first | (with_reducible refine then_r ?_) | (with_reducible refine inBlock_r ?_))
              refine bodyPost_ret (by simp [results,Tryz.results9,go_sem,k0,k1,k2,k3,k4,k5];try rfl) rfl ?_
              subst HRZ
              exact ⟨rfl,HBD.out⟩
            obtain ⟨hlt,hgo⟩ := ports_go hRg HX (by rw [HBP];rw [show τA.isSome = false by simpa using hRb];rfl)
            rw [hgo,opt_map] at ha1
            clear hgo hRg HX HBP
            obtain ⟨ii,hii,hzz,hs3,hb3'⟩ := info_parts infoP
            have HC5 := Lib.hid (lies_alloc (o := .cells #[.int .i64 y1,.int .i64 y2,.int .i64 y3,.int .i64 (yb / 64),.bool (decide (yb / 32 % 2 = 1)),.int .i64 y5,.int .i64 (yb % 32),.int .i64 y7,.int .i64 y8,.int .i64 y9,.int .i64 yl] 62) (lies_grown HCB.out HG.out (by omega)))
            have VB5 := Lib.hid (lies_alloc (o := .cells #[.int .i64 y1,.int .i64 y2,.int .i64 y3,.int .i64 (yb / 64),.bool (decide (yb / 32 % 2 = 1)),.int .i64 y5,.int .i64 (yb % 32),.int .i64 y7,.int .i64 y8,.int .i64 y9,.int .i64 yl] 62) VB.out)
            have HOA := Lib.hid ((own_grown HO1.out HG.out (by omega)).alloc (.cells #[.int .i64 y1,.int .i64 y2,.int .i64 y3,.int .i64 (yb / 64),.bool (decide (yb / 32 % 2 = 1)),.int .i64 y5,.int .i64 (yb % 32),.int .i64 y7,.int .i64 y8,.int .i64 y9,.int .i64 yl] 62))
            have HRA := Lib.hid (RS.al HRV.out (.cells #[.int .i64 y1,.int .i64 y2,.int .i64 y3,.int .i64 (yb / 64),.bool (decide (yb / 32 % 2 = 1)),.int .i64 y5,.int .i64 (yb % 32),.int .i64 y7,.int .i64 y8,.int .i64 y9,.int .i64 yl] 62))
            have HFA : Hid (Fr B9 rb cb wc (wq2.alloc (.cells #[.int .i64 y1,.int .i64 y2,.int .i64 y3,.int .i64 (yb / 64),.bool (decide (yb / 32 % 2 = 1)),.int .i64 y5,.int .i64 (yb % 32),.int .i64 y7,.int .i64 y8,.int .i64 y9,.int .i64 yl] 62))) := Fr.al (Fr.grown HG.out) _
            have HNW : Hid (∀ j u,(Px.enc (⟨y1,y2,y3,yb / 64,decide (yb / 32 % 2 = 1),y5,yb % 32,y7,y8,y9,yl⟩ : Px))[j]? = some u → (wq2.alloc (.cells #[.int .i64 y1,.int .i64 y2,.int .i64 y3,.int .i64 (yb / 64),.bool (decide (yb / 32 % 2 = 1)),.int .i64 y5,.int .i64 (yb % 32),.int .i64 y7,.int .i64 y8,.int .i64 y9,.int .i64 yl] 62)).cell? ((⟨wq2.heap.size,0,none⟩ : Addr).add j) = some u) := World.news_of_block (heap_alloc_new wq2 _)
            have HONE := Lib.hid (Px.enc_one (⟨y1,y2,y3,yb / 64,decide (yb / 32 % 2 = 1),y5,yb % 32,y7,y8,y9,yl⟩ : Px))
            have hbs : Hid (B9 ≤ (wq2.alloc (.cells #[.int .i64 y1,.int .i64 y2,.int .i64 y3,.int .i64 (yb / 64),.bool (decide (yb / 32 % 2 = 1)),.int .i64 y5,.int .i64 (yb % 32),.int .i64 y7,.int .i64 y8,.int .i64 y9,.int .i64 yl] 62)).heap.size) := Nat.le_trans HSZ.out HFA.out.size
            have c3x := lies_cell (lies_grown HCB.out HG.out (by omega)) 5
            obtain ⟨v0,v1,v2,v3,v4,v5,v6,v7,v8,v9,v10⟩ := cells_11 VB.out
            go_wp2_with (first
              | (at_builtin;refine wpList_append_lies _ rfl _ _ 26 (by rfl) B9 62 ii _ 11 88 Tryz.underlying26 hii hzz hs3 hb3' rfl (by omega) rv i _ (by rfl) HOA.out ⟨wq2.heap.size,0,none⟩ 1 1 (Px.enc (⟨y1,y2,y3,yb / 64,decide (yb / 32 % 2 = 1),y5,yb % 32,y7,y8,y9,yl⟩ : Px)) (by rfl) (by rfl) HNW.out HONE.out (by omega) (by unfold maxLen;omega) (by omega) hbs.out _ rfl ?_;intro gq cp w5 hrow5 hg5 hgb5 hgl5
                 (have HC6 := Lib.hid ((hg5.block cb (lies_lt HC5.out) (own_neg HOA.out (by omega))).trans HC5.out))
                 (have hc6 := lies_cell HC6.out 5)
                 (have hf6 := lies_frozen HC6.out 5)))
            have HFX : Hid (Fr B9 rb cb wc (w5.setCell ⟨cb,5,none⟩ (.slice (some ⟨gq,0,none⟩) (i + 1) cp))) := Fr.set (Fr.app HFA.out HOA.out hg5)
            have HRX : Hid (RS 55 (w5.setCell ⟨cb,5,none⟩ (.slice (some ⟨gq,0,none⟩) (i + 1) cp)) rb τA) := RS.keep (RS.keep HRA.out (hg5.block rb HRA.out.lt (own_neg HOA.out (by omega)))) (heap_set_ne (by omega))
            have HCX : Hid ((w5.setCell ⟨cb,5,none⟩ (.slice (some ⟨gq,0,none⟩) (i + 1) cp)).heap[cb]? = some (.cells #[.int .i64 hosts,.slice PA pl pcap,.int .i64 major,.slice WA wl wcap,.slice VA vl vcap,.slice (some ⟨gq,0,none⟩) (i + 1) cp] 28)) := lies_set HC6.out 5 _
            have HZX := Lib.hid ((HFX.out.block resb (by omega) (by omega) (by omega) (lies_lt HZ.out)).trans HZ.out)
            have HBX := Lib.hid (HBW.out.trans (Below.of_fr (B := w.heap.size) HFX.out (by omega) HBW.out.size (by omega) (by omega)))
            have HOX : Hid ((w5.setCell ⟨cb,5,none⟩ (.slice (some ⟨gq,0,none⟩) (i + 1) cp)).ownsRow B9 62 11 (.slice (some ⟨gq,0,none⟩) (i + 1) cp) (i + 1) ((acc ++ [(⟨y1,y2,y3,yb / 64,decide (yb / 32 % 2 = 1),y5,yb % 32,y7,y8,y9,yl⟩ : Px)]).flatMap Px.enc)) := by
              show World.ownsRow _ _ _ _ _ _ _
              rw [List.flatMap_append,List.flatMap_singleton]
              exact own_set hrow5 (by omega)
            have HIPX := Lib.hid (HIP.out.fr HFX.out (by omega) (by omega) (by omega))
            have HIWX := Lib.hid (HIW.out.fr HFX.out (by omega) (by omega) (by omega))
            have HIVX := Lib.hid (HIV.out.fr HFX.out (by omega) (by omega) (by omega))
            have HSX := Lib.hid (Nat.le_trans HSZ.out HFX.out.size)
            clear HRS HCB HZ HBW HSZ HRV HG VB HC5 VB5 HOA HRA HFA HNW HONE hbs c3x HFX HO1 hrow5 hg5 hgb5 hgl5 HC6 hc6 hf6 hii hzz hs3 hb3' ii v0 v1 v2 v3 v4 v5 v6 v7 v8 v9 v10 HIP HIW HIV
            generalize w5.setCell ⟨cb,5,none⟩ (.slice (some ⟨gq,0,none⟩) (i + 1) cp) = Wz at HRX HCX HZX HBX HOX HSX HIPX HIWX HIVX ⊢
            have ha3 : Hid ((PitotImg.portsS (nf - (i + 1)) τA).map (fun r => ((acc ++ [(⟨y1,y2,y3,yb / 64,decide (yb / 32 % 2 = 1),y5,yb % 32,y7,y8,y9,yl⟩ : Px)]).map Px.pl ++ r.1,r.2)) = PT) := by
              show _ = _
              rw [← ha1.out,List.map_append];rfl
            clear ha1
            go_roundw
            case rel => exact ⟨i + 1,τA,acc ++ [(⟨y1,y2,y3,yb / 64,decide (yb / 32 % 2 = 1),y5,yb % 32,y7,y8,y9,yl⟩ : Px)],_,true,by omega,by go_num,by simp [hal],rfl,fun _ => by (have h2 : τA.isSome = false := by simpa using hRb);(cases τA with | none => rfl | some l => cases h2),ha3,HRX,HCX,HZX,HBX,HSX,HOX,HIPX,HIWX,HIVX⟩
            case measure => simp [intOf];omega
          rw [ports_end hRg hi] at ha1
          have ha1 : PT = some (acc.map Px.pl,σ) := by rw [← ha1.out];simp
          rw [ha1] at HSR
          obtain ⟨QA,qcap,hrv,HIQ0⟩ := Pxs_row HO1.out hal.symm
          subst hrv
          have HIQ := Lib.hid HIQ0
          clear HIQ0 HO1 hRg
          cases σ with
          | none =>
            have hE := HRS.out.er
            have hE : wc.cell? ⟨rb,1,none⟩ = some (.int .i64 10) := hE
            go_upto_region 71 with (fail)
            refine r71 HRS HZ (Lib.hid (by omega)) (fun _ _ _ _ _ h => h) ?_
            intro wd hz hbl z0 z1 z2 z3 z4
            have HRZ : R = .error 10 := by rw [HRD.out,HSR.out];rfl
            have HBD := Lib.hid (HBW.out.trans (hbl w.heap.size (by omega)))
            obtain ⟨k0,k1,k2,k3,k4,k5⟩ := cells_6 hz
            refine then_n ?_
            go_step
            go_step
            repeat (first | (with_reducible refine then_r ?_) | (with_reducible refine inBlock_r ?_))
            refine bodyPost_ret (by simp [results,Tryz.results9,go_sem,k0,k1,k2,k3,k4,k5];try rfl) rfl ?_
            subst HRZ
            exact ⟨rfl,HBD.out⟩
          | some l =>
            have hE := HRS.out.er
            have hE : wc.cell? ⟨rb,1,none⟩ = some (.int .i64 0) := hE
            obtain ⟨hl0,hl1⟩ := HRS.out.sm
            obtain ⟨LS,HLS⟩ : ∃ S : ByteArray,Hid (S = ⟨l.toArray⟩) := ⟨_,Lib.hid rfl⟩
            have hS : wc.cell? ⟨rb,0,none⟩ = some (.string LS) := by rw [HLS.out];exact lies_cell hl0 0
            clear hl0 hl1
            obtain ⟨q,hq⟩ : ∃ q,(LS.toList == ([] : List UInt8)) = q := ⟨_,rfl⟩
            have HQL : Hid (q = decide (l = [])) := by
              show _ = _
              rw [← hq,HLS.out,Bool.eq_iff_iff,beq_iff_eq,decide_eq_true_eq,ByteArray.toList_eq]
            have HSR2 : Hid (PitotImg.sread u = .ok (⟨hosts,parts,major,winsP,vlsP,acc.map Px.pl⟩,l)) := HSR.out
            clear HSR
            have hLT : LS.toList = l := by rw [HLS.out,ByteArray.toList_eq]
            have HLT := Lib.hid hLT
            clear hLT
            by_cases hl : l = []
            case neg =>
              have hqf : q = false := by rw [HQL.out];exact decide_eq_false hl
              subst hqf
              have q3 : ¬ LS.toList = [] := by rw [HLT.out];exact hl
              have q2 : LS.toList.isEmpty = false := by simpa using q3
              have q4 : (LS.toList != ([] : List UInt8)) = true := by simpa using q3
              have HHL := Lib.hid hl
              clear hl
              have HRZ : R = .error (11) := by rw [HRD.out,HSR2.out];unfold PitotImg.fin;simp only;rw [if_pos HHL.out]
              have f0 := lies_frozen HZ.out 0
              have f1 := lies_frozen HZ.out 1
              have f2 := lies_frozen HZ.out 2
              have f3 := lies_frozen HZ.out 3
              have f4 := lies_frozen HZ.out 4
              have f5 := lies_frozen HZ.out 5
              obtain ⟨r0,r1,r2,r3,r4,r5⟩ := cells_6 HZ.out
              have hbz := build_cf
              repeat (first | (with_reducible refine then_n ?_) | (with_reducible refine then_r ?_) | (with_reducible refine inBlock_r ?_) | go_step)
              obtain ⟨k0,k1,k2,k3,k4,k5,_⟩ := read_6 (y0 := .int .i64 0) (y1 := .slice none 0 0) (y2 := .int .i64 0) (y3 := .slice none 0 0) (y4 := .slice none 0 0) (y5 := .slice none 0 0) HZ.out
              refine bodyPost_ret (by simp [results,Tryz.results9,go_sem,k0,k1,k2,k3,k4,k5];try rfl) rfl ?_
              subst HRZ
              exact ⟨rfl,below_6 HBW.out (by omega) _ _ _ _ _ _⟩
            have hqt : q = true := by rw [HQL.out];exact decide_eq_true hl
            subst hqt
            subst hl
            have q3 : LS.toList = [] := HLT.out
            have q2 : LS.toList.isEmpty = true := by rw [q3];rfl
            have q4 : (LS.toList != ([] : List UInt8)) = false := by rw [q3];rfl
            clear HLT
            obtain ⟨cx,hcx⟩ : ∃ c : Cx,c = ⟨hosts,PA,pcap,parts,major,WA,wcap,wins,VA,vcap,vls,QA,qcap,acc⟩ := ⟨_,rfl⟩
            have hpl2 : cx.pl = ⟨hosts,parts,major,winsP,vlsP,acc.map Px.pl⟩ := by rw [hcx,← HWP.out,← HVP.out];rfl
            have hpl3 : PitotImg.cfR u = .ok (cx.pl,[]) := by rw [hpl2,← PitotImg.sread_eq];exact HSR2.out
            obtain ⟨b0,b1,b2,b3,b4,b5⟩ := PitotImg.cf_read hpl3 hul
            have hsm : Sm cx := sm_of cx b0 b1 (by simpa [Cx.pl] using b2) (by simpa [Cx.pl] using b3) (by simpa [Cx.pl] using b4) (fun v hv => b5 v.pl (List.mem_map_of_mem hv))
            have hch : cx.Held wc := by rw [hcx];exact ⟨HIP.out.at,HIW.out.at,HIV.out.at,HIQ.out.at⟩
            obtain ⟨a1,a2,a3,hck⟩ : ∃ a b c,PitotConf.check cx.pl = (a,b,c) := ⟨_,_,_,rfl⟩
            have hck0 := refCheck_any cx hsm wc hch
            rw [hck] at hck0
            have HCK : Hid (Calls Tryz.prog 21 #[.agg #[.int .i64 hosts,.slice PA pl pcap,.int .i64 major,.slice WA wl wcap,.slice VA vl vcap,.slice QA acc.length qcap]] wc fun e w' => e = .returned (.tuple #[.int .i64 a1,.int .i64 a2,.int .i64 a3]) ∧ Below wc.heap.size wc w') := by
              show Calls _ _ _ _ _
              rw [← hpl,← hwl,← hvl]
              rw [hcx] at hck0
              exact hck0
            have HRZ0 : Hid (R = if a3 ≠ 0 then .error a3 else .ok cx.pl) := by
              show _ = _
              rw [HRD.out,HSR2.out,← hpl2]
              unfold PitotImg.fin
              simp only [hck]
              rfl
            have HCX := Lib.hid hcx
            have HPL := Lib.hid hpl
            have HWL := Lib.hid hwl
            have HVL := Lib.hid hvl
            clear hck0 hck b0 b1 b2 b3 b4 b5 hpl3 hpl2 hsm hcx hch HSR2 HRD hpl hwl hvl hal
            obtain ⟨qn,hqn⟩ : ∃ n,acc.length = n := ⟨_,rfl⟩
            rw [hqn] at HCK HCB
            have HQN := Lib.hid hqn
            clear hqn
            clear c0 c1 c2 c3 c4 c5
            obtain ⟨c0,c1,c2,c3,c4,c5⟩ := cells_6 HCB.out
            go_upto_region 75 with (go_at_call 21;(with_reducible refine (HCK.out).mono ?_);rintro e w2 ⟨rfl,hb2⟩)
            have HZX := Lib.hid (lies_below HZ.out hb2 (lies_lt HZ.out))
            have HCY := Lib.hid (lies_below HCB.out hb2 (lies_lt HCB.out))
            have HBX := Lib.hid (HBW.out.trans (hb2.mono HBW.out.size))
            have HFF : Hid (Fr wc.heap.size rb resb wc w2) := Fr.of_below hb2
            clear HZ HCB HBW hb2 c0 c1 c2 c3 c4 c5 HCK hS hE
            have HZ := HZX
            have HBW := HBX
            clear HZX HBX
            obtain ⟨c0,c1,c2,c3,c4,c5⟩ := cells_6 HCY.out
            by_cases hz3 : a3 = 0
            case neg =>
              have g3 : (a3 == 0) = false := by simpa using hz3
              have g3' : (a3 != 0) = true := by simpa using hz3
              have HRZ : R = .error (a3) := by rw [HRZ0.out,if_pos hz3]
              have f0 := lies_frozen HZ.out 0
              have f1 := lies_frozen HZ.out 1
              have f2 := lies_frozen HZ.out 2
              have f3 := lies_frozen HZ.out 3
              have f4 := lies_frozen HZ.out 4
              have f5 := lies_frozen HZ.out 5
              obtain ⟨r0,r1,r2,r3,r4,r5⟩ := cells_6 HZ.out
              have hbz := build_cf
              repeat (first | (with_reducible refine then_n ?_) | (with_reducible refine then_r ?_) | (with_reducible refine inBlock_r ?_) | go_step)
              obtain ⟨k0,k1,k2,k3,k4,k5,_⟩ := read_6 (y0 := .int .i64 0) (y1 := .slice none 0 0) (y2 := .int .i64 0) (y3 := .slice none 0 0) (y4 := .slice none 0 0) (y5 := .slice none 0 0) HZ.out
              refine bodyPost_ret (by simp [results,Tryz.results9,go_sem,k0,k1,k2,k3,k4,k5];try rfl) rfl ?_
              subst HRZ
              exact ⟨rfl,below_6 HBW.out (by omega) _ _ _ _ _ _⟩
            have g3 : (a3 == 0) = true := by simpa using hz3
            have g3' : (a3 != 0) = false := by simpa using hz3
            have HRZ : R = .ok cx.pl := by rw [HRZ0.out,if_neg (by simpa using hz3)]
            have HZ3 := Lib.hid hz3
            clear hz3
            have f0 := lies_frozen HZ.out 0
            have f1 := lies_frozen HZ.out 1
            have f2 := lies_frozen HZ.out 2
            have f3 := lies_frozen HZ.out 3
            have f4 := lies_frozen HZ.out 4
            have f5 := lies_frozen HZ.out 5
            obtain ⟨r0,r1,r2,r3,r4,r5⟩ := cells_6 HZ.out
            have HRZ1 := Lib.hid HRZ
            clear HRZ
            repeat (first | (with_reducible refine then_n ?_) | (with_reducible refine then_r ?_) | (with_reducible refine inBlock_r ?_) | go_step)
            obtain ⟨k0,k1,k2,k3,k4,k5,_⟩ := read_6 (y0 := .int .i64 hosts) (y1 := .slice PA pl pcap) (y2 := .int .i64 major) (y3 := .slice WA wl wcap) (y4 := .slice VA vl vcap) (y5 := .slice QA qn qcap) HZ.out
            refine bodyPost_ret (by simp [results,Tryz.results9,go_sem,k0,k1,k2,k3,k4,k5];try rfl) rfl ?_
            have HRZ := HRZ1.out
            subst HRZ
            have hf6 : Fr wc.heap.size rb resb wc ((((((w2.setCell ⟨resb,0,none⟩ (.int .i64 hosts)).setCell ⟨resb,1,none⟩ (.slice PA pl pcap)).setCell ⟨resb,2,none⟩ (.int .i64 major)).setCell ⟨resb,3,none⟩ (.slice WA wl wcap)).setCell ⟨resb,4,none⟩ (.slice VA vl vcap)).setCell ⟨resb,5,none⟩ (.slice QA qn qcap)) := (((((HFF.out.set).set).set).set).set).set
            refine ⟨⟨cx,rfl,?_,?_⟩,below_6 HBW.out (by omega) _ _ _ _ _ _⟩
            · rw [HCX.out]
              have hsz := HSZ.out
              exact ⟨(HIP.out.fr hf6 (by omega) (by omega) (by omega)).at,(HIW.out.fr hf6 (by omega) (by omega) (by omega)).at,(HIV.out.fr hf6 (by omega) (by omega) (by omega)).at,(HIQ.out.fr hf6 (by omega) (by omega) (by omega)).at⟩
            · rw [HCX.out]
              show _ = Ending.returned (.tuple #[.agg #[.int .i64 hosts,.slice PA parts.length pcap,.int .i64 major,.slice WA wins.length wcap,.slice VA vls.length vcap,.slice QA acc.length qcap],.int .i64 0])
              rw [HPL.out,HWL.out,HVL.out,HQN.out]
end Go.Proofs.YtdgkanamceeheaaGreat.Im
