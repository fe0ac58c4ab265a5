/- The program's reader: lists of links. -/
import Derived.Test.YtdgkanamceeheaaGreatK36
set_option linter.unusedVariables false
set_option maxRecDepth 100000
set_option linter.unusedVariables false
namespace Go.Proofs.YtdgkanamceeheaaGreat.Im
open Go.RowKit
open PitotImg (St rd)
def VRg (B : Nat) (y1 y2 q0 y4 : Int) (bq : Bool) (q2 y5 : Int) (tos : List Int) (e : Ending) (w' : World) : Prop := ∃ TA tcap,e = .returned (.agg #[.int .i64 y1,.int .i64 y2,.int .i64 q0,.int .i64 y4,.bool bq,.int .i64 q2,.int .i64 y5,.slice TA tos.length tcap]) ∧ IntsIn B w'.heap.size w' TA tos
theorem TosIn.app2 {lo g m cap : Nat} {w w' : World} {v : Value} {xs : List Vx} (x : Vx) (A : Option Addr) (to_ : List Int) (h : TosIn lo w v xs) (e1 : x.toA = A) (e2 : x.to = to_) (o : Obj)
    (hx : to_ ≠ [] → ∃ b,A = some ⟨b,0,none⟩ ∧ lo ≤ b ∧ b < w.heap.size ∧ some b ≠ v.ownBlock ∧ ∀ i (h : i < to_.length),w.cell? ⟨b,i,none⟩ = some (.int .i64 to_[i]))
    (hg : (w.alloc o).grownBy w' v.ownBlock) (hat : v.ownBlock = some g ∨ g = (w.alloc o).heap.size) : TosIn lo w' (.slice (some ⟨g,0,none⟩) m cap) (xs ++ [x]) := by
  subst e1 e2
  have h0 : TosIn lo (w.alloc o) v xs := fun y hy hne => by
    obtain ⟨b,g1,g2,g3,g4,g5⟩ := h y hy hne
    exact ⟨b,g1,g2,by rw [World.size_alloc];omega,g4,fun i hi => (cell_of_block (Below.heap_alloc w o b g3)).trans (g5 i hi)⟩
  exact TosIn.snoc h0 (fun hne => by
    obtain ⟨b,g1,g2,g3,g4,g5⟩ := hx hne
    exact ⟨b,g1,g2,by rw [World.size_alloc];omega,g4,fun i hi => (cell_of_block (Below.heap_alloc w o b g3)).trans (g5 i hi)⟩) hg hat rfl
set_option maxHeartbeats 4000000 in
theorem c2_any (y1 y2 q0 y4 : Int) (bq : Bool) (q2 y5 : Int) (tos : List Int) (σe : St) (p r kb : Nat) (σ : St) (w : World) (h : PS w p r 0 σ) (hpr : p ≠ r) (hK : w.heap[kb]? = some (.cells #[.pointer (some ⟨p,0,none⟩)] 46))
    (HC0 : ∀ w,PS w p r 0 σ → Calls Tryz.prog 46 #[.pointer (some ⟨p,0,none⟩)] w fun e w' => VRg w.heap.size y1 y2 q0 y4 bq q2 y5 tos e w' ∧ PS w' p r 0 σe ∧ Fr w.heap.size r p w w') :
    Calls Tryz.prog 45 #[.pointer (some ⟨kb,0,none⟩)] w fun e w' => VRg w.heap.size y1 y2 q0 y4 bq q2 y5 tos e w' ∧ PS w' p r 0 σe ∧ Fr w.heap.size r p w w' := by
  have HC := Lib.hid HC0
  have HS : Hid (PS (w.alloc (.cells #[.int .i64 0,.int .i64 0,.int .i64 0,.int .i64 0,.bool false,.int .i64 0,.int .i64 0,.slice none 0 0] 60)) p r 0 σ) := ⟨lies_alloc h.1 _,RS.al h.2 _⟩
  have k0 : (w.alloc (.cells #[.int .i64 0,.int .i64 0,.int .i64 0,.int .i64 0,.bool false,.int .i64 0,.int .i64 0,.slice none 0 0] 60)).cell? ⟨kb,0,none⟩ = some (.pointer (some ⟨p,0,none⟩)) := lies_cell (lies_alloc hK _) 0
  have HF : Hid (Fr w.heap.size r p w (w.alloc (.cells #[.int .i64 0,.int .i64 0,.int .i64 0,.int .i64 0,.bool false,.int .i64 0,.int .i64 0,.slice none 0 0] 60))) := Fr.al Fr.refl _
  have VB : Hid ((w.alloc (.cells #[.int .i64 0,.int .i64 0,.int .i64 0,.int .i64 0,.bool false,.int .i64 0,.int .i64 0,.slice none 0 0] 60)).heap[w.heap.size]? = some (.cells #[.int .i64 0,.int .i64 0,.int .i64 0,.int .i64 0,.bool false,.int .i64 0,.int .i64 0,.slice none 0 0] 60)) := heap_alloc_new w _
  have hsz : (w.alloc (.cells #[.int .i64 0,.int .i64 0,.int .i64 0,.int .i64 0,.bool false,.int .i64 0,.int .i64 0,.slice none 0 0] 60)).heap.size = w.heap.size + 1 := World.size_alloc _ _
  have hpw := lies_lt h.1
  have hrw := h.2.lt
  have hzz := zero_vl
  clear h HC0 hK
  go_enter Tryz.func45,Tryz.ntmps45
  go_upto_region 1 with (fail)
  obtain ⟨W1,hW1⟩ : ∃ W,w.alloc (.cells #[.int .i64 0,.int .i64 0,.int .i64 0,.int .i64 0,.bool false,.int .i64 0,.int .i64 0,.slice none 0 0] 60) = W := ⟨_,rfl⟩
  rw [hW1] at HS HF VB k0 hsz ⊢
  clear hW1
  obtain ⟨vb,hvb⟩ : ∃ n,w.heap.size = n := ⟨_,rfl⟩
  rw [hvb] at HF VB hpw hrw hsz ⊢
  have HHB := Lib.hid hvb
  have HSZ := Lib.hid hsz
  clear hvb hsz
  go_wp2_with (first
    | (go_at_call 46;(with_reducible refine (HC.out _ HS.out).mono ?_);rintro e w2 ⟨⟨TA,tcap,rfl,hin⟩,hs2,hf2⟩
       (have HS2 := Lib.hid hs2)
       (have HIN := Lib.hid hin)
       (have HF2 : Hid (Fr vb r p w w2) := HF.out.trans (hf2.mono (by have := HSZ.out;omega)))
       (have VB2 := Lib.hid ((hf2.block vb (by have := HSZ.out;omega) (by omega) (by omega) (lies_lt VB.out)).trans VB.out))
       (clear hs2 hf2 hin HS HF VB k0 HC)
       (have VB := VB2)
       (clear VB2)
       (have f0 := lies_frozen VB.out 0)
       (have f1 := lies_frozen VB.out 1)
       (have f2 := lies_frozen VB.out 2)
       (have f3 := lies_frozen VB.out 3)
       (have f4 := lies_frozen VB.out 4)
       (have f5 := lies_frozen VB.out 5)
       (have f6 := lies_frozen VB.out 6)
       (have f7 := lies_frozen VB.out 7)
       (obtain ⟨q0_,q1_,q2_,q3_,q4_,q5_,q6_,q7_⟩ := cells_8 VB.out)))
  (try simp only [Exit.inBlock,Exit.then])
  obtain ⟨k0,k1,k2,k3,k4,k5,k6,k7,_⟩ := read_8 (y0 := .int .i64 y1) (y1 := .int .i64 y2) (y2 := .int .i64 q0) (y3 := .int .i64 y4) (y4 := .bool bq) (y5 := .int .i64 q2) (y6 := .int .i64 y5) (y7 := .slice TA tos.length tcap) VB.out
  refine bodyPost_ret (by simp [results,Tryz.results45,go_sem,k0,k1,k2,k3,k4,k5,k6,k7];try rfl) rfl ?_
  rw [HHB.out]
  refine ⟨⟨TA,tcap,rfl,?_⟩,⟨(far_8 (by omega)).trans HS2.out.1,RS.keep HS2.out.2 (far_8 (by omega))⟩,frs_8 HF2.out (Nat.le_refl _)⟩
  have F8 : Fr w2.heap.size r vb w2 ((((((((w2.setCell ⟨vb,0,none⟩ (.int .i64 y1)).setCell ⟨vb,1,none⟩ (.int .i64 y2)).setCell ⟨vb,2,none⟩ (.int .i64 q0)).setCell ⟨vb,3,none⟩ (.int .i64 y4)).setCell ⟨vb,4,none⟩ (.bool bq)).setCell ⟨vb,5,none⟩ (.int .i64 q2)).setCell ⟨vb,6,none⟩ (.int .i64 y5)).setCell ⟨vb,7,none⟩ (.slice TA tos.length tcap)) := Fr.set (Fr.set (Fr.set (Fr.set (Fr.set (Fr.set (Fr.set (Fr.set Fr.refl)))))))
  have hsz := HSZ.out
  exact (HIN.out.fr F8 (Nat.le_refl _) (by omega) (by omega)).mono (by omega) F8.size
set_option maxHeartbeats 4000000 in
theorem rlistV (p r kb n : Nat) (σ0 σ1 σ' : St) (l : List PitotConf.Vl) (w : World) (h : PS w p r 0 σ0) (hpr : p ≠ r) (hK : w.heap[kb]? = some (.cells #[.pointer (some ⟨p,0,none⟩)] 46)) (hkr : kb ≠ r) (hkp : kb ≠ p) (h1 : rd 2 σ0 = ((n : Int),σ1)) (h2 : PitotImg.manyS PitotImg.vlS n σ1 = (l,σ')) :
    Calls Tryz.prog 44 #[.pointer (some ⟨p,0,none⟩),.func (.func 45) #[] #[.pointer (some ⟨kb,0,none⟩)]] w fun e w' => Lst VxsIn w.heap.size (fun xs => xs.map Vx.pl = l) e w' ∧ PS w' p r 0 σ' ∧ Fr w.heap.size r p w w' := by
  have HN1 := Lib.hid (pU16_of (r := r) h1)
  have hnb := rd_ge h1
  have hN : n < 65536 := by have : (n : Int) < 65536 := hnb.2;omega
  have HPR := Lib.hid hpr
  have HP : Hid (w.heap[p]? = some (.cells #[.pointer (some ⟨r,0,none⟩),.int .i64 0] 50)) := h.1
  have HR : Hid (RS 82 w r σ0) := h.2
  have H2 := Lib.hid h2
  have HK : Hid (w.heap[kb]? = some (.cells #[.pointer (some ⟨p,0,none⟩)] 46)) := hK
  have hkw := lies_lt hK
  have hpw := lies_lt h.1
  have hrw := h.2.lt
  have c0 := lies_cell h.1 0
  clear h hpr h1 h2 hnb
  go_enter Tryz.func44,Tryz.ntmps44
  go_wp2_with (go_at_call 38;(with_reducible refine (HN1.out _ HR.out).mono ?_);rintro e w2 ⟨rfl,hw2,hg2⟩)
  have HP2 := Lib.hid (lies_grown HP.out hg2 HPR.out)
  have HR2 := Lib.hid hw2
  have HF2 : Hid (Fr w.heap.size r p w w2) := Fr.grown hg2
  have HK2 := Lib.hid (lies_grown HK.out hg2 hkr)
  obtain ⟨B,hB⟩ : ∃ n,w.heap.size = n := ⟨_,rfl⟩
  rw [hB] at HF2 hpw hrw hkw
  have HBB := Lib.hid hB
  clear HP HR hw2 hg2 c0 HN1 hB HK hK
  have HOW : Hid (w2.ownsRow B 60 8 (.slice none 0 0) 0 ([])) := World.ownsRow_nil _ _ _ _
  go_loopw [5,11] (fun v5 v11 wr => ∃ (i : Nat) (σ : St) (acc : List Vx),i ≤ n ∧ v11 = .int .i64 i ∧ acc.length = i ∧ Hid (acc.map Vx.pl ++ (PitotImg.manyS PitotImg.vlS (n - i) σ).1 = l) ∧ Hid ((PitotImg.manyS PitotImg.vlS (n - i) σ).2 = σ') ∧ Hid (wr.heap[p]? = some (.cells #[.pointer (some ⟨r,0,none⟩),.int .i64 0] 50)) ∧ Hid (RS 82 wr r σ) ∧ Hid (Fr B r p w wr) ∧ Hid (wr.ownsRow B 60 8 v5 i (acc.flatMap Vx.enc)) ∧ Hid (wr.heap[kb]? = some (.cells #[.pointer (some ⟨p,0,none⟩)] 46)) ∧ Hid (TosIn B wr v5 acc)) (fun _ v11 _ => n - (intOf v11).toNat)
  case atStart => exact ⟨0,σ1,[],Nat.zero_le _,rfl,rfl,by show _ = _;rw [Nat.sub_zero,H2.out];rfl,by show _ = _;rw [Nat.sub_zero,H2.out],HP2,HR2,HF2,HOW,HK2,fun x hx => (by cases hx)⟩
  case round =>
    obtain ⟨i,σ,acc,hi,rfl,hal,ha1,ha2,HP,HR,HF,HO,HK,HT⟩ := hrel
    clear HP2 HR2 HF2 HOW HK2
    have HE := Lib.hid (perr_any p r 0 σ wr ⟨HP.out,HR.out⟩)
    obtain ⟨Rg,hRg⟩ : ∃ R,(decide (i < n) && σ.isSome) = R := ⟨_,rfl⟩
    cases Rg
    case true =>
      have hlt : i < n := by
        have h := hRg
        simp only [Bool.and_eq_true,decide_eq_true_eq] at h
        exact h.1
      have e1 : decide ((i : Int) < (n : Int)) = true := decide_eq_true (by omega)
      have e1' : decide (i < n) = true := decide_eq_true hlt
      have HE2 : Hid (Calls Tryz.prog 50 #[.pointer (some ⟨p,0,none⟩)] wr fun e w' => e = .returned (.int .i64 0) ∧ wr = w') := by
        have h := HE.out
        cases σ with
        | none => simp at hRg
        | some l => exact h
      clear HE
      obtain ⟨y1,τ1,HE1⟩ := rd_of 2 σ
      obtain ⟨y2,τ2,HE3⟩ := rd_of 2 τ1
      obtain ⟨yb,τ3,HE4⟩ := rd_of 1 τ2
      obtain ⟨y4,τ4,HE5⟩ := rd_of 2 τ3
      obtain ⟨y5,τ5,HE6⟩ := rd_of 4 τ4
      obtain ⟨ym,τ6,HE7⟩ := rd_of 2 τ5
      have hbu := rd_ge HE7.out
      obtain ⟨nu,hnu⟩ : ∃ n : Nat,ym = (n : Int) := ⟨ym.toNat,by omega⟩
      rw [hnu] at HE7
      obtain ⟨tos,τ7,HE8⟩ : ∃ l σ',Hid (PitotImg.manyS (rd 2) nu τ6 = (l,σ')) := ⟨_,_,Lib.hid rfl⟩
      obtain ⟨q0,hq0⟩ : ∃ q,yb / 16 = q := ⟨_,rfl⟩
      obtain ⟨q2,hq2⟩ : ∃ q,yb % 8 = q := ⟨_,rfl⟩
      obtain ⟨bq,hbq⟩ : ∃ b,decide (yb / 8 % 2 = 1) = b := ⟨_,rfl⟩
      have HX : Hid (PitotImg.vlS σ = (⟨y1,y2,q0,y4,bq,q2,y5,tos⟩,τ7)) := by
        show _ = _
        rw [← hq0,← hq2,← hbq]
        have e7 : PitotImg.manyS (rd 2) ((nu : Int)).toNat τ6 = (tos,τ7) := by rw [Int.toNat_natCast];exact HE8.out
        unfold PitotImg.vlS PitotImg.vlT
        simp only [HE1.out,HE3.out,HE4.out,HE5.out,HE6.out,HE7.out,e7]
      have HNv : Hid (∀ w,PS w p r 0 σ → w.heap[kb]? = some (.cells #[.pointer (some ⟨p,0,none⟩)] 46) → Calls Tryz.prog 45 #[.pointer (some ⟨kb,0,none⟩)] w fun e w' => VRg w.heap.size y1 y2 q0 y4 bq q2 y5 tos e w' ∧ PS w' p r 0 τ7 ∧ Fr w.heap.size r p w w') := fun w hs hk => c2_any y1 y2 q0 y4 bq q2 y5 tos τ7 p r kb σ w hs HPR.out hk (fun w hs => by
        rw [← hq0,← hq2,← hbq]
        exact rvl_any p r nu y1 y2 yb y4 y5 tos σ τ1 τ2 τ3 τ4 τ5 τ6 τ7 w hs HPR.out HE1.out HE3.out HE4.out HE5.out HE6.out HE7.out HE8.out)
      clear hq0 hq2 hbq hnu hbu
      have HGO := Lib.hid (many_go (p := PitotImg.vlS) hRg HX.out)
      have HGO1 := HGO.out.2
      rw [HGO1] at ha1 ha2
      clear HGO HGO1 hRg
      obtain ⟨ii,hii,hzz,hs3,hb3'⟩ := info_parts infoV
      go_wp2_with (first
        | (go_at_call 50;(with_reducible refine (HE2.out).mono ?_);rintro e w' ⟨rfl,rfl⟩)
        | (go_at_call 45;(with_reducible refine (HNv.out _ (ps_mk HP.out HR.out) HK.out).mono ?_);rintro e V ⟨⟨TA,tcap,rfl,hin⟩,hw,hf⟩
           (have hHO : ∀ k,u5.ownBlock = some k → k < wr.heap.size := fun k hk => (HO.out.lt k hk).2)
           (have HTV : Hid (TosIn B V u5 acc) := HT.out.frm hf (Nat.le_refl _) (by omega) (.inl (by omega)))
           (have hBw : B ≤ wr.heap.size := by (have h1 := HF.out.size);(have h2 := HBB.out);omega)
           (have HTN : Hid (tos ≠ [] → ∃ b,TA = some ⟨b,0,none⟩ ∧ B ≤ b ∧ b < V.heap.size ∧ some b ≠ u5.ownBlock ∧ ∀ i (h : i < tos.length),V.cell? ⟨b,i,none⟩ = some (.int .i64 tos[i])) := fun hne => by
              obtain ⟨b,g1,g2,g3,g4,g5⟩ := hin hne
              exact ⟨b,g1,by omega,g4,fun e => by (have := hHO b e.symm);omega,g5⟩)
           (clear hHO hBw hin HT)
           (have HPV := Lib.hid hw.1)
           (have HRV := Lib.hid hw.2)
           (have HFV := Lib.hid (HF.out.trans (hf.mono (by (have h1 := HF.out.size);(have h2 := HBB.out);omega))))
           (have HOV := Lib.hid (own_fr HO.out hf (Nat.le_refl _) (by omega) (.inl (by omega))))
           (have HKV := Lib.hid ((hf.block kb (lies_lt HK.out) hkr hkp (lies_lt HK.out)).trans HK.out))
           (have HKA := Lib.hid (lies_alloc (o := .cells #[.int .i64 y1,.int .i64 y2,.int .i64 q0,.int .i64 y4,.bool bq,.int .i64 q2,.int .i64 y5,.slice TA tos.length tcap] 60) HKV.out))
           (clear HP HR HF HO HK hw hf)
           (have HPA := Lib.hid (lies_alloc (o := .cells #[.int .i64 y1,.int .i64 y2,.int .i64 q0,.int .i64 y4,.bool bq,.int .i64 q2,.int .i64 y5,.slice TA tos.length tcap] 60) HPV.out))
           (have HRA := Lib.hid (RS.al HRV.out (.cells #[.int .i64 y1,.int .i64 y2,.int .i64 q0,.int .i64 y4,.bool bq,.int .i64 q2,.int .i64 y5,.slice TA tos.length tcap] 60)))
           (have HFA := Lib.hid (Fr.al HFV.out (.cells #[.int .i64 y1,.int .i64 y2,.int .i64 q0,.int .i64 y4,.bool bq,.int .i64 q2,.int .i64 y5,.slice TA tos.length tcap] 60)))
           (have HOA := Lib.hid (HOV.out.alloc (.cells #[.int .i64 y1,.int .i64 y2,.int .i64 q0,.int .i64 y4,.bool bq,.int .i64 q2,.int .i64 y5,.slice TA tos.length tcap] 60)))
           (have HNW : Hid (∀ j u,(Vx.enc ⟨y1,y2,q0,y4,bq,q2,y5,TA,tcap,tos⟩)[j]? = some u → (V.alloc (.cells #[.int .i64 y1,.int .i64 y2,.int .i64 q0,.int .i64 y4,.bool bq,.int .i64 q2,.int .i64 y5,.slice TA tos.length tcap] 60)).cell? ((⟨V.heap.size,0,none⟩ : Addr).add j) = some u) := World.news_of_block (heap_alloc_new V _))
           (have HONE : Hid (∀ u ∈ (Vx.enc ⟨y1,y2,q0,y4,bq,q2,y5,TA,tcap,tos⟩),u.oneCell' = true) := Vx.enc_one _)
           (have hbs : Hid (B ≤ (V.alloc (.cells #[.int .i64 y1,.int .i64 y2,.int .i64 q0,.int .i64 y4,.bool bq,.int .i64 q2,.int .i64 y5,.slice TA tos.length tcap] 60)).heap.size) := by (have h1 := HFA.out.size);(have h2 := HBB.out);show _ ≤ _;omega)
)
        | (at_builtin;refine wpList_append_lies _ rfl _ _ 25 (by rfl) B 60 ii _ 8 80 Tryz.underlying25 hii hzz hs3 hb3' rfl (by omega) u5 i _ (by rfl) HOA.out ⟨V.heap.size,0,none⟩ 1 1 (Vx.enc ⟨y1,y2,q0,y4,bq,q2,y5,TA,tcap,tos⟩) (by rfl) (by rfl) HNW.out HONE.out (by omega) (by unfold maxLen;omega) (by omega) hbs.out _ rfl ?_;intro gq cp w5 hrow5 hg5 hgb5 hgl5))
      have HPX := Lib.hid ((hg5.block p (lies_lt HPA.out) (own_neg HOA.out (by omega))).trans HPA.out)
      have HRX := Lib.hid (RS.keep HRA.out (hg5.block r HRA.out.lt (own_neg HOA.out (by omega))))
      have HFX := Lib.hid (Fr.app HFA.out HOA.out hg5)
      have HOX : Hid (w5.ownsRow B 60 8 (.slice (some ⟨gq,0,none⟩) (i + 1) cp) (i + 1) ((acc ++ [(⟨y1,y2,q0,y4,bq,q2,y5,TA,tcap,tos⟩ : Vx)]).flatMap Vx.enc)) := by
        show World.ownsRow _ _ _ _ _ _ _
        rw [List.flatMap_append,List.flatMap_singleton]
        exact hrow5
      have HKX := Lib.hid ((hg5.block kb (lies_lt HKA.out) (own_neg HOA.out (by omega))).trans HKA.out)
      have HTX : Hid (TosIn B w5 (.slice (some ⟨gq,0,none⟩) (i + 1) cp) (acc ++ [(⟨y1,y2,q0,y4,bq,q2,y5,TA,tcap,tos⟩ : Vx)])) := TosIn.app2 (⟨y1,y2,q0,y4,bq,q2,y5,TA,tcap,tos⟩ : Vx) TA tos HTV.out rfl rfl _ HTN.out hg5 hgb5
      go_roundw
      case rel => exact ⟨i + 1,τ7,acc ++ [(⟨y1,y2,q0,y4,bq,q2,y5,TA,tcap,tos⟩ : Vx)],by omega,by go_num,by simp [hal],by show _ = _;rw [← ha1.out,List.map_append,List.append_assoc];rfl,ha2,HPX,HRX,HFX,HOX,HKX,HTX⟩
      case measure => simp [intOf];omega
    case false =>
      rw [many_end hRg hi] at ha1 ha2
      have ha1 : acc.map Vx.pl = l := by have := ha1.out;simpa using this
      have HA1 := Lib.hid ha1
      have HA2 : Hid (σ = σ') := ha2.out
      obtain ⟨A,cap,hrv,HIN0⟩ := Vxs_row HO.out hal.symm HT.out
      clear HT
      have HIN := Lib.hid HIN0
      have HRV := Lib.hid hrv
      clear ha1 ha2 HIN0 hrv HO
      by_cases hlt : i < n
      · have e1 : decide ((i : Int) < (n : Int)) = true := decide_eq_true (by omega)
        have e1' : decide (i < n) = true := decide_eq_true hlt
        have hsn : σ = none := by
          cases σ with
          | none => rfl
          | some l => rw [e1'] at hRg;simp at hRg
        have HE2 : Hid (Calls Tryz.prog 50 #[.pointer (some ⟨p,0,none⟩)] wr fun e w' => e = .returned (.int .i64 10) ∧ wr = w') := by
          have h := HE.out
          rw [hsn] at h
          exact h
        clear HE hRg hsn
        go_wp2_with (go_at_call 50;(with_reducible refine (HE2.out).mono ?_);rintro e w' ⟨rfl,rfl⟩)
        go_returns
        rw [HBB.out]
        exact ⟨⟨A,cap,acc,HA1.out,by show Ending.returned u5 = _;rw [HRV.out],HIN.out⟩,⟨HP.out,by rw [← HA2.out];exact HR.out⟩,HF.out⟩
      · have e1 : decide ((i : Int) < (n : Int)) = false := decide_eq_false (by omega)
        have e1' : decide (i < n) = false := decide_eq_false hlt
        clear HE hRg
        go_wp2_with fail
        go_returns
        rw [HBB.out]
        exact ⟨⟨A,cap,acc,HA1.out,by show Ending.returned u5 = _;rw [HRV.out],HIN.out⟩,⟨HP.out,by rw [← HA2.out];exact HR.out⟩,HF.out⟩
end Go.Proofs.YtdgkanamceeheaaGreat.Im
