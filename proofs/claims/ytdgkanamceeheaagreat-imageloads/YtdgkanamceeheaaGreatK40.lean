/- The program reads a network. -/
import Derived.Test.YtdgkanamceeheaaGreatK37
import Derived.Test.YtdgkanamceeheaaGreatK39
import Derived.Test.YtdgkanamceeheaaGreatK0
set_option linter.unusedVariables false
set_option maxRecDepth 100000
set_option linter.unusedVariables false
namespace Go.Proofs.YtdgkanamceeheaaGreat.Im
open Go.RowKit
open PitotImg (St rd)
theorem alloc_at2 {w : World} {o : Obj} {k : Nat} (hk : w.heap.size = k) : (w.alloc o).heap[k]? = some o := by subst hk;exact heap_alloc_new w o
def CxIn (lo hi : Nat) (w : World) (c : Cx) : Prop := IntsIn lo hi w c.partsA c.parts ∧ WnsIn lo hi w c.winsA c.wins ∧ VxsIn lo hi w c.vlsA c.vls ∧ PxsIn lo hi w c.portsA c.ports
theorem CxIn.at {lo hi : Nat} {w : World} {c : Cx} (h : CxIn lo hi w c) : c.Held w := ⟨h.1.at,h.2.1.at,h.2.2.1.at,h.2.2.2.at⟩
theorem CxIn.fr {lo hi a c base : Nat} {w w' : World} {x : Cx} (h : CxIn lo hi w x) (hf : Fr base a c w w') (hb : hi ≤ base) (ha : a < lo) (hc : c < lo) : CxIn lo hi w' x := ⟨h.1.fr hf hb ha hc,h.2.1.fr hf hb ha hc,h.2.2.1.fr hf hb ha hc,h.2.2.2.fr hf hb ha hc⟩
theorem CxIn.mono {lo lo' hi hi' : Nat} {w : World} {c : Cx} (h : CxIn lo hi w c) (h1 : lo' ≤ lo) (h2 : hi ≤ hi') : CxIn lo' hi' w c := ⟨h.1.mono h1 h2,h.2.1.mono h1 h2,h.2.2.1.mono h1 h2,h.2.2.2.mono h1 h2⟩
def RRes (u : List UInt8) (c : Cx) (x : Int) (σ : St) : Prop :=
  (x = 1 ∧ PitotImg.sread u = .error 1) ∨ (x = 0 ∧ σ = none ∧ PitotImg.sread u = .error 10) ∨ (x = 0 ∧ ∃ l,σ = some l ∧ PitotImg.sread u = .ok (c.pl,l))
def ReadR (u : List UInt8) (B p r : Nat) (e : Ending) (w' : World) : Prop := ∃ c x σ,RRes u c x σ ∧ e = .returned c.val ∧ CxIn B w'.heap.size w' c ∧ PS w' p r x σ
set_option maxHeartbeats 8000000 in
theorem read_any (p r : Nat) (u : List UInt8) (w : World) (h : PS w p r 0 (some u)) (hpr : p ≠ r) : Calls Tryz.prog 17 #[.pointer (some ⟨p,0,none⟩)] w fun e w' => ReadR u w.heap.size p r e w' ∧ Fr w.heap.size r p w w' := by
  obtain ⟨σ0,hσ0⟩ : ∃ σ : St,some u = σ := ⟨_,rfl⟩
  rw [hσ0] at h
  obtain ⟨hosts,σ1,HEa⟩ := rd_of 2 σ0
  obtain ⟨np,σ2,HEb⟩ := rd_of 2 σ1
  have hbb := rd_ge HEb.out
  obtain ⟨nb,hnb⟩ : ∃ n : Nat,np = (n : Int) := ⟨np.toNat,by omega⟩
  rw [hnb] at HEb
  obtain ⟨parts,σ3,HE3⟩ : ∃ l σ',Hid (PitotImg.manyS (rd 2) nb σ2 = (l,σ')) := ⟨_,_,Lib.hid rfl⟩
  obtain ⟨major,σ4,HEc⟩ := rd_of 4 σ3
  obtain ⟨nw,σ5,HEd⟩ := rd_of 2 σ4
  have hbd := rd_ge HEd.out
  obtain ⟨nd,hnd⟩ : ∃ n : Nat,nw = (n : Int) := ⟨nw.toNat,by omega⟩
  rw [hnd] at HEd
  obtain ⟨winsP,σ6,HE6⟩ : ∃ l σ',Hid (PitotImg.manyS PitotImg.winS nd σ5 = (l,σ')) := ⟨_,_,Lib.hid rfl⟩
  obtain ⟨nv,σ7,HEe⟩ := rd_of 2 σ6
  have hbe := rd_ge HEe.out
  obtain ⟨ne,hne⟩ : ∃ n : Nat,nv = (n : Int) := ⟨nv.toNat,by omega⟩
  rw [hne] at HEe
  obtain ⟨vlsP,σ8,HE8⟩ : ∃ l σ',Hid (PitotImg.manyS PitotImg.vlS ne σ7 = (l,σ')) := ⟨_,_,Lib.hid rfl⟩
  obtain ⟨nq,σ9,HEf⟩ := rd_of 2 σ8
  have hbf := rd_ge HEf.out
  obtain ⟨nf,hnf⟩ : ∃ n : Nat,nq = (n : Int) := ⟨nq.toNat,by omega⟩
  rw [hnf] at HEf
  obtain ⟨PT,HEP⟩ : ∃ P,Hid (PitotImg.portsS nf σ9 = P) := ⟨_,Lib.hid rfl⟩
  have HSR : Hid (PitotImg.sread u = PT.elim (.error 1) (fun r => r.2.elim (.error 10) (fun l => .ok (⟨hosts,parts,major,winsP,vlsP,r.1⟩,l)))) := by
    show _ = _
    have e : PitotImg.cfT (some u) = ⟨(hosts,σ1),((nb : Int),σ2),(parts,σ3),(major,σ4),((nd : Int),σ5),(winsP,σ6),((ne : Int),σ7),(vlsP,σ8),((nf : Int),σ9)⟩ := by
      unfold PitotImg.cfT
      simp only [hσ0,HEa.out,HEb.out,Int.toNat_natCast,HE3.out,HEc.out,HEd.out,HE6.out,HEe.out,HE8.out,HEf.out]
    unfold PitotImg.sread
    rw [e]
    simp only [Int.toNat_natCast,HEP.out]
    cases PT with
    | none => rfl
    | some r => obtain ⟨ra,rb'⟩ := r;cases rb' <;> rfl
  have HNa := Lib.hid (pU16_of (r := r) HEa.out)
  have HNc := Lib.hid (pU32_of (r := r) HEc.out)
  have HLI := Lib.hid (fun w (hs : PS w p r 0 σ1) => rlistI p r nb σ1 σ2 σ3 parts w hs hpr HEb.out HE3.out)
  have HLW := Lib.hid (fun kb w (hs : PS w p r 0 σ4) hk h1 h2 => rlistW p r kb nd σ4 σ5 σ6 winsP w hs hpr hk h1 h2 HEd.out HE6.out)
  have HLV := Lib.hid (fun kb w (hs : PS w p r 0 σ6) hk h1 h2 => rlistV p r kb ne σ6 σ7 σ8 vlsP w hs hpr hk h1 h2 HEe.out HE8.out)
  have HLP := Lib.hid (fun kb w (hs : PS w p r 0 σ8) hk h1 h2 => rlistP p r kb nf σ8 σ9 PT w hs hpr hk h1 h2 HEf.out HEP.out)
  have HRES : Hid (∀ (B : Nat) (PA WA VA QA : Option Addr) (pcap wcap vcap qcap : Nat) (wins : List Wn) (vls : List Vx) (ports : List Px) (x : Int) (σ : St) (w' : World),wins.map Wn.pl = winsP → vls.map Vx.pl = vlsP → PRes PT ports x σ → IntsIn B w'.heap.size w' PA parts → WnsIn B w'.heap.size w' WA wins → VxsIn B w'.heap.size w' VA vls → PxsIn B w'.heap.size w' QA ports → PS w' p r x σ → ReadR u B p r (.returned (.agg #[.int .i64 hosts,.slice PA parts.length pcap,.int .i64 major,.slice WA wins.length wcap,.slice VA vls.length vcap,.slice QA ports.length qcap])) w') := fun B PA WA VA QA pcap wcap vcap qcap wins vls ports x σ w' e1 e2 hp h1 h2 h3 h4 hs => by
    refine ⟨⟨hosts,PA,pcap,parts,major,WA,wcap,wins,VA,vcap,vls,QA,qcap,ports⟩,x,σ,?_,rfl,⟨h1,h2,h3,h4⟩,hs⟩
    have hsr := HSR.out
    rcases hp with ⟨a,b⟩ | ⟨a,b,az,c⟩ | ⟨a,l,b,c⟩
    · exact .inl ⟨a,by rw [hsr,b];rfl⟩
    · exact .inr (.inl ⟨a,b,by rw [hsr,c];rfl⟩)
    · refine .inr (.inr ⟨a,l,b,?_⟩)
      rw [hsr,c,← e1,← e2];rfl
  have HPR := Lib.hid hpr
  have HP : Hid (((w.alloc (.cells #[.pointer (some ⟨p,0,none⟩)] 46)).alloc (.cells #[.int .i64 0,.slice none 0 0,.int .i64 0,.slice none 0 0,.slice none 0 0,.slice none 0 0] 28)).heap[p]? = some (.cells #[.pointer (some ⟨r,0,none⟩),.int .i64 0] 50)) := lies_alloc (lies_alloc h.1 _) _
  have HR : Hid (RS 82 ((w.alloc (.cells #[.pointer (some ⟨p,0,none⟩)] 46)).alloc (.cells #[.int .i64 0,.slice none 0 0,.int .i64 0,.slice none 0 0,.slice none 0 0,.slice none 0 0] 28)) r σ0) := RS.al (RS.al h.2 _) _
  have HF : Hid (Fr w.heap.size r p w ((w.alloc (.cells #[.pointer (some ⟨p,0,none⟩)] 46)).alloc (.cells #[.int .i64 0,.slice none 0 0,.int .i64 0,.slice none 0 0,.slice none 0 0,.slice none 0 0] 28))) := Fr.al (Fr.al Fr.refl _) _
  have KB : Hid (((w.alloc (.cells #[.pointer (some ⟨p,0,none⟩)] 46)).alloc (.cells #[.int .i64 0,.slice none 0 0,.int .i64 0,.slice none 0 0,.slice none 0 0,.slice none 0 0] 28)).heap[w.heap.size]? = some (.cells #[.pointer (some ⟨p,0,none⟩)] 46)) := lies_alloc (heap_alloc_new w _) _
  have RB : Hid (((w.alloc (.cells #[.pointer (some ⟨p,0,none⟩)] 46)).alloc (.cells #[.int .i64 0,.slice none 0 0,.int .i64 0,.slice none 0 0,.slice none 0 0,.slice none 0 0] 28)).heap[w.heap.size + 1]? = some (.cells #[.int .i64 0,.slice none 0 0,.int .i64 0,.slice none 0 0,.slice none 0 0,.slice none 0 0] 28)) := alloc_at2 (by simp)
  have HSZ0 : ((w.alloc (.cells #[.pointer (some ⟨p,0,none⟩)] 46)).alloc (.cells #[.int .i64 0,.slice none 0 0,.int .i64 0,.slice none 0 0,.slice none 0 0,.slice none 0 0] 28)).heap.size = w.heap.size + 1 + 1 := by simp
  have hpw := lies_lt h.1
  have hrw := h.2.lt
  have hzc := zero_cf
  clear h hpr hbb hnb hbd hnd hbe hne hbf hnf HEa HEb HE3 HEc HEd HE6 HEe HE8 HEf HEP HSR hσ0
  go_enter Tryz.func17,Tryz.ntmps17
  go_upto_region 1 with (fail)
  obtain ⟨W1,hW1⟩ : ∃ W,(w.alloc (.cells #[.pointer (some ⟨p,0,none⟩)] 46)).alloc (.cells #[.int .i64 0,.slice none 0 0,.int .i64 0,.slice none 0 0,.slice none 0 0,.slice none 0 0] 28) = W := ⟨_,rfl⟩
  rw [hW1] at HP HR HF KB RB HSZ0 ⊢
  clear hW1 hzc
  obtain ⟨B,hB⟩ : ∃ n,w.heap.size = n := ⟨_,rfl⟩
  rw [hB] at HF hpw hrw HSZ0
  obtain ⟨kb,hkb⟩ : ∃ n,w.heap.size = n := ⟨_,rfl⟩
  rw [hkb] at KB RB ⊢
  have hBk : B = kb := hB.symm.trans hkb
  obtain ⟨rv,hrv⟩ : ∃ n,kb + 1 = n := ⟨_,rfl⟩
  rw [hrv] at RB ⊢
  have HHB := Lib.hid hB
  clear hB hkb
  obtain ⟨lb,hlb⟩ : ∃ n,W1.heap.size = n := ⟨_,rfl⟩
  have hBlb : B ≤ lb := by omega
  have hkblb : kb < lb := by omega
  have hrvlb : rv < lb := by omega
  have hBkb : B ≤ kb := by omega
  have hBrv : B ≤ rv := by omega
  have hkrv : kb < rv := by omega
  have hkr2 : kb ≠ r := by omega
  have hkp2 : kb ≠ p := by omega
  have HSZ : Hid (lb ≤ W1.heap.size) := by show _ ≤ _;omega
  have HKRV : Hid (kb + 1 = rv) := hrv
  clear hlb HSZ0 hBk hrv
  have HPd : Hid ((World.drew W1).heap[p]? = _) := HP.out
  have HRd : Hid (RS 82 (World.drew W1) r _) := HR.out
  have HFd := Lib.hid (HF.out.trans Fr.dr)
  have KBd : Hid ((World.drew W1).heap[_]? = _) := KB.out
  have RBd : Hid ((World.drew W1).heap[_]? = _) := RB.out
  have HSZd : Hid (lb ≤ (World.drew W1).heap.size) := HSZ.out
  clear HSZ
  have HSZ := HSZd
  clear HP HR HF KB RB
  have HP := HPd
  have HR := HRd
  have HF := HFd
  have KB := KBd
  have RB := RBd
  clear HPd HRd HFd KBd RBd
  refine wp_region_held_drew (S := (fun w' => w'.cell? ⟨kb,0,none⟩ = some (.pointer (some ⟨p,0,none⟩)) ∧ w'.cell? ⟨p,0,none⟩ = some (.pointer (some ⟨r,0,none⟩)))) (by kernel_rfl) ?_ (fun hHeld => ?_)
  · exact ⟨lies_cell KB.out 0,lies_cell HP.out 0⟩
  refine tX 0 ?_ rfl (by kernel_rfl) rfl (by intro w hSw;(try dsimp only at hSw);have d0 := hSw.1;have c0 := hSw.2;clear hSw;go_simp<;>with_reducible rfl) (fun _ _ _ h=>h) hHeld
  try simp only [Act.put,yA,yB,yC]
  refine tK 1 ?_ rfl (by kernel_rfl) rfl (by intro w;go_simp<;>with_reducible rfl) (fun _ _ _ h=>h) hHeld
  try simp only [Act.put,yA,yB,yC]
  refine tK 2 ?_ rfl (by kernel_rfl) rfl (by intro w;go_simp<;>with_reducible rfl) (fun _ _ _ h=>h) hHeld
  try simp only [Act.put,yA,yB,yC]
  refine tX 3 ?_ rfl (by kernel_rfl) rfl (by intro w hSw;(try dsimp only at hSw);have d0 := hSw.1;have c0 := hSw.2;clear hSw;go_simp<;>with_reducible rfl) (fun _ _ _ h=>h) hHeld
  try simp only [Act.put,yA,yB,yC]
  refine tX 5 ?_ rfl (by kernel_rfl) rfl (by intro w hSw;(try dsimp only at hSw);have d0 := hSw.1;have c0 := hSw.2;clear hSw;go_simp<;>with_reducible rfl) (fun _ _ _ h=>h) hHeld
  try simp only [Act.put,yA,yB,yC]
  refine tX 6 ?_ rfl (by kernel_rfl) rfl (by intro w hSw;(try dsimp only at hSw);have d0 := hSw.1;have c0 := hSw.2;clear hSw;go_simp<;>with_reducible rfl) (fun _ _ _ h=>h) hHeld
  try simp only [Act.put,yA,yB,yC]
  refine tK 7 ?_ rfl (by kernel_rfl) rfl (by intro w;go_simp<;>with_reducible rfl) (fun _ _ _ h=>h) hHeld
  try simp only [Act.put,yA,yB,yC]
  refine tK 8 ?_ rfl (by kernel_rfl) rfl (by intro w;go_simp<;>with_reducible rfl) (fun _ _ _ h=>h) hHeld
  try simp only [Act.put,yA,yB,yC]
  refine tX 9 ?_ rfl (by kernel_rfl) rfl (by intro w hSw;(try dsimp only at hSw);have d0 := hSw.1;have c0 := hSw.2;clear hSw;go_simp<;>with_reducible rfl) (fun _ _ _ h=>h) hHeld
  try simp only [Act.put,yA,yB,yC]
  refine tK 10 ?_ rfl (by kernel_rfl) rfl (by intro w;go_simp<;>with_reducible rfl) (fun _ _ _ h=>h) hHeld
  try simp only [Act.put,yA,yB,yC]
  refine tX 12 ?_ rfl (by kernel_rfl) rfl (by intro w hSw;(try dsimp only at hSw);have d0 := hSw.1;have c0 := hSw.2;clear hSw;go_simp<;>with_reducible rfl) (fun _ _ _ h=>h) hHeld
  try simp only [Act.put,yA,yB,yC]
  refine tK 13 ?_ rfl (by kernel_rfl) rfl (by intro w;go_simp<;>with_reducible rfl) (fun _ _ _ h=>h) hHeld
  try simp only [Act.put,yA,yB,yC]
  refine tK 14 ?_ rfl (by kernel_rfl) rfl (by intro w;go_simp<;>with_reducible rfl) (fun _ _ _ h=>h) hHeld
  try simp only [Act.put,yA,yB,yC]
  refine tX 15 ?_ rfl (by kernel_rfl) rfl (by intro w hSw;(try dsimp only at hSw);have d0 := hSw.1;have c0 := hSw.2;clear hSw;go_simp<;>with_reducible rfl) (fun _ _ _ h=>h) hHeld
  try simp only [Act.put,yA,yB,yC]
  refine tX 17 ?_ rfl (by kernel_rfl) rfl (by intro w hSw;(try dsimp only at hSw);have d0 := hSw.1;have c0 := hSw.2;clear hSw;go_simp<;>with_reducible rfl) (fun _ _ _ h=>h) hHeld
  try simp only [Act.put,yA,yB,yC]
  refine tK 18 ?_ rfl (by kernel_rfl) rfl (by intro w;go_simp<;>with_reducible rfl) (fun _ _ _ h=>h) hHeld
  try simp only [Act.put,yA,yB,yC]
  refine tX 20 ?_ rfl (by kernel_rfl) rfl (by intro w hSw;(try dsimp only at hSw);have d0 := hSw.1;have c0 := hSw.2;clear hSw;go_simp<;>with_reducible rfl) (fun _ _ _ h=>h) hHeld
  try simp only [Act.put,yA,yB,yC]
  refine tK 21 ?_ rfl (by kernel_rfl) rfl (by intro w;go_simp<;>with_reducible rfl) (fun _ _ _ h=>h) hHeld
  try simp only [Act.put,yA,yB,yC]
  refine tX 23 ?_ rfl (by kernel_rfl) rfl (by intro w hSw;(try dsimp only at hSw);have d0 := hSw.1;have c0 := hSw.2;clear hSw;go_simp<;>with_reducible rfl) (fun _ _ _ h=>h) hHeld
  try simp only [Act.put,yA,yB,yC]
  refine tK 24 ?_ rfl (by kernel_rfl) rfl (by intro w;go_simp<;>with_reducible rfl) (fun _ _ _ h=>h) hHeld
  try simp only [Act.put,yA,yB,yC]
  refine rY 4 [] ?_ (by kernel_rfl)
  refine rC rfl (fun K hK => ?_) AllReadyH.nil
  have c0 := lies_cell HP.out 0
  have d0 := lies_cell KB.out 0
  go_simp
  (go_at_call 38;(with_reducible refine (HNa.out _ HR.out).mono ?_);rintro e V ⟨rfl,hw,hg⟩;go_wp2_with fail)
  clear c0 d0
  have HPd := Lib.hid (lies_grown HP.out hg HPR.out)
  have HRd := Lib.hid hw
  have HFd := Lib.hid (Fr.of_grown (b := p) HF.out hg)
  have KBd := Lib.hid (lies_grown KB.out hg (by omega))
  have RBd := Lib.hid (lies_grown RB.out hg (by omega))
  have HSZd := Lib.hid (Nat.le_trans HSZ.out hg.size)
  clear HP HR HF KB RB HSZ hg hw
  have HP := HPd
  have HR := HRd
  have HF := HFd
  have KB := KBd
  have RB := RBd
  have HSZ := HSZd
  clear HPd HRd HFd KBd RBd HSZd
  refine hK.out _ _ ?_ (fun hHeld => ?_)
  · exact ⟨lies_cell KB.out 0,lies_cell HP.out 0⟩
  clear hK K
  try simp only [Act.put,yA,yB,yC]
  refine rY 11 [] ?_ (by kernel_rfl)
  refine rC rfl (fun K hK => ?_) AllReadyH.nil
  have c0 := lies_cell HP.out 0
  have d0 := lies_cell KB.out 0
  go_simp
  (go_at_call 39;(with_reducible refine (HLI.out _ (ps_mk HP.out HR.out)).mono ?_);rintro e V ⟨⟨PA,pcap,xs,hxs,rfl,hin⟩,hs,hf⟩;go_wp2_with fail)
  clear c0 d0
  have hxs : xs = parts := hxs
  rw [hxs] at hin
  (try rw [hxs])
  clear hxs
  have HPd := Lib.hid hs.1
  have HRd := Lib.hid hs.2
  have HFd := Lib.hid (HF.out.trans (hf.mono (Nat.le_trans hBlb HSZ.out)))
  have KBd := Lib.hid ((hf.block kb (lies_lt KB.out) (by omega) (by omega) (lies_lt KB.out)).trans KB.out)
  have RBd := Lib.hid ((hf.block rv (lies_lt RB.out) (by omega) (by omega) (lies_lt RB.out)).trans RB.out)
  have HSZd := Lib.hid (Nat.le_trans HSZ.out hf.size)
  have HIPd := Lib.hid (hin.mono HSZ.out (Nat.le_refl _))
  clear HP HR HF KB RB HSZ hs hf hin
  have HP := HPd
  have HR := HRd
  have HF := HFd
  have KB := KBd
  have RB := RBd
  have HSZ := HSZd
  have HIP := HIPd
  clear HPd HRd HFd KBd RBd HSZd HIPd
  refine hK.out _ _ ?_ (fun hHeld => ?_)
  · exact ⟨lies_cell KB.out 0,lies_cell HP.out 0⟩
  clear hK K
  try simp only [Act.put,yA,yB,yC]
  refine rY 16 [] ?_ (by kernel_rfl)
  refine rC rfl (fun K hK => ?_) AllReadyH.nil
  have c0 := lies_cell HP.out 0
  have d0 := lies_cell KB.out 0
  go_simp
  (go_at_call 40;(with_reducible refine (HNc.out _ HR.out).mono ?_);rintro e V ⟨rfl,hw,hg⟩;go_wp2_with fail)
  clear c0 d0
  have HPd := Lib.hid (lies_grown HP.out hg HPR.out)
  have HRd := Lib.hid hw
  have HFd := Lib.hid (Fr.of_grown (b := p) HF.out hg)
  have KBd := Lib.hid (lies_grown KB.out hg (by omega))
  have RBd := Lib.hid (lies_grown RB.out hg (by omega))
  have HSZd := Lib.hid (Nat.le_trans HSZ.out hg.size)
  have HIPd := Lib.hid ((HIP.out.fr (Fr.grown (b := p) hg) (Nat.le_refl _) (by omega) (by omega)).mono (Nat.le_refl _) hg.size)
  clear HP HR HF KB RB HSZ HIP hg hw
  have HP := HPd
  have HR := HRd
  have HF := HFd
  have KB := KBd
  have RB := RBd
  have HSZ := HSZd
  have HIP := HIPd
  clear HPd HRd HFd KBd RBd HSZd HIPd
  refine hK.out _ _ ?_ (fun hHeld => ?_)
  · exact ⟨lies_cell KB.out 0,lies_cell HP.out 0⟩
  clear hK K
  try simp only [Act.put,yA,yB,yC]
  refine rY 19 [] ?_ (by kernel_rfl)
  refine rC rfl (fun K hK => ?_) AllReadyH.nil
  have c0 := lies_cell HP.out 0
  have d0 := lies_cell KB.out 0
  go_simp
  (go_at_call 41;(with_reducible refine (HLW.out kb _ (ps_mk HP.out HR.out) KB.out hkr2 hkp2).mono ?_);rintro e V ⟨⟨WA,wcap,wins,hxs,rfl,hin⟩,hs,hf⟩;go_wp2_with fail)
  clear c0 d0
  have HWP : Hid (wins.map Wn.pl = winsP) := hxs
  clear hxs
  have HPd := Lib.hid hs.1
  have HRd := Lib.hid hs.2
  have HFd := Lib.hid (HF.out.trans (hf.mono (Nat.le_trans hBlb HSZ.out)))
  have KBd := Lib.hid ((hf.block kb (lies_lt KB.out) (by omega) (by omega) (lies_lt KB.out)).trans KB.out)
  have RBd := Lib.hid ((hf.block rv (lies_lt RB.out) (by omega) (by omega) (lies_lt RB.out)).trans RB.out)
  have HSZd := Lib.hid (Nat.le_trans HSZ.out hf.size)
  have HIPd := Lib.hid ((HIP.out.fr hf (Nat.le_refl _) (by omega) (by omega)).mono (Nat.le_refl _) hf.size)
  have HIWd := Lib.hid (hin.mono HSZ.out (Nat.le_refl _))
  clear HP HR HF KB RB HSZ HIP hs hf hin
  have HP := HPd
  have HR := HRd
  have HF := HFd
  have KB := KBd
  have RB := RBd
  have HSZ := HSZd
  have HIP := HIPd
  have HIW := HIWd
  clear HPd HRd HFd KBd RBd HSZd HIPd HIWd
  refine hK.out _ _ ?_ (fun hHeld => ?_)
  · exact ⟨lies_cell KB.out 0,lies_cell HP.out 0⟩
  clear hK K
  try simp only [Act.put,yA,yB,yC]
  refine rY 22 [] ?_ (by kernel_rfl)
  refine rC rfl (fun K hK => ?_) AllReadyH.nil
  have c0 := lies_cell HP.out 0
  have d0 := lies_cell KB.out 0
  go_simp
  (go_at_call 44;(with_reducible refine (HLV.out kb _ (ps_mk HP.out HR.out) KB.out hkr2 hkp2).mono ?_);rintro e V ⟨⟨VA,vcap,vls,hxs,rfl,hin⟩,hs,hf⟩;go_wp2_with fail)
  clear c0 d0
  have HVP : Hid (vls.map Vx.pl = vlsP) := hxs
  clear hxs
  have HPd := Lib.hid hs.1
  have HRd := Lib.hid hs.2
  have HFd := Lib.hid (HF.out.trans (hf.mono (Nat.le_trans hBlb HSZ.out)))
  have KBd := Lib.hid ((hf.block kb (lies_lt KB.out) (by omega) (by omega) (lies_lt KB.out)).trans KB.out)
  have RBd := Lib.hid ((hf.block rv (lies_lt RB.out) (by omega) (by omega) (lies_lt RB.out)).trans RB.out)
  have HSZd := Lib.hid (Nat.le_trans HSZ.out hf.size)
  have HIPd := Lib.hid ((HIP.out.fr hf (Nat.le_refl _) (by omega) (by omega)).mono (Nat.le_refl _) hf.size)
  have HIWd := Lib.hid ((HIW.out.fr hf (Nat.le_refl _) (by omega) (by omega)).mono (Nat.le_refl _) hf.size)
  have HIVd := Lib.hid (hin.mono HSZ.out (Nat.le_refl _))
  clear HP HR HF KB RB HSZ HIP HIW hs hf hin
  have HP := HPd
  have HR := HRd
  have HF := HFd
  have KB := KBd
  have RB := RBd
  have HSZ := HSZd
  have HIP := HIPd
  have HIW := HIWd
  have HIV := HIVd
  clear HPd HRd HFd KBd RBd HSZd HIPd HIWd HIVd
  refine hK.out _ _ ?_ (fun hHeld => ?_)
  · exact ⟨lies_cell KB.out 0,lies_cell HP.out 0⟩
  clear hK K
  try simp only [Act.put,yA,yB,yC]
  refine rY 25 [] ?_ (by kernel_rfl)
  refine rC rfl (fun K hK => ?_) AllReadyH.nil
  have c0 := lies_cell HP.out 0
  have d0 := lies_cell KB.out 0
  go_simp
  (go_at_call 47;(with_reducible refine (HLP.out kb _ (ps_mk HP.out HR.out) KB.out hkr2 hkp2).mono ?_);rintro e V ⟨⟨xw,σe,ports,hpr9,⟨QA,qcap,xs,hxs,rfl,hin⟩,hs⟩,hf⟩;go_wp2_with fail)
  clear c0 d0
  have hxs : xs = ports := hxs
  rw [hxs] at hin
  (try rw [hxs])
  have HPQ := Lib.hid hpr9
  clear hxs hpr9
  have HPd := Lib.hid hs.1
  have HRd := Lib.hid hs.2
  have HFd := Lib.hid (HF.out.trans (hf.mono (Nat.le_trans hBlb HSZ.out)))
  have KBd := Lib.hid ((hf.block kb (lies_lt KB.out) (by omega) (by omega) (lies_lt KB.out)).trans KB.out)
  have RBd := Lib.hid ((hf.block rv (lies_lt RB.out) (by omega) (by omega) (lies_lt RB.out)).trans RB.out)
  have HSZd := Lib.hid (Nat.le_trans HSZ.out hf.size)
  have HIPd := Lib.hid ((HIP.out.fr hf (Nat.le_refl _) (by omega) (by omega)).mono (Nat.le_refl _) hf.size)
  have HIWd := Lib.hid ((HIW.out.fr hf (Nat.le_refl _) (by omega) (by omega)).mono (Nat.le_refl _) hf.size)
  have HIVd := Lib.hid ((HIV.out.fr hf (Nat.le_refl _) (by omega) (by omega)).mono (Nat.le_refl _) hf.size)
  have HIQd := Lib.hid (hin.mono HSZ.out (Nat.le_refl _))
  clear HP HR HF KB RB HSZ HIP HIW HIV hs hf hin
  have HP := HPd
  have HR := HRd
  have HF := HFd
  have KB := KBd
  have RB := RBd
  have HSZ := HSZd
  have HIP := HIPd
  have HIW := HIWd
  have HIV := HIVd
  have HIQ := HIQd
  clear HPd HRd HFd KBd RBd HSZd HIPd HIWd HIVd HIQd
  refine hK.out _ _ ?_ (fun hHeld => ?_)
  · exact ⟨lies_cell KB.out 0,lies_cell HP.out 0⟩
  clear hK K
  try simp only [Act.put,yA,yB,yC]
  refine tK 26 ?_ rfl (by kernel_rfl) rfl (by intro w;go_simp<;>with_reducible rfl) (fun _ _ _ h=>h) hHeld
  try simp only [Act.put,yA,yB,yC]
  refine rY 27 [] ?_ (by kernel_rfl)
  refine rC rfl (fun K hK => ?_) AllReadyH.nil
  have f0 := lies_frozen RB.out 0
  have f1 := lies_frozen RB.out 1
  have f2 := lies_frozen RB.out 2
  have f3 := lies_frozen RB.out 3
  have f4 := lies_frozen RB.out 4
  have f5 := lies_frozen RB.out 5
  obtain ⟨q0,q1,q2,q3,q4,q5⟩ := cells_6 RB.out
  go_simp
  clear f0 f1 f2 f3 f4 f5 q0 q1 q2 q3 q4 q5
  have F6 : Fr V.heap.size r rv V ((((((V.setCell ⟨rv,0,none⟩ (.int .i64 hosts)).setCell ⟨rv,1,none⟩ (.slice PA parts.length pcap)).setCell ⟨rv,2,none⟩ (.int .i64 major)).setCell ⟨rv,3,none⟩ (.slice WA wins.length wcap)).setCell ⟨rv,4,none⟩ (.slice VA vls.length vcap)).setCell ⟨rv,5,none⟩ (.slice QA ports.length qcap)) := Fr.set (Fr.set (Fr.set (Fr.set (Fr.set (Fr.set Fr.refl)))))
  have HPd : Hid ((((((((V.setCell ⟨rv,0,none⟩ (.int .i64 hosts)).setCell ⟨rv,1,none⟩ (.slice PA parts.length pcap)).setCell ⟨rv,2,none⟩ (.int .i64 major)).setCell ⟨rv,3,none⟩ (.slice WA wins.length wcap)).setCell ⟨rv,4,none⟩ (.slice VA vls.length vcap)).setCell ⟨rv,5,none⟩ (.slice QA ports.length qcap))).heap[p]? = _) := (far_6 (by omega)).trans HP.out
  have HRd : Hid (RS 82 (((((((V.setCell ⟨rv,0,none⟩ (.int .i64 hosts)).setCell ⟨rv,1,none⟩ (.slice PA parts.length pcap)).setCell ⟨rv,2,none⟩ (.int .i64 major)).setCell ⟨rv,3,none⟩ (.slice WA wins.length wcap)).setCell ⟨rv,4,none⟩ (.slice VA vls.length vcap)).setCell ⟨rv,5,none⟩ (.slice QA ports.length qcap))) r _) := RS.keep HR.out (far_6 (by omega))
  have HFd : Hid (Fr _ r p _ (((((((V.setCell ⟨rv,0,none⟩ (.int .i64 hosts)).setCell ⟨rv,1,none⟩ (.slice PA parts.length pcap)).setCell ⟨rv,2,none⟩ (.int .i64 major)).setCell ⟨rv,3,none⟩ (.slice WA wins.length wcap)).setCell ⟨rv,4,none⟩ (.slice VA vls.length vcap)).setCell ⟨rv,5,none⟩ (.slice QA ports.length qcap)))) := frs_6 HF.out (by omega)
  have RBd : Hid ((((((((V.setCell ⟨rv,0,none⟩ (.int .i64 hosts)).setCell ⟨rv,1,none⟩ (.slice PA parts.length pcap)).setCell ⟨rv,2,none⟩ (.int .i64 major)).setCell ⟨rv,3,none⟩ (.slice WA wins.length wcap)).setCell ⟨rv,4,none⟩ (.slice VA vls.length vcap)).setCell ⟨rv,5,none⟩ (.slice QA ports.length qcap))).heap[rv]? = some (.cells #[.int .i64 hosts,.slice PA parts.length pcap,.int .i64 major,.slice WA wins.length wcap,.slice VA vls.length vcap,.slice QA ports.length qcap] 28)) := put_6 RB.out
  have KBd : Hid ((((((((V.setCell ⟨rv,0,none⟩ (.int .i64 hosts)).setCell ⟨rv,1,none⟩ (.slice PA parts.length pcap)).setCell ⟨rv,2,none⟩ (.int .i64 major)).setCell ⟨rv,3,none⟩ (.slice WA wins.length wcap)).setCell ⟨rv,4,none⟩ (.slice VA vls.length vcap)).setCell ⟨rv,5,none⟩ (.slice QA ports.length qcap))).heap[kb]? = _) := (far_6 (by omega)).trans KB.out
  have HIPd := Lib.hid ((HIP.out.fr F6 (Nat.le_refl _) (by omega) (by omega)).mono (Nat.le_refl _) F6.size)
  have HIWd := Lib.hid ((HIW.out.fr F6 (Nat.le_refl _) (by omega) (by omega)).mono (Nat.le_refl _) F6.size)
  have HIVd := Lib.hid ((HIV.out.fr F6 (Nat.le_refl _) (by omega) (by omega)).mono (Nat.le_refl _) F6.size)
  have HIQd := Lib.hid ((HIQ.out.fr F6 (Nat.le_refl _) (by omega) (by omega)).mono (Nat.le_refl _) F6.size)
  clear F6 HP HR HF RB KB HIP HIW HIV HIQ
  have HP := HPd
  have HR := HRd
  have HF := HFd
  have RB := RBd
  have KB := KBd
  have HIP := HIPd
  have HIW := HIWd
  have HIV := HIVd
  have HIQ := HIQd
  clear HPd HRd HFd RBd KBd HIPd HIWd HIVd HIQd
  generalize (((((V.setCell ⟨rv,0,none⟩ (.int .i64 hosts)).setCell ⟨rv,1,none⟩ (.slice PA parts.length pcap)).setCell ⟨rv,2,none⟩ (.int .i64 major)).setCell ⟨rv,3,none⟩ (.slice WA wins.length wcap)).setCell ⟨rv,4,none⟩ (.slice VA vls.length vcap)).setCell ⟨rv,5,none⟩ (.slice QA ports.length qcap) = Zs at HP HR HF RB KB HIP HIW HIV HIQ ⊢
  refine hK.out _ _ ?_ (fun hHeld => ?_)
  · exact ⟨lies_cell KB.out 0,lies_cell HP.out 0⟩
  clear hK K
  try simp only [Act.put,yA,yB,yC]
  refine wpAnyH_done (by kernel_rfl) ?_ _
  clear hHeld
  obtain ⟨k0,k1,k2,k3,k4,k5⟩ := cells_6 RB.out
  go_wp2
  (try simp only [Exit.inBlock,Exit.then])
  refine bodyPost_ret (by simp [results,Tryz.results17,go_sem,k0,k1,k2,k3,k4,k5];try rfl) rfl ?_
  rw [HHB.out]
  exact ⟨HRES.out B PA WA VA QA pcap wcap vcap qcap wins vls ports xw σe _ HWP.out HVP.out HPQ.out (HIP.out.mono hBlb (Nat.le_refl _)) (HIW.out.mono hBlb (Nat.le_refl _)) (HIV.out.mono hBlb (Nat.le_refl _)) (HIQ.out.mono hBlb (Nat.le_refl _)) (ps_mk HP.out HR.out),HF.out⟩
end Go.Proofs.YtdgkanamceeheaaGreat.Im
