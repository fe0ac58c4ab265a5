/- The program's Check. -/
import Derived.Test.YtdgkanamceeheaaGreatK28
import Derived.Laws.EntriesVeiled
set_option linter.unusedVariables false
set_option maxRecDepth 100000
namespace Go.Proofs.YtdgkanamceeheaaGreat
open Go.RowKit
structure Sm (c : Cx) : Prop where
  ok : c.Ok
  parts : c.parts.length ≤ 5000
  wins : c.wins.length ≤ 1000
  vls : c.vls.length ≤ 400
  ports : c.ports.length ≤ 1000
  tol : ∀ v ∈ c.vls,v.to.length ≤ 5000
def jd (c : Cx) : Nat → Int × Int
  | 1 => (0,if c.hosts < 1 ∨ 64 < c.hosts then 1 else 0)
  | 2 => told (PitotConf.scan (PitotConf.partJ c.hosts) [] c.parts)
  | 3 => (0,if c.major < 1 ∨ 1073741824 < c.major then 1 else 0)
  | 4 => told (PitotConf.scan (PitotConf.winJ c.parts c.major) [] (c.wins.map Wn.pl))
  | 5 => told (PitotConf.scan (PitotConf.linkJ c.hosts) [] (c.vls.map Vx.pl))
  | 6 => told (PitotConf.scan (PitotConf.portJ c.parts (c.vls.map Vx.pl)) [] (c.ports.map Px.pl))
  | _ => toldJ (PitotConf.jitF (c.vls.map Vx.pl) c.hosts)
def firstJ (f : Nat → Int × Int) : List Nat → Int × Int × Int
  | [] => (0,0,0)
  | k :: r => if (f k).2 = 0 then firstJ f r else ((k : Int),(f k).1,(f k).2)
theorem told_zero {α : Type} {J : List α → α → Int} {l : List α} (h : (told (PitotConf.scan J [] l)).2 = 0) : PitotConf.scan J [] l = none := by
  cases hs : PitotConf.scan J [] l with
  | none => rfl
  | some x => obtain ⟨i,e⟩ := x;rw [hs] at h;exact absurd h (PitotConf.scan_cut hs).2.1
theorem check_eq (c : Cx) : PitotConf.check c.pl = firstJ (jd c) [1,2,3,4,5,6,7] := by
  unfold PitotConf.check Cx.pl
  simp only [firstJ,jd]
  by_cases h1 : c.hosts < 1 ∨ 64 < c.hosts
  · rw [if_pos h1,if_pos h1,if_neg (by decide)];rfl
  rw [if_neg h1,if_neg h1,if_pos rfl]
  cases h2 : PitotConf.scan (PitotConf.partJ c.hosts) [] c.parts with
  | some x => obtain ⟨i,e⟩ := x;exact (if_neg (PitotConf.scan_cut h2).2.1).symm
  | none =>
    simp only
    rw [if_pos (show (told none).2 = 0 from rfl)]
    by_cases h3 : c.major < 1 ∨ 1073741824 < c.major
    · rw [if_pos h3,if_pos h3,if_neg (by decide)];rfl
    rw [if_neg h3,if_neg h3,if_pos rfl]
    cases h4 : PitotConf.scan (PitotConf.winJ c.parts c.major) [] (c.wins.map Wn.pl) with
    | some x => obtain ⟨i,e⟩ := x;exact (if_neg (PitotConf.scan_cut h4).2.1).symm
    | none =>
      simp only
      rw [if_pos (show (told none).2 = 0 from rfl)]
      cases h5 : PitotConf.scan (PitotConf.linkJ c.hosts) [] (c.vls.map Vx.pl) with
      | some x => obtain ⟨i,e⟩ := x;exact (if_neg (PitotConf.scan_cut h5).2.1).symm
      | none =>
        simp only
        rw [if_pos (show (told none).2 = 0 from rfl)]
        cases h6 : PitotConf.scan (PitotConf.portJ c.parts (c.vls.map Vx.pl)) [] (c.ports.map Px.pl) with
        | some x => obtain ⟨i,e⟩ := x;exact (if_neg (PitotConf.scan_cut h6).2.1).symm
        | none =>
          simp only
          rw [if_pos (show (told none).2 = 0 from rfl)]
          cases h7 : PitotConf.jitF (c.vls.map Vx.pl) c.hosts with
          | some h => exact (if_neg (show ¬ ((26 : Int) = 0) by decide)).symm
          | none => exact (if_pos rfl).symm
theorem lit_le {k : Int} (h : (Lit.int .i64 k).wf = true) : -9223372036854775808 ≤ k ∧ k ≤ 9223372036854775807 := by
  simp [Lit.wf,IntKind.min,IntKind.max,IntKind.signed,IntKind.bits] at h
  omega
theorem judges_any (c : Cx) (hs : Sm c) (w : World) (hc : c.Held w) (k : Nat) (h1 : 1 ≤ k) (h7 : k ≤ 7) (hprev : ∀ i,1 ≤ i → i < k → (jd c i).2 = 0) : Calls Tryz.prog (27 + k) #[c.val] w fun e w' => e = .returned (judged (jd c k)) ∧ Below w.heap.size w w' := by
  obtain ⟨o1,o2,o3,o4,o5,o6,o7,o8,o9,o10⟩ := hs.ok
  have hpl : c.parts.length ≤ maxLen := by have := hs.parts;unfold maxLen;omega
  have hvl : c.vls.length ≤ maxLen := by have := hs.vls;unfold maxLen;omega
  have H1 : 1 < k → 1 ≤ c.hosts ∧ c.hosts ≤ 64 := fun h => by
    have := hprev 1 (by omega) h
    by_cases h2 : c.hosts < 1 ∨ 64 < c.hosts
    · have h3 : (jd c 1).2 = 1 := if_pos h2
      rw [h3] at this;omega
    · omega
  have H2 : 2 < k → ∀ h ∈ c.parts,0 ≤ h ∧ h < 64 := fun h => by
    have hn := told_zero (hprev 2 (by omega) h)
    rw [PitotConf.scan_none] at hn
    intro x hx
    obtain ⟨i,hi,rfl⟩ := List.mem_iff_getElem.1 hx
    have := hn i hi
    unfold PitotConf.partJ at this
    have hb := (PitotConf.ite0 (by decide) this).1
    simp only [not_or,Bool.not_eq_false] at hb
    have h3 := PitotConf.isHost_iff.1 hb.2
    have := H1 (by omega)
    omega
  have H3 : 3 < k → 0 ≤ c.major ∧ c.major ≤ 1073741824 := fun h => by
    have := hprev 3 (by omega) h
    by_cases h2 : c.major < 1 ∨ 1073741824 < c.major
    · have h3 : (jd c 3).2 = 1 := if_pos h2
      rw [h3] at this;omega
    · omega
  have H5 : 5 < k → ∀ v ∈ c.vls,64 ≤ v.smax ∧ v.smax ≤ 1518 ∧ 1 ≤ v.subs ∧ v.subs ≤ 4 := fun h => by
    have hn := told_zero (hprev 5 (by omega) h)
    rw [PitotConf.scan_none] at hn
    intro x hx
    obtain ⟨i,hi,rfl⟩ := List.mem_iff_getElem.1 hx
    have := hn i (by simpa using hi)
    rw [List.getElem_map] at this
    unfold PitotConf.linkJ at this
    have hb := (PitotConf.ite0 (by decide) this).1
    simp only [not_or] at hb
    obtain ⟨_,_,_,_,_,_,a,b,d,e,_⟩ := hb
    exact ⟨by omega,by omega,by omega,by omega⟩
  match k,h1,h7,hprev,H1,H2,H3,H5 with
  | 1,_,_,_,_,_,_,_ => exact judgeHosts_any _ _ _ _ _ _ _ _ _ _ _ _ _ _ w
  | 2,_,_,_,H1,_,_,_ => exact judgeParts_any c w hc hpl (H1 (by omega))
  | 3,_,_,_,_,_,_,_ => exact judgeFrame_any _ _ _ _ _ _ _ _ _ _ _ _ _ _ w
  | 4,_,_,_,_,H2,H3,_ => exact judgeWins_any c w hc hpl hs.wins (H3 (by omega)) (H2 (by omega)) (fun x hx => (lit_le (o6 x hx).2.1).2)
  | 5,_,_,_,H1,_,_,_ => exact judgeVLs_any c w hc hvl (fun v hv => by have := hs.tol v hv;unfold maxLen;omega) (by have := H1 (by omega);omega)
  | 6,_,_,_,_,_,_,H5 => exact judgePorts_any c w hc hpl hvl (fun v hv => by have := H5 (by omega) v hv;exact ⟨hs.tol v hv,by omega,by omega,by omega,by omega⟩) hs.ports o10
  | 7,_,_,_,H1,_,_,H5 => exact judgeJitters_any c w hc hs.vls (fun v hv => by have := H5 (by omega) v hv;omega) (by have := H1 (by omega);omega)
theorem firstJ_at (f : Nat → Int × Int) : ∀ (n k : Nat),k + n = 8 → (∀ i,1 ≤ i → i < k → (f i).2 = 0) → 1 ≤ k → firstJ f [1,2,3,4,5,6,7] = firstJ f ((List.range 8).drop k)
  | n, k,hk,h,h1 => by
    have e : ∀ i,1 ≤ i → i < k → firstJ f ((List.range 8).drop i) = firstJ f ((List.range 8).drop (i + 1)) := fun i hi hik => by
      rw [List.drop_eq_getElem_cons (by simp;omega),List.getElem_range,firstJ,if_pos (h i hi hik)]
    have key : ∀ j,1 ≤ j → j ≤ k → firstJ f ((List.range 8).drop 1) = firstJ f ((List.range 8).drop j) := by
      intro j
      induction j with
      | zero => intro h;omega
      | succ j ih =>
        intro _ hj
        by_cases e1 : j = 0
        · subst e1;rfl
        · rw [ih (by omega) (by omega),e j (by omega) (by omega)]
    exact key k h1 (Nat.le_refl _)
theorem firstJ_hit (f : Nat → Int × Int) (k : Nat) (h1 : 1 ≤ k) (h7 : k ≤ 7) (h : ∀ i,1 ≤ i → i < k → (f i).2 = 0) (hk : (f k).2 ≠ 0) : firstJ f [1,2,3,4,5,6,7] = ((k : Int),(f k).1,(f k).2) := by
  rw [firstJ_at f (8 - k) k (by omega) h h1,List.drop_eq_getElem_cons (by simp;omega),List.getElem_range,firstJ,if_neg hk]
theorem firstJ_none (f : Nat → Int × Int) (h : ∀ i,1 ≤ i → i < 8 → (f i).2 = 0) : firstJ f [1,2,3,4,5,6,7] = (0,0,0) := by
  rw [firstJ_at f 0 8 rfl h (by omega)];rfl
theorem cells_2 {w : World} {g : Nat} {t : TypeId} {x0 x1 : Value} (h : w.heap[g]? = some (.cells #[x0,x1] t)) : w.cell? ⟨g,0,none⟩ = some x0 ∧ w.cell? ⟨g,1,none⟩ = some x1 := ⟨lies_cell h 0,lies_cell h 1⟩
theorem read_2 {W : World} {g : Nat} {x0 x1 y0 y1 : Value} {t : TypeId} (h : W.heap[g]? = some (.cells #[x0,x1] t)) :
    (W.setCell ⟨g,0,none⟩ y0).cell? ⟨g,0,none⟩ = some y0 ∧ ((W.setCell ⟨g,0,none⟩ y0).setCell ⟨g,1,none⟩ y1).cell? ⟨g,1,none⟩ = some y1 := by
  have h0 : (W.setCell ⟨g,0,none⟩ y0).heap[g]? = some (.cells #[y0,x1] t) := lies_set h 0 _
  have h1 : ((W.setCell ⟨g,0,none⟩ y0).setCell ⟨g,1,none⟩ y1).heap[g]? = some (.cells #[y0,y1] t) := lies_set h0 1 _
  exact ⟨lies_cell h0 0,lies_cell h1 1⟩
set_option maxHeartbeats 8000000 in
theorem Check_any (c : Cx) (hs : Sm c) (w : World) (hc : c.Held w) : Calls Tryz.prog 13 #[c.val] w fun e w' => e = .returned (.tuple #[.agg #[.int .i64 (PitotConf.check c.pl).1,.int .i64 (PitotConf.check c.pl).2.1],.int .i64 (PitotConf.check c.pl).2.2]) ∧ Below w.heap.size w w' := by
  obtain ⟨R,HR⟩ : ∃ R,Hid (PitotConf.check c.pl = R) := ⟨_,rfl⟩
  rw [HR.out]
  rw [check_eq] at HR
  have HJ : Hid (∀ (k : Nat) (h1 : 1 ≤ k) (h7 : k ≤ 7) (hprev : ∀ i,1 ≤ i → i < k → (jd c i).2 = 0) (w' : World),Below w.heap.size w w' → Calls Tryz.prog (27 + k) #[c.val] w' fun e w'' => e = .returned (judged (jd c k)) ∧ Below w'.heap.size w' w'') := fun k h1 h7 hprev w' hb => judges_any c hs w' (hc.below hb) k h1 h7 hprev
  clear hs hc
  generalize jd c = jf at HJ HR
  obtain ⟨hosts,pA,pc,parts,major,wA,wk,wins,vA,vc,vls,qA,qc,ports⟩ := c
  show Calls Tryz.prog 13 #[.agg #[.int .i64 hosts,.slice pA parts.length pc,.int .i64 major,.slice wA wins.length wk,.slice vA vls.length vc,.slice qA ports.length qc]] w _
  have HJ : Hid (∀ (k : Nat) (h1 : 1 ≤ k) (h7 : k ≤ 7) (hprev : ∀ i,1 ≤ i → i < k → (jf i).2 = 0) (w' : World),Below w.heap.size w w' → Calls Tryz.prog (27 + k) #[.agg #[.int .i64 hosts,.slice pA parts.length pc,.int .i64 major,.slice wA wins.length wk,.slice vA vls.length vc,.slice qA ports.length qc]] w' fun e w'' => e = .returned (judged (jf k)) ∧ Below w'.heap.size w' w'') := HJ
  generalize wins.length = wl,parts.length = pl,vls.length = vl,ports.length = ql at HJ ⊢
  obtain ⟨r1,r2,r3⟩ := R
  simp only
  have BA : Hid (Below w.heap.size w (((w.alloc (.cells #[.int .i64 hosts,.slice pA pl pc,.int .i64 major,.slice wA wl wk,.slice vA vl vc,.slice qA ql qc] 28)).alloc (.cells #[.int .i64 0,.int .i64 0] 38)).alloc (.cells #[.nilFunc,.func (.func 28) #[] #[],.func (.func 29) #[] #[],.func (.func 30) #[] #[],.func (.func 31) #[] #[],.func (.func 32) #[] #[],.func (.func 33) #[] #[],.func (.func 34) #[] #[]] 76))) := by
    have k1 : Below w.heap.size w (w.alloc (.cells #[.int .i64 hosts,.slice pA pl pc,.int .i64 major,.slice wA wl wk,.slice vA vl vc,.slice qA ql qc] 28)) := (Below.refl _ w).alloc (Nat.le_refl _) _
    have k2 := k1.alloc k1.size (.cells #[.int .i64 0,.int .i64 0] 38)
    exact k2.alloc k2.size _
  have CA : Hid ((((w.alloc (.cells #[.int .i64 hosts,.slice pA pl pc,.int .i64 major,.slice wA wl wk,.slice vA vl vc,.slice qA ql qc] 28)).alloc (.cells #[.int .i64 0,.int .i64 0] 38)).alloc (.cells #[.nilFunc,.func (.func 28) #[] #[],.func (.func 29) #[] #[],.func (.func 30) #[] #[],.func (.func 31) #[] #[],.func (.func 32) #[] #[],.func (.func 33) #[] #[],.func (.func 34) #[] #[]] 76)).heap[w.heap.size]? = some (.cells #[.int .i64 hosts,.slice pA pl pc,.int .i64 major,.slice wA wl wk,.slice vA vl vc,.slice qA ql qc] 28)) := lies_alloc (lies_alloc (heap_alloc_new w _) _) _
  have RA : Hid ((((w.alloc (.cells #[.int .i64 hosts,.slice pA pl pc,.int .i64 major,.slice wA wl wk,.slice vA vl vc,.slice qA ql qc] 28)).alloc (.cells #[.int .i64 0,.int .i64 0] 38)).alloc (.cells #[.nilFunc,.func (.func 28) #[] #[],.func (.func 29) #[] #[],.func (.func 30) #[] #[],.func (.func 31) #[] #[],.func (.func 32) #[] #[],.func (.func 33) #[] #[],.func (.func 34) #[] #[]] 76)).heap[w.heap.size + 1]? = some (.cells #[.int .i64 0,.int .i64 0] 38)) := by
    have := heap_alloc_new (w.alloc (.cells #[.int .i64 hosts,.slice pA pl pc,.int .i64 major,.slice wA wl wk,.slice vA vl vc,.slice qA ql qc] 28)) (.cells #[.int .i64 0,.int .i64 0] 38)
    rw [World.size_alloc] at this
    exact lies_alloc this _
  have AA : Hid ((((w.alloc (.cells #[.int .i64 hosts,.slice pA pl pc,.int .i64 major,.slice wA wl wk,.slice vA vl vc,.slice qA ql qc] 28)).alloc (.cells #[.int .i64 0,.int .i64 0] 38)).alloc (.cells #[.nilFunc,.func (.func 28) #[] #[],.func (.func 29) #[] #[],.func (.func 30) #[] #[],.func (.func 31) #[] #[],.func (.func 32) #[] #[],.func (.func 33) #[] #[],.func (.func 34) #[] #[]] 76)).heap[w.heap.size + 2]? = some (.cells #[.nilFunc,.func (.func 28) #[] #[],.func (.func 29) #[] #[],.func (.func 30) #[] #[],.func (.func 31) #[] #[],.func (.func 32) #[] #[],.func (.func 33) #[] #[],.func (.func 34) #[] #[]] 76)) := by
    have := heap_alloc_new ((w.alloc (.cells #[.int .i64 hosts,.slice pA pl pc,.int .i64 major,.slice wA wl wk,.slice vA vl vc,.slice qA ql qc] 28)).alloc (.cells #[.int .i64 0,.int .i64 0] 38)) (.cells #[.nilFunc,.func (.func 28) #[] #[],.func (.func 29) #[] #[],.func (.func 30) #[] #[],.func (.func 31) #[] #[],.func (.func 32) #[] #[],.func (.func 33) #[] #[],.func (.func 34) #[] #[]] 76)
    rw [World.size_alloc,World.size_alloc] at this
    exact this
  go_enter Tryz.func13,Tryz.ntmps13
  go_upto_region 2 with (fail)
  have CW := CA
  have RW := RA
  have AW := AA
  have BW := BA
  clear CA RA AA BA
  generalize ((w.alloc (.cells #[.int .i64 hosts,.slice pA pl pc,.int .i64 major,.slice wA wl wk,.slice vA vl vc,.slice qA ql qc] 28)).alloc (.cells #[.int .i64 0,.int .i64 0] 38)).alloc (.cells #[.nilFunc,.func (.func 28) #[] #[],.func (.func 29) #[] #[],.func (.func 30) #[] #[],.func (.func 31) #[] #[],.func (.func 32) #[] #[],.func (.func 33) #[] #[],.func (.func 34) #[] #[]] 76) = W8 at CW RW BW AW ⊢
  go_wp2
  go_loopw [5] (fun v5 wr => ∃ k : Nat,1 ≤ k ∧ k ≤ 8 ∧ v5 = .int .i64 k ∧ Hid (∀ i,1 ≤ i → i < k → (jf i).2 = 0) ∧ wr.heap[w.heap.size]? = some (.cells #[.int .i64 hosts,.slice pA pl pc,.int .i64 major,.slice wA wl wk,.slice vA vl vc,.slice qA ql qc] 28) ∧ wr.heap[w.heap.size + 1]? = some (.cells #[.int .i64 0,.int .i64 0] 38) ∧ wr.heap[w.heap.size + 2]? = some (.cells #[.nilFunc,.func (.func 28) #[] #[],.func (.func 29) #[] #[],.func (.func 30) #[] #[],.func (.func 31) #[] #[],.func (.func 32) #[] #[],.func (.func 33) #[] #[],.func (.func 34) #[] #[]] 76) ∧ Below w.heap.size w wr) (fun v5 _ => 8 - (intOf v5).toNat)
  case atStart => exact ⟨1,by omega,by omega,rfl,fun i h1 h2 => by omega,CW.out,RW.out,AW.out,BW.out⟩
  case round =>
    obtain ⟨k,hk1,hk8,rfl,hp,hC,hR,hA,hB⟩ := hrel
    have HC := Lib.hid hC;have HRR := Lib.hid hR;have HA := Lib.hid hA;have HB := Lib.hid hB
    clear hC hR hA hB CW RW BW AW
    by_cases h7 : k ≤ 7
    · have HJK := HJ.out k hk1 h7 hp.out
      obtain ⟨E,hE⟩ : ∃ E,(jf k).2 = E := ⟨_,rfl⟩
      obtain ⟨A,hA⟩ : ∃ A,(jf k).1 = A := ⟨_,rfl⟩
      have HP : Hid (∀ w' : World,Below w.heap.size w w' → Calls Tryz.prog (27 + k) #[.agg #[.int .i64 hosts,.slice pA pl pc,.int .i64 major,.slice wA wl wk,.slice vA vl vc,.slice qA ql qc]] w' fun e w'' => e = .returned (.tuple #[.int .i64 A,.int .i64 E]) ∧ Below w'.heap.size w' w'') := by
        rw [← hE,← hA];exact HJK
      have HPW := Lib.hid (fun w' (hb : Below wr.heap.size wr w') => HP.out w' (HB.out.trans (hb.mono HB.out.size)))
      clear HJK HP
      have HHIT : Hid (E ≠ 0 → ((k : Int),A,E) = (r1,r2,r3)) := fun he => by
        rw [← HR.out,firstJ_hit jf k hk1 h7 hp.out (by rw [hE];exact he),hA,hE]
      have HGO : Hid (E = 0 → ∀ i,1 ≤ i → i < k + 1 → (jf i).2 = 0) := fun he i h1 h2 => by
        by_cases e : i = k
        · rw [e,hE,he]
        · exact hp.out i h1 (by omega)
      clear hE hA hp
      obtain ⟨q0,q1⟩ := cells_2 HRR.out
      have fq0 := lies_frozen HRR.out 0
      have fq1 := lies_frozen HRR.out 1
      have hks : k = 1 ∨ k = 2 ∨ k = 3 ∨ k = 4 ∨ k = 5 ∨ k = 6 ∨ k = 7 := by omega
      rcases hks with rfl | rfl | rfl | rfl | rfl | rfl | rfl
      · go_upto_region 5 with (fail)
        refine call_1 HC HA HPW (fun _ _ _ _ _ h => h) ?_
        intro wc hwc z14 z15 z16 z17 z18 z13 z19 z20
        have C2 := Lib.hid (lies_below HC.out hwc (lies_lt HC.out))
        have R2 := Lib.hid (lies_below HRR.out hwc (lies_lt HRR.out))
        have A2 := Lib.hid (lies_below HA.out hwc (lies_lt HA.out))
        have B2 := Lib.hid (HB.out.trans (hwc.mono HB.out.size))
        clear q0 q1 fq0 fq1 hwc HC HRR HA HB
        obtain ⟨q0,q1⟩ := cells_2 R2.out
        have fq0 := lies_frozen R2.out 0
        have fq1 := lies_frozen R2.out 1
        by_cases g : E = 0
        · have g1 : (E == 0) = true := by rw [g];rfl
          go_wp2
          go_roundw
          case rel => exact ⟨_,_,_,_,_,_,_,_,_,_,_,_,_,_,_,_,_,_,_,_,_,_,⟨2,by omega,by omega,by go_num,HGO.out g,C2.out,R2.out,A2.out,B2.out⟩,rfl⟩
          case measure => simp [intOf]
        · have g1 : (E == 0) = false := by simpa using g
          have HT := Lib.hid (HHIT.out g)
          clear HHIT HGO g
          go_wp2
          (try simp only [Exit.inBlock,Exit.then])
          obtain ⟨k0,k1⟩ := read_2 (y0 := .int .i64 1) (y1 := .int .i64 A) R2.out
          refine bodyPost_ret (by simp [results,Tryz.results13,go_sem,k0,k1];try rfl) rfl ?_
          have := HT.out
          injection this with h1 h2
          injection h2 with h2 h3
          subst h1;subst h2;subst h3
          exact ⟨rfl,(B2.out.setCell (show w.heap.size ≤ w.heap.size + 1 by omega) _).setCell (show w.heap.size ≤ w.heap.size + 1 by omega) _⟩
      · go_upto_region 5 with (fail)
        refine call_2 HC HA HPW (fun _ _ _ _ _ h => h) ?_
        intro wc hwc z14 z15 z16 z17 z18 z13 z19 z20
        have C2 := Lib.hid (lies_below HC.out hwc (lies_lt HC.out))
        have R2 := Lib.hid (lies_below HRR.out hwc (lies_lt HRR.out))
        have A2 := Lib.hid (lies_below HA.out hwc (lies_lt HA.out))
        have B2 := Lib.hid (HB.out.trans (hwc.mono HB.out.size))
        clear q0 q1 fq0 fq1 hwc HC HRR HA HB
        obtain ⟨q0,q1⟩ := cells_2 R2.out
        have fq0 := lies_frozen R2.out 0
        have fq1 := lies_frozen R2.out 1
        by_cases g : E = 0
        · have g1 : (E == 0) = true := by rw [g];rfl
          go_wp2
          go_roundw
          case rel => exact ⟨_,_,_,_,_,_,_,_,_,_,_,_,_,_,_,_,_,_,_,_,_,_,⟨3,by omega,by omega,by go_num,HGO.out g,C2.out,R2.out,A2.out,B2.out⟩,rfl⟩
          case measure => simp [intOf]
        · have g1 : (E == 0) = false := by simpa using g
          have HT := Lib.hid (HHIT.out g)
          clear HHIT HGO g
          go_wp2
          (try simp only [Exit.inBlock,Exit.then])
          obtain ⟨k0,k1⟩ := read_2 (y0 := .int .i64 2) (y1 := .int .i64 A) R2.out
          refine bodyPost_ret (by simp [results,Tryz.results13,go_sem,k0,k1];try rfl) rfl ?_
          have := HT.out
          injection this with h1 h2
          injection h2 with h2 h3
          subst h1;subst h2;subst h3
          exact ⟨rfl,(B2.out.setCell (show w.heap.size ≤ w.heap.size + 1 by omega) _).setCell (show w.heap.size ≤ w.heap.size + 1 by omega) _⟩
      · go_upto_region 5 with (fail)
        refine call_3 HC HA HPW (fun _ _ _ _ _ h => h) ?_
        intro wc hwc z14 z15 z16 z17 z18 z13 z19 z20
        have C2 := Lib.hid (lies_below HC.out hwc (lies_lt HC.out))
        have R2 := Lib.hid (lies_below HRR.out hwc (lies_lt HRR.out))
        have A2 := Lib.hid (lies_below HA.out hwc (lies_lt HA.out))
        have B2 := Lib.hid (HB.out.trans (hwc.mono HB.out.size))
        clear q0 q1 fq0 fq1 hwc HC HRR HA HB
        obtain ⟨q0,q1⟩ := cells_2 R2.out
        have fq0 := lies_frozen R2.out 0
        have fq1 := lies_frozen R2.out 1
        by_cases g : E = 0
        · have g1 : (E == 0) = true := by rw [g];rfl
          go_wp2
          go_roundw
          case rel => exact ⟨_,_,_,_,_,_,_,_,_,_,_,_,_,_,_,_,_,_,_,_,_,_,⟨4,by omega,by omega,by go_num,HGO.out g,C2.out,R2.out,A2.out,B2.out⟩,rfl⟩
          case measure => simp [intOf]
        · have g1 : (E == 0) = false := by simpa using g
          have HT := Lib.hid (HHIT.out g)
          clear HHIT HGO g
          go_wp2
          (try simp only [Exit.inBlock,Exit.then])
          obtain ⟨k0,k1⟩ := read_2 (y0 := .int .i64 3) (y1 := .int .i64 A) R2.out
          refine bodyPost_ret (by simp [results,Tryz.results13,go_sem,k0,k1];try rfl) rfl ?_
          have := HT.out
          injection this with h1 h2
          injection h2 with h2 h3
          subst h1;subst h2;subst h3
          exact ⟨rfl,(B2.out.setCell (show w.heap.size ≤ w.heap.size + 1 by omega) _).setCell (show w.heap.size ≤ w.heap.size + 1 by omega) _⟩
      · go_upto_region 5 with (fail)
        refine call_4 HC HA HPW (fun _ _ _ _ _ h => h) ?_
        intro wc hwc z14 z15 z16 z17 z18 z13 z19 z20
        have C2 := Lib.hid (lies_below HC.out hwc (lies_lt HC.out))
        have R2 := Lib.hid (lies_below HRR.out hwc (lies_lt HRR.out))
        have A2 := Lib.hid (lies_below HA.out hwc (lies_lt HA.out))
        have B2 := Lib.hid (HB.out.trans (hwc.mono HB.out.size))
        clear q0 q1 fq0 fq1 hwc HC HRR HA HB
        obtain ⟨q0,q1⟩ := cells_2 R2.out
        have fq0 := lies_frozen R2.out 0
        have fq1 := lies_frozen R2.out 1
        by_cases g : E = 0
        · have g1 : (E == 0) = true := by rw [g];rfl
          go_wp2
          go_roundw
          case rel => exact ⟨_,_,_,_,_,_,_,_,_,_,_,_,_,_,_,_,_,_,_,_,_,_,⟨5,by omega,by omega,by go_num,HGO.out g,C2.out,R2.out,A2.out,B2.out⟩,rfl⟩
          case measure => simp [intOf]
        · have g1 : (E == 0) = false := by simpa using g
          have HT := Lib.hid (HHIT.out g)
          clear HHIT HGO g
          go_wp2
          (try simp only [Exit.inBlock,Exit.then])
          obtain ⟨k0,k1⟩ := read_2 (y0 := .int .i64 4) (y1 := .int .i64 A) R2.out
          refine bodyPost_ret (by simp [results,Tryz.results13,go_sem,k0,k1];try rfl) rfl ?_
          have := HT.out
          injection this with h1 h2
          injection h2 with h2 h3
          subst h1;subst h2;subst h3
          exact ⟨rfl,(B2.out.setCell (show w.heap.size ≤ w.heap.size + 1 by omega) _).setCell (show w.heap.size ≤ w.heap.size + 1 by omega) _⟩
      · go_upto_region 5 with (fail)
        refine call_5 HC HA HPW (fun _ _ _ _ _ h => h) ?_
        intro wc hwc z14 z15 z16 z17 z18 z13 z19 z20
        have C2 := Lib.hid (lies_below HC.out hwc (lies_lt HC.out))
        have R2 := Lib.hid (lies_below HRR.out hwc (lies_lt HRR.out))
        have A2 := Lib.hid (lies_below HA.out hwc (lies_lt HA.out))
        have B2 := Lib.hid (HB.out.trans (hwc.mono HB.out.size))
        clear q0 q1 fq0 fq1 hwc HC HRR HA HB
        obtain ⟨q0,q1⟩ := cells_2 R2.out
        have fq0 := lies_frozen R2.out 0
        have fq1 := lies_frozen R2.out 1
        by_cases g : E = 0
        · have g1 : (E == 0) = true := by rw [g];rfl
          go_wp2
          go_roundw
          case rel => exact ⟨_,_,_,_,_,_,_,_,_,_,_,_,_,_,_,_,_,_,_,_,_,_,⟨6,by omega,by omega,by go_num,HGO.out g,C2.out,R2.out,A2.out,B2.out⟩,rfl⟩
          case measure => simp [intOf]
        · have g1 : (E == 0) = false := by simpa using g
          have HT := Lib.hid (HHIT.out g)
          clear HHIT HGO g
          go_wp2
          (try simp only [Exit.inBlock,Exit.then])
          obtain ⟨k0,k1⟩ := read_2 (y0 := .int .i64 5) (y1 := .int .i64 A) R2.out
          refine bodyPost_ret (by simp [results,Tryz.results13,go_sem,k0,k1];try rfl) rfl ?_
          have := HT.out
          injection this with h1 h2
          injection h2 with h2 h3
          subst h1;subst h2;subst h3
          exact ⟨rfl,(B2.out.setCell (show w.heap.size ≤ w.heap.size + 1 by omega) _).setCell (show w.heap.size ≤ w.heap.size + 1 by omega) _⟩
      · go_upto_region 5 with (fail)
        refine call_6 HC HA HPW (fun _ _ _ _ _ h => h) ?_
        intro wc hwc z14 z15 z16 z17 z18 z13 z19 z20
        have C2 := Lib.hid (lies_below HC.out hwc (lies_lt HC.out))
        have R2 := Lib.hid (lies_below HRR.out hwc (lies_lt HRR.out))
        have A2 := Lib.hid (lies_below HA.out hwc (lies_lt HA.out))
        have B2 := Lib.hid (HB.out.trans (hwc.mono HB.out.size))
        clear q0 q1 fq0 fq1 hwc HC HRR HA HB
        obtain ⟨q0,q1⟩ := cells_2 R2.out
        have fq0 := lies_frozen R2.out 0
        have fq1 := lies_frozen R2.out 1
        by_cases g : E = 0
        · have g1 : (E == 0) = true := by rw [g];rfl
          go_wp2
          go_roundw
          case rel => exact ⟨_,_,_,_,_,_,_,_,_,_,_,_,_,_,_,_,_,_,_,_,_,_,⟨7,by omega,by omega,by go_num,HGO.out g,C2.out,R2.out,A2.out,B2.out⟩,rfl⟩
          case measure => simp [intOf]
        · have g1 : (E == 0) = false := by simpa using g
          have HT := Lib.hid (HHIT.out g)
          clear HHIT HGO g
          go_wp2
          (try simp only [Exit.inBlock,Exit.then])
          obtain ⟨k0,k1⟩ := read_2 (y0 := .int .i64 6) (y1 := .int .i64 A) R2.out
          refine bodyPost_ret (by simp [results,Tryz.results13,go_sem,k0,k1];try rfl) rfl ?_
          have := HT.out
          injection this with h1 h2
          injection h2 with h2 h3
          subst h1;subst h2;subst h3
          exact ⟨rfl,(B2.out.setCell (show w.heap.size ≤ w.heap.size + 1 by omega) _).setCell (show w.heap.size ≤ w.heap.size + 1 by omega) _⟩
      · go_upto_region 5 with (fail)
        refine call_7 HC HA HPW (fun _ _ _ _ _ h => h) ?_
        intro wc hwc z14 z15 z16 z17 z18 z13 z19 z20
        have C2 := Lib.hid (lies_below HC.out hwc (lies_lt HC.out))
        have R2 := Lib.hid (lies_below HRR.out hwc (lies_lt HRR.out))
        have A2 := Lib.hid (lies_below HA.out hwc (lies_lt HA.out))
        have B2 := Lib.hid (HB.out.trans (hwc.mono HB.out.size))
        clear q0 q1 fq0 fq1 hwc HC HRR HA HB
        obtain ⟨q0,q1⟩ := cells_2 R2.out
        have fq0 := lies_frozen R2.out 0
        have fq1 := lies_frozen R2.out 1
        by_cases g : E = 0
        · have g1 : (E == 0) = true := by rw [g];rfl
          go_wp2
          go_roundw
          case rel => exact ⟨_,_,_,_,_,_,_,_,_,_,_,_,_,_,_,_,_,_,_,_,_,_,⟨8,by omega,by omega,by go_num,HGO.out g,C2.out,R2.out,A2.out,B2.out⟩,rfl⟩
          case measure => simp [intOf]
        · have g1 : (E == 0) = false := by simpa using g
          have HT := Lib.hid (HHIT.out g)
          clear HHIT HGO g
          go_wp2
          (try simp only [Exit.inBlock,Exit.then])
          obtain ⟨k0,k1⟩ := read_2 (y0 := .int .i64 7) (y1 := .int .i64 A) R2.out
          refine bodyPost_ret (by simp [results,Tryz.results13,go_sem,k0,k1];try rfl) rfl ?_
          have := HT.out
          injection this with h1 h2
          injection h2 with h2 h3
          subst h1;subst h2;subst h3
          exact ⟨rfl,(B2.out.setCell (show w.heap.size ≤ w.heap.size + 1 by omega) _).setCell (show w.heap.size ≤ w.heap.size + 1 by omega) _⟩
    · have e8 : k = 8 := by omega
      subst e8
      have HT : Hid (((0 : Int),(0 : Int),(0 : Int)) = (r1,r2,r3)) := by
        show _ = _
        rw [← HR.out,firstJ_none jf hp.out]
      obtain ⟨q0,q1⟩ := cells_2 HRR.out
      have fq0 := lies_frozen HRR.out 0
      have fq1 := lies_frozen HRR.out 1
      go_wp2
      (try simp only [Exit.inBlock,Exit.then])
      obtain ⟨k0,k1⟩ := read_2 (y0 := .int .i64 0) (y1 := .int .i64 0) HRR.out
      refine bodyPost_ret (by simp [results,Tryz.results13,go_sem,k0,k1];try rfl) rfl ?_
      have := HT.out
      injection this with h1 h2
      injection h2 with h2 h3
      subst h1;subst h2;subst h3
      exact ⟨rfl,(HB.out.setCell (show w.heap.size ≤ w.heap.size + 1 by omega) _).setCell (show w.heap.size ≤ w.heap.size + 1 by omega) _⟩
end Go.Proofs.YtdgkanamceeheaaGreat
