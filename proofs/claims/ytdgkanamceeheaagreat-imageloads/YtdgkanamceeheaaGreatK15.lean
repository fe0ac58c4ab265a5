/- The document's put: a number is put into a row that rises (trial). The program looks at the partitions. -/
import Derived.Test.YtdgkanamceeheaaGreatK14
import Derived.Test.YtdgkanamceeheaaGreatK5
import Derived.Deep.AppendLies
import Derived.Deep.AppendSrc
set_option linter.unusedVariables false
set_option maxRecDepth 100000
namespace Go.Proofs.YtdgkanamceeheaaGreat
open Go.RowKit Go.Deep
def enI (l : List Int) : List Value := l.map (Value.int .i64)
theorem info3 : (Tryz.prog.info? 3).map (fun i => (i.zero,i.size,i.bytes)) = some (some (.int .i64 0),1,8) := by kernel_rfl
end Go.Proofs.YtdgkanamceeheaaGreat
set_option maxRecDepth 100000
namespace Go.Proofs.YtdgkanamceeheaaGreat
open Go.RowKit
def told (o : Option (Nat × Int)) : Int × Int := match o with
  | some x => ((x.1 : Int),x.2)
  | none => (0,0)
abbrev judged (x : Int × Int) : Value := .tuple #[.int .i64 x.1,.int .i64 x.2]
theorem scan_step {α : Type} (J : List α → α → Int) (l : List α) (k : Nat) (h : k < l.length) : PitotConf.scan J (l.take k) (l.drop k) = if J (l.take k) l[k] = 0 then PitotConf.scan J (l.take (k + 1)) (l.drop (k + 1)) else some (k,J (l.take k) l[k]) := by
  rw [List.drop_eq_getElem_cons h,PitotConf.scan,List.take_succ_eq_append_getElem h,List.length_take,Nat.min_eq_left (by omega)]
theorem scan_end {α : Type} (J : List α → α → Int) (l : List α) (k : Nat) (h : l.length ≤ k) : PitotConf.scan J (l.take k) (l.drop k) = none := by
  rw [List.drop_of_length_le h];rfl
set_option maxHeartbeats 2000000 in
theorem judgeParts_any (c : Cx) (w : World) (hc : c.Held w) (hl : c.parts.length ≤ maxLen) (h0 : 1 ≤ c.hosts ∧ c.hosts ≤ 64) : Calls Tryz.prog 29 #[c.val] w fun e w' => e = .returned (judged (told (PitotConf.scan (PitotConf.partJ c.hosts) [] c.parts))) ∧ Below w.heap.size w w' := by
  unfold maxLen at hl
  have HV : Hid (IntsAt w c.partsA c.parts) := hc.1
  clear hc
  obtain ⟨R,HR⟩ : ∃ R,Hid (told (PitotConf.scan (PitotConf.partJ c.hosts) [] c.parts) = R) := ⟨_,rfl⟩
  rw [HR.out]
  obtain ⟨hosts,pA,pc,parts,major,wA,wk,wins,vA,vc,vls,qA,qc,ports⟩ := c
  simp only at HV HR hl h0 ⊢
  obtain ⟨m,Hm⟩ : ∃ m,Hid (parts.length = m) := ⟨_,rfl⟩
  obtain ⟨wl,_⟩ : ∃ n,wins.length = n := ⟨_,rfl⟩
  show Calls Tryz.prog 29 #[.agg #[.int .i64 hosts,.slice pA parts.length pc,.int .i64 major,.slice wA wins.length wk,.slice vA vls.length vc,.slice qA ports.length qc]] w _
  rw [Hm.out] at hl ⊢
  generalize wins.length = wl,vls.length = vl,ports.length = ql
  obtain ⟨ra,re⟩ := R
  have HH := Lib.hid (fun n w => isHost_any hosts major pA wA vA qA m pc wl wk vl vc ql qc n w (by omega) (by omega))
  have CB : Hid ((w.alloc (.cells #[.int .i64 hosts,.slice pA m pc,.int .i64 major,.slice wA wl wk,.slice vA vl vc,.slice qA ql qc] 28)).heap[w.heap.size]? = some (.cells #[.int .i64 hosts,.slice pA m pc,.int .i64 major,.slice wA wl wk,.slice vA vl vc,.slice qA ql qc] 28)) := heap_alloc_new w _
  have BB : Hid (Below w.heap.size w (w.alloc (.cells #[.int .i64 hosts,.slice pA m pc,.int .i64 major,.slice wA wl wk,.slice vA vl vc,.slice qA ql qc] 28))) := (Below.refl _ w).alloc (Nat.le_refl _) _
  go_enter Tryz.func29,Tryz.ntmps29
  go_wp2
  go_loopw [9] (fun v9 wr => ∃ k : Nat,k ≤ m ∧ v9 = .int .i64 k ∧ Hid (told (PitotConf.scan (PitotConf.partJ hosts) (parts.take k) (parts.drop k)) = (ra,re)) ∧ wr.heap[w.heap.size]? = some (.cells #[.int .i64 hosts,.slice pA m pc,.int .i64 major,.slice wA wl wk,.slice vA vl vc,.slice qA ql qc] 28) ∧ Below w.heap.size w wr) (fun v9 _ => m - (intOf v9).toNat)
  case atStart => exact ⟨0,Nat.zero_le _,rfl,HR,CB.out,BB.out⟩
  case round =>
    obtain ⟨k,hk,rfl,ht,hC,hB⟩ := hrel
    have HB := Lib.hid hB;have HC := Lib.hid hC
    clear hB hC
    obtain ⟨c0,c1,c2,c3,c4,c5⟩ := cells_6 HC.out
    by_cases hkm : k < m
    · have hkl : k < parts.length := by rw [Hm.out];exact hkm
      have e1 : decide ((k : Int) < (m : Int)) = true := decide_eq_true (by omega)
      have e1' : decide (k < m) = true := decide_eq_true hkm
      obtain ⟨b,off,rfl,hb,hat⟩ := HV.out.get hkl
      have hat : wr.cell? ⟨b,off + k,none⟩ = some (.int .i64 parts[k]) := (HB.out.cell hb).trans hat
      have hs := scan_step (PitotConf.partJ hosts) parts k hkl
      have hJ : PitotConf.partJ hosts (parts.take k) parts[k] = if 64 ≤ k ∨ PitotConf.isHost hosts parts[k] = false then 1 else 0 := by
        rw [PitotConf.partJ,List.length_take,Nat.min_eq_left (by omega)]
      generalize parts[k] = x at hat hs hJ
      generalize PitotConf.partJ hosts (parts.take k) x = J at hs hJ
      by_cases g0 : 64 ≤ k
      · have f0 : decide (64 ≤ (k : Int)) = true := decide_eq_true (by omega)
        have f0' : decide (64 ≤ k) = true := decide_eq_true g0
        have HT : Hid (((k : Int),(1 : Int)) = (ra,re)) := by
          show _ = _
          have hJ1 : J = 1 := by rw [hJ,if_pos (Or.inl g0)]
          rw [← ht.out,hs,if_neg (by rw [hJ1];decide),hJ1];rfl
        clear hs hJ g0 ht
        go_wp2
        go_returns
        have := HT.out
        injection this with h1 h2
        subst h1;subst h2
        exact ⟨rfl,HB.out⟩
      · have f0 : decide (64 ≤ (k : Int)) = false := decide_eq_false (by omega)
        have f0' : decide (64 ≤ k) = false := decide_eq_false g0
        have HX := HH.out x
        cases hp : PitotConf.isHost hosts x
        · rw [hp] at HX
          have HX := Lib.hid HX
          have HT : Hid (((k : Int),(1 : Int)) = (ra,re)) := by
            show _ = _
            have hJ1 : J = 1 := by rw [hJ,if_pos (Or.inr hp)]
            rw [← ht.out,hs,if_neg (by rw [hJ1];decide),hJ1];rfl
          clear hs hJ hp g0 ht
          go_wp2_with (go_at_call 76;(with_reducible refine (HX.out _).mono ?_);rintro e w2 ⟨rfl,hb2⟩)
          go_returns
          have := HT.out
          injection this with h1 h2
          subst h1;subst h2
          exact ⟨rfl,HB.out.trans (hb2.mono HB.out.size)⟩
        · rw [hp] at HX
          have HX := Lib.hid HX
          have HT : Hid (told (PitotConf.scan (PitotConf.partJ hosts) (parts.take (k + 1)) (parts.drop (k + 1))) = (ra,re)) := by
            show _ = _
            have hJ1 : J = 0 := by rw [hJ,if_neg (by rw [hp];simp;omega)]
            rw [← ht.out,hs,if_pos hJ1]
          clear hs hJ hp g0 ht
          go_wp2_with (go_at_call 76;(with_reducible refine (HX.out _).mono ?_);rintro e w2 ⟨rfl,hb2⟩)
          have HB2 := Lib.hid (HB.out.trans (hb2.mono HB.out.size))
          have HC2 := Lib.hid (lies_below HC.out hb2 (lies_lt HC.out))
          clear hb2
          go_roundw
          case rel => exact ⟨k + 1,by omega,by go_num,HT,HC2.out,HB2.out⟩
          case measure => simp [intOf];omega
    · have e1 : decide ((k : Int) < (m : Int)) = false := decide_eq_false (by omega)
      have e1' : decide (k < m) = false := decide_eq_false hkm
      have HT : Hid (((0 : Int),(0 : Int)) = (ra,re)) := by
        show _ = _
        rw [← ht.out,scan_end _ _ _ (by rw [Hm.out];omega)];rfl
      clear ht
      go_wp2
      go_returns
      have := HT.out
      injection this with h1 h2
      subst h1;subst h2
      exact ⟨rfl,HB.out⟩
end Go.Proofs.YtdgkanamceeheaaGreat
