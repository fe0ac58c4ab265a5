/- The program finds a link. -/
import Derived.Test.YtdgkanamceeheaaGreatK19
set_option linter.unusedVariables false
set_option maxRecDepth 100000
namespace Go.Proofs.YtdgkanamceeheaaGreat
open Go.RowKit
theorem list_cells {w : World} {A : Option Addr} {xs : List Int} (h : IntsAt w A xs) (hne : xs ≠ []) : ∃ b off,A = some ⟨b,off,none⟩ ∧ ∀ j,j < xs.length → w.cell? ⟨b,off + j,none⟩ = some (.int .i64 (xs.getD j 0)) := by
  obtain ⟨b,off,e,_,hc⟩ := h hne
  refine ⟨b,off,e,fun j hj => ?_⟩
  have := hc j hj
  rw [this];simp [List.getD,hj]
theorem containsI_any (A : Option Addr) (cap : Nat) (l : List Int) (n : Int) (w : World) (hx : IntsAt w A l) (hl : l.length ≤ maxLen) : Calls Tryz.prog 124 #[.slice A l.length cap,.int .i64 n] w fun e w' => e = .returned (.bool (l.contains n)) ∧ w' = w := by
  unfold maxLen at hl
  by_cases hne : l = []
  · subst hne
    exact Tryz.slices_Contains_int_empty A cap n w
  · obtain ⟨b,off,rfl,hc⟩ := list_cells hx hne
    have := Tryz.slices_Contains_int b off l.length cap l n w (Nat.le_refl _) (by omega) hc
    rw [List.take_length] at this
    exact this
def IntsFrom (B : Nat) (w : World) (A : Option Addr) (xs : List Int) : Prop :=
  xs ≠ [] → ∃ g,A = some ⟨g,0,none⟩ ∧ B ≤ g ∧ g < w.heap.size ∧ ∀ i (h : i < xs.length),w.cell? ⟨g,0 + i,none⟩ = some (.int .i64 xs[i])
theorem IntsFrom.ints {B : Nat} {w : World} {A : Option Addr} {xs : List Int} (h : IntsFrom B w A xs) : IntsAt w A xs := fun hne => by
  obtain ⟨g,e,_,hlt,hc⟩ := h hne
  exact ⟨g,0,e,hlt,hc⟩
theorem IntsFrom.keep {B : Nat} {w w' : World} {A : Option Addr} {xs : List Int} (h : IntsFrom B w A xs) (hk : ∀ g,B ≤ g → g < w.heap.size → w'.heap[g]? = w.heap[g]?) (hs : w.heap.size ≤ w'.heap.size) : IntsFrom B w' A xs := fun hne => by
  obtain ⟨g,e,hB,hlt,hc⟩ := h hne
  refine ⟨g,e,hB,by omega,fun i hi => ?_⟩
  have := hc i hi
  simp only [World.cell?] at this ⊢
  rw [hk g hB hlt]
  exact this
theorem row_from {w : World} {B : Nat} {v : Value} {l : List Int} (h : w.ownsRow B 3 1 v l.length (enI l)) : ∃ A cap,v = .slice A l.length cap ∧ IntsFrom B w A l := by
  by_cases h0 : 0 < l.length
  · obtain ⟨g,cap,hv,hg,hlt⟩ := h.form h0
    refine ⟨some ⟨g,0,none⟩,cap,hv,fun _ => ⟨g,rfl,hg,hlt,fun i hi => ?_⟩⟩
    have := h.cells (g := g) (by rw [hv];rfl) i (.int .i64 l[i]) (by simp [enI,hi])
    rw [show (⟨g,0,none⟩ : Addr).add i = ⟨g,0 + i,none⟩ by unfold Addr.add;split <;> simp_all] at this
    exact this
  · have hl : l = [] := List.length_eq_zero_iff.1 (by omega)
    subst hl
    rcases h.2 with ⟨e,_⟩ | ⟨g,cap,cur,e,_⟩
    · exact ⟨none,0,by rw [e];rfl,fun h => absurd rfl h⟩
    · exact ⟨_,cap,e,fun h => absurd rfl h⟩
theorem clone_any (A : Option Addr) (cap : Nat) (l : List Int) (w : World) (hx : IntsAt w A l) (hl : l.length ≤ 5000) : Calls Tryz.prog 123 #[.slice A l.length cap] w fun e w' => (∃ A' cap',e = .returned (.slice A' l.length cap') ∧ IntsFrom w.heap.size w' A' l) ∧ Below w.heap.size w w' := by
  by_cases hne : l = []
  · subst hne
    cases A with
    | none => exact (Tryz.slices_Clone_int_nil 0 cap w).mono fun e w' h => ⟨⟨none,0,h.1,fun h => absurd rfl h⟩,by rw [h.2];exact Below.refl _ _⟩
    | some a =>
      refine (Tryz.slices_Clone_int_zero a cap w).mono ?_
      rintro e w' ⟨v',rfl,h,_,hb⟩
      obtain ⟨A',cap',rfl,hi⟩ := row_from (l := []) h
      exact ⟨⟨A',cap',rfl,hi⟩,hb⟩
  · obtain ⟨b,off,rfl,hc⟩ := list_cells hx hne
    refine (Tryz.slices_Clone_int b off l.length cap l w (Nat.le_refl _) (by omega) hc).mono ?_
    rintro e w' ⟨v',rfl,h,_,hb⟩
    rw [List.take_length] at h
    obtain ⟨A',cap',rfl,hi⟩ := row_from h
    exact ⟨⟨A',cap',rfl,hi⟩,hb⟩
theorem keep_8 {X : World} {g k : Nat} (hg : k ≠ g) (y0 y1 y2 y3 y4 y5 y6 y7 : Value) : ((((((((X.setCell ⟨g,0,none⟩ y0).setCell ⟨g,1,none⟩ y1).setCell ⟨g,2,none⟩ y2).setCell ⟨g,3,none⟩ y3).setCell ⟨g,4,none⟩ y4).setCell ⟨g,5,none⟩ y5).setCell ⟨g,6,none⟩ y6).setCell ⟨g,7,none⟩ y7).heap[k]? = X.heap[k]? := by
  have e : ∀ (Y : World) (i : Nat) (v : Value),(Y.setCell ⟨g,i,none⟩ v).heap[k]? = Y.heap[k]? := fun Y i v => Below.heap_setCell _ _ _ _ (show k ≠ g from hg)
  rw [e,e,e,e,e,e,e,e]
theorem size_8 {X : World} {g : Nat} (y0 y1 y2 y3 y4 y5 y6 y7 : Value) : X.heap.size ≤ ((((((((X.setCell ⟨g,0,none⟩ y0).setCell ⟨g,1,none⟩ y1).setCell ⟨g,2,none⟩ y2).setCell ⟨g,3,none⟩ y3).setCell ⟨g,4,none⟩ y4).setCell ⟨g,5,none⟩ y5).setCell ⟨g,6,none⟩ y6).setCell ⟨g,7,none⟩ y7).heap.size := by
  simp [World.setCell]
theorem findV_some {vA : Option Addr} {m vc ib : Nat} {vls : List Vx} {id : Int} {W : World} {x : Vx} (h : findVx vls id = some x) (hV : VxsAt W vA vls) (hm : vls.length = m) (hl : m ≤ maxLen) (hI : W.heap[ib]? = some (.cells #[.int .i64 id] 3)) : Calls Tryz.prog 121 #[.slice vA m vc,.func (.func 122) #[] #[.pointer (some ⟨ib,0,none⟩)]] W fun e w' => (∃ k : Nat,e = .returned (.int .i64 k) ∧ k < m ∧ vls[k]? = some x) ∧ Below W.heap.size W w' := by
  refine (findV_any vA m vc ib vls id W hV hm hl hI).mono ?_
  rintro e w' ⟨⟨r,rfl,hr⟩,hb⟩
  rcases hr with ⟨_,h2⟩ | ⟨k,hk,rfl,h2⟩
  · rw [h] at h2;cases h2
  · rw [h] at h2
    exact ⟨⟨k,rfl,by omega,by rw [List.getElem?_eq_getElem hk];exact h2.symm⟩,hb⟩
theorem findV_none {vA : Option Addr} {m vc ib : Nat} {vls : List Vx} {id : Int} {W : World} (h : findVx vls id = none) (hV : VxsAt W vA vls) (hm : vls.length = m) (hl : m ≤ maxLen) (hI : W.heap[ib]? = some (.cells #[.int .i64 id] 3)) : Calls Tryz.prog 121 #[.slice vA m vc,.func (.func 122) #[] #[.pointer (some ⟨ib,0,none⟩)]] W fun e w' => e = .returned (.int .i64 (-1)) ∧ Below W.heap.size W w' := by
  refine (findV_any vA m vc ib vls id W hV hm hl hI).mono ?_
  rintro e w' ⟨⟨r,rfl,hr⟩,hb⟩
  rcases hr with ⟨rfl,_⟩ | ⟨k,hk,rfl,h2⟩
  · exact ⟨rfl,hb⟩
  · rw [h] at h2;cases h2
set_option maxHeartbeats 4000000 in
theorem VL_none (c : Cx) (id : Int) (w : World) (hc : c.Held w) (hl : c.vls.length ≤ maxLen) (h : findVx c.vls id = none) : Calls Tryz.prog 107 #[c.val,.int .i64 id] w fun e w' => e = .returned (.tuple #[vz.val,.bool false]) ∧ Below w.heap.size w w' := by
  have HV : Hid (VxsAt w c.vlsA c.vls) := hc.2.2.1
  have HTL : True := trivial
  clear hc
  obtain ⟨hosts,pA,pc,parts,major,wA,wk,wins,vA,vc,vls,qA,qc,ports⟩ := c
  simp only at HV hl h HTL ⊢
  obtain ⟨m,Hm⟩ : ∃ m,Hid (vls.length = m) := ⟨_,rfl⟩
  show Calls Tryz.prog 107 #[.agg #[.int .i64 hosts,.slice pA parts.length pc,.int .i64 major,.slice wA wins.length wk,.slice vA vls.length vc,.slice qA ports.length qc],.int .i64 id] w _
  rw [Hm.out] at hl ⊢
  generalize wins.length = wl,parts.length = pl,ports.length = ql
  have BB : Hid (Below w.heap.size w (((w.alloc (.cells #[.int .i64 hosts,.slice pA pl pc,.int .i64 major,.slice wA wl wk,.slice vA m vc,.slice qA ql qc] 28)).alloc (.cells #[.int .i64 id] 3)).alloc (.cells #[.int .i64 0,.int .i64 0,.int .i64 0,.int .i64 0,.bool false,.int .i64 0,.int .i64 0,.slice none 0 0] 60))) := by
    have k1 : Below w.heap.size w (w.alloc (.cells #[.int .i64 hosts,.slice pA pl pc,.int .i64 major,.slice wA wl wk,.slice vA m vc,.slice qA ql qc] 28)) := (Below.refl _ w).alloc (Nat.le_refl _) _
    have k2 := k1.alloc k1.size (.cells #[.int .i64 id] 3)
    exact k2.alloc k2.size _
  have CB : Hid ((((w.alloc (.cells #[.int .i64 hosts,.slice pA pl pc,.int .i64 major,.slice wA wl wk,.slice vA m vc,.slice qA ql qc] 28)).alloc (.cells #[.int .i64 id] 3)).alloc (.cells #[.int .i64 0,.int .i64 0,.int .i64 0,.int .i64 0,.bool false,.int .i64 0,.int .i64 0,.slice none 0 0] 60)).heap[w.heap.size]? = some (.cells #[.int .i64 hosts,.slice pA pl pc,.int .i64 major,.slice wA wl wk,.slice vA m vc,.slice qA ql qc] 28)) := lies_alloc (lies_alloc (heap_alloc_new w _) _) _
  have IB : Hid ((((w.alloc (.cells #[.int .i64 hosts,.slice pA pl pc,.int .i64 major,.slice wA wl wk,.slice vA m vc,.slice qA ql qc] 28)).alloc (.cells #[.int .i64 id] 3)).alloc (.cells #[.int .i64 0,.int .i64 0,.int .i64 0,.int .i64 0,.bool false,.int .i64 0,.int .i64 0,.slice none 0 0] 60)).heap[w.heap.size + 1]? = some (.cells #[.int .i64 id] 3)) := by
    have := heap_alloc_new (w.alloc (.cells #[.int .i64 hosts,.slice pA pl pc,.int .i64 major,.slice wA wl wk,.slice vA m vc,.slice qA ql qc] 28)) (.cells #[.int .i64 id] 3)
    rw [World.size_alloc] at this
    exact lies_alloc this _
  have ZB : Hid ((((w.alloc (.cells #[.int .i64 hosts,.slice pA pl pc,.int .i64 major,.slice wA wl wk,.slice vA m vc,.slice qA ql qc] 28)).alloc (.cells #[.int .i64 id] 3)).alloc (.cells #[.int .i64 0,.int .i64 0,.int .i64 0,.int .i64 0,.bool false,.int .i64 0,.int .i64 0,.slice none 0 0] 60)).heap[w.heap.size + 2]? = some (.cells #[.int .i64 0,.int .i64 0,.int .i64 0,.int .i64 0,.bool false,.int .i64 0,.int .i64 0,.slice none 0 0] 60)) := by
    have := heap_alloc_new ((w.alloc (.cells #[.int .i64 hosts,.slice pA pl pc,.int .i64 major,.slice wA wl wk,.slice vA m vc,.slice qA ql qc] 28)).alloc (.cells #[.int .i64 id] 3)) (.cells #[.int .i64 0,.int .i64 0,.int .i64 0,.int .i64 0,.bool false,.int .i64 0,.int .i64 0,.slice none 0 0] 60)
    rw [World.size_alloc,World.size_alloc] at this
    exact this
  have HF := Lib.hid (findV_none (vc := vc) (W := ((w.alloc (.cells #[.int .i64 hosts,.slice pA pl pc,.int .i64 major,.slice wA wl wk,.slice vA m vc,.slice qA ql qc] 28)).alloc (.cells #[.int .i64 id] 3)).alloc (.cells #[.int .i64 0,.int .i64 0,.int .i64 0,.int .i64 0,.bool false,.int .i64 0,.int .i64 0,.slice none 0 0] 60)) h (VxsAt.below HV.out BB.out) Hm.out hl IB.out)
  go_enter Tryz.func107,Tryz.ntmps107
  go_upto_region 1 with (fail)
  generalize ((w.alloc (.cells #[.int .i64 hosts,.slice pA pl pc,.int .i64 major,.slice wA wl wk,.slice vA m vc,.slice qA ql qc] 28)).alloc (.cells #[.int .i64 id] 3)).alloc (.cells #[.int .i64 0,.int .i64 0,.int .i64 0,.int .i64 0,.bool false,.int .i64 0,.int .i64 0,.slice none 0 0] 60) = W1 at BB CB IB ZB HF ⊢
  obtain ⟨c0,c1,c2,c3,c4,c5⟩ := cells_6 CB.out
  have e1 : decide ((-1 : Int) < 0) = true := rfl
  go_upto_region 3 with (go_at_call 121;(with_reducible refine (HF.out).mono ?_);rintro e w2 ⟨rfl,hb2⟩)
  have Z2 := Lib.hid (lies_below ZB.out hb2 (lies_lt ZB.out))
  have B2 := Lib.hid (BB.out.trans (hb2.mono BB.out.size))
  clear hb2 c0 c1 c2 c3 c4 c5
  obtain ⟨z0,z1,z2,z3,z4,z5,z6,z7⟩ := cells_8 Z2.out
  have f0 := lies_frozen Z2.out 0
  have f1 := lies_frozen Z2.out 1
  have f2 := lies_frozen Z2.out 2
  have f3 := lies_frozen Z2.out 3
  have f4 := lies_frozen Z2.out 4
  have f5 := lies_frozen Z2.out 5
  have f6 := lies_frozen Z2.out 6
  have f7 := lies_frozen Z2.out 7
  have hz := zero_Vx
  go_wp2
  (try simp only [Exit.inBlock,Exit.then])
  obtain ⟨k0,k1,k2,k3,k4,k5,k6,k7,_⟩ := read_8 (y0 := .int .i64 0) (y1 := .int .i64 0) (y2 := .int .i64 0) (y3 := .int .i64 0) (y4 := .bool false) (y5 := .int .i64 0) (y6 := .int .i64 0) (y7 := .slice none 0 0) Z2.out
  refine bodyPost_ret (by simp [results,Tryz.results107,go_sem,k0,k1,k2,k3,k4,k5,k6,k7];try rfl) rfl ?_
  exact ⟨rfl,below_8 B2.out (by omega) _ _ _ _ _ _ _ _⟩
set_option maxHeartbeats 4000000 in
theorem VL_some (c : Cx) (id : Int) (x : Vx) (w : World) (hc : c.Held w) (hl : c.vls.length ≤ maxLen) (h : findVx c.vls id = some x) (htl : x.to.length ≤ 5000) : Calls Tryz.prog 107 #[c.val,.int .i64 id] w fun e w' => (∃ A cap,e = .returned (.tuple #[.agg #[.int .i64 x.id,.int .i64 x.host,.int .i64 x.bag,.int .i64 x.smax,.bool x.high,.int .i64 x.subs,.int .i64 x.skew,.slice A x.to.length cap],.bool true]) ∧ IntsAt w' A x.to) ∧ Below w.heap.size w w' := by
  have HV : Hid (VxsAt w c.vlsA c.vls) := hc.2.2.1
  have HTL := Lib.hid htl
  clear hc htl
  obtain ⟨hosts,pA,pc,parts,major,wA,wk,wins,vA,vc,vls,qA,qc,ports⟩ := c
  simp only at HV hl h HTL ⊢
  obtain ⟨m,Hm⟩ : ∃ m,Hid (vls.length = m) := ⟨_,rfl⟩
  show Calls Tryz.prog 107 #[.agg #[.int .i64 hosts,.slice pA parts.length pc,.int .i64 major,.slice wA wins.length wk,.slice vA vls.length vc,.slice qA ports.length qc],.int .i64 id] w _
  rw [Hm.out] at hl ⊢
  generalize wins.length = wl,parts.length = pl,ports.length = ql
  obtain ⟨xid,xhost,xbag,xsmax,xhigh,xsubs,xskew,xA,xtc,xto⟩ := x
  simp only at HTL ⊢
  have HCL0 := fun (w' : World) (hx : IntsAt w' xA xto) => clone_any xA xtc xto w' hx HTL.out
  obtain ⟨tol,Htol⟩ : ∃ tol,Hid (xto.length = tol) := ⟨_,rfl⟩
  rw [Htol.out] at HCL0 ⊢
  have HCL0 := Lib.hid HCL0
  clear HTL
  have hne : 0 < vls.length := by
    rcases Nat.eq_zero_or_pos vls.length with h0 | h0
    · rw [List.length_eq_zero_iff.1 h0] at h;cases h
    · exact h0
  obtain ⟨b,off,rfl,hbw,_⟩ := HV.out.get hne
  have BB : Hid (Below w.heap.size w (((w.alloc (.cells #[.int .i64 hosts,.slice pA pl pc,.int .i64 major,.slice wA wl wk,.slice (some ⟨b,off,none⟩) m vc,.slice qA ql qc] 28)).alloc (.cells #[.int .i64 id] 3)).alloc (.cells #[.int .i64 0,.int .i64 0,.int .i64 0,.int .i64 0,.bool false,.int .i64 0,.int .i64 0,.slice none 0 0] 60))) := by
    have k1 : Below w.heap.size w (w.alloc (.cells #[.int .i64 hosts,.slice pA pl pc,.int .i64 major,.slice wA wl wk,.slice (some ⟨b,off,none⟩) m vc,.slice qA ql qc] 28)) := (Below.refl _ w).alloc (Nat.le_refl _) _
    have k2 := k1.alloc k1.size (.cells #[.int .i64 id] 3)
    exact k2.alloc k2.size _
  have CB : Hid ((((w.alloc (.cells #[.int .i64 hosts,.slice pA pl pc,.int .i64 major,.slice wA wl wk,.slice (some ⟨b,off,none⟩) m vc,.slice qA ql qc] 28)).alloc (.cells #[.int .i64 id] 3)).alloc (.cells #[.int .i64 0,.int .i64 0,.int .i64 0,.int .i64 0,.bool false,.int .i64 0,.int .i64 0,.slice none 0 0] 60)).heap[w.heap.size]? = some (.cells #[.int .i64 hosts,.slice pA pl pc,.int .i64 major,.slice wA wl wk,.slice (some ⟨b,off,none⟩) m vc,.slice qA ql qc] 28)) := lies_alloc (lies_alloc (heap_alloc_new w _) _) _
  have IB : Hid ((((w.alloc (.cells #[.int .i64 hosts,.slice pA pl pc,.int .i64 major,.slice wA wl wk,.slice (some ⟨b,off,none⟩) m vc,.slice qA ql qc] 28)).alloc (.cells #[.int .i64 id] 3)).alloc (.cells #[.int .i64 0,.int .i64 0,.int .i64 0,.int .i64 0,.bool false,.int .i64 0,.int .i64 0,.slice none 0 0] 60)).heap[w.heap.size + 1]? = some (.cells #[.int .i64 id] 3)) := by
    have := heap_alloc_new (w.alloc (.cells #[.int .i64 hosts,.slice pA pl pc,.int .i64 major,.slice wA wl wk,.slice (some ⟨b,off,none⟩) m vc,.slice qA ql qc] 28)) (.cells #[.int .i64 id] 3)
    rw [World.size_alloc] at this
    exact lies_alloc this _
  have ZB : Hid ((((w.alloc (.cells #[.int .i64 hosts,.slice pA pl pc,.int .i64 major,.slice wA wl wk,.slice (some ⟨b,off,none⟩) m vc,.slice qA ql qc] 28)).alloc (.cells #[.int .i64 id] 3)).alloc (.cells #[.int .i64 0,.int .i64 0,.int .i64 0,.int .i64 0,.bool false,.int .i64 0,.int .i64 0,.slice none 0 0] 60)).heap[w.heap.size + 2]? = some (.cells #[.int .i64 0,.int .i64 0,.int .i64 0,.int .i64 0,.bool false,.int .i64 0,.int .i64 0,.slice none 0 0] 60)) := by
    have := heap_alloc_new ((w.alloc (.cells #[.int .i64 hosts,.slice pA pl pc,.int .i64 major,.slice wA wl wk,.slice (some ⟨b,off,none⟩) m vc,.slice qA ql qc] 28)).alloc (.cells #[.int .i64 id] 3)) (.cells #[.int .i64 0,.int .i64 0,.int .i64 0,.int .i64 0,.bool false,.int .i64 0,.int .i64 0,.slice none 0 0] 60)
    rw [World.size_alloc,World.size_alloc] at this
    exact this
  have HF := Lib.hid (findV_some (vc := vc) (W := ((w.alloc (.cells #[.int .i64 hosts,.slice pA pl pc,.int .i64 major,.slice wA wl wk,.slice (some ⟨b,off,none⟩) m vc,.slice qA ql qc] 28)).alloc (.cells #[.int .i64 id] 3)).alloc (.cells #[.int .i64 0,.int .i64 0,.int .i64 0,.int .i64 0,.bool false,.int .i64 0,.int .i64 0,.slice none 0 0] 60)) h (VxsAt.below HV.out BB.out) Hm.out hl IB.out)
  go_enter Tryz.func107,Tryz.ntmps107
  go_upto_region 1 with (fail)
  generalize ((w.alloc (.cells #[.int .i64 hosts,.slice pA pl pc,.int .i64 major,.slice wA wl wk,.slice (some ⟨b,off,none⟩) m vc,.slice qA ql qc] 28)).alloc (.cells #[.int .i64 id] 3)).alloc (.cells #[.int .i64 0,.int .i64 0,.int .i64 0,.int .i64 0,.bool false,.int .i64 0,.int .i64 0,.slice none 0 0] 60) = W1 at BB CB IB ZB HF ⊢
  obtain ⟨c0,c1,c2,c3,c4,c5⟩ := cells_6 CB.out
  go_upto_region 2 with (go_at_call 121;(with_reducible refine (HF.out).mono ?_);rintro e w2 ⟨⟨k,rfl,hk,hkx⟩,hb2⟩)
  have C2 := Lib.hid (lies_below CB.out hb2 (lies_lt CB.out))
  have Z2 := Lib.hid (lies_below ZB.out hb2 (lies_lt ZB.out))
  have B2 := Lib.hid (BB.out.trans (hb2.mono BB.out.size))
  clear hb2 c0 c1 c2 c3 c4 c5 HF CB ZB IB BB
  have hkl : k < vls.length := by rw [Hm.out];exact hk
  obtain ⟨b2,off2,eb,hb,hat,hxh⟩ := HV.out.get hkl
  injection eb with eb;injection eb with eb e3 _;subst eb;subst e3
  rw [List.getElem?_eq_getElem hkl] at hkx
  injection hkx with hkx
  rw [hkx] at hat hxh
  have HX : Hid (IntsAt w2 xA xto) := IntsAt.below hxh B2.out
  have hat := hat.below B2.out hb
  clear hxh hkx
  simp only [VxAt,Htol.out] at hat
  obtain ⟨a0,a1,a2,a3,a4,a5,a6,a7⟩ := hat
  have HCL := fun (w' : World) (hb : Below w2.heap.size w2 w') => HCL0.out w' (IntsAt.below HX.out hb)
  have HCL := Lib.hid HCL
  clear HX HCL0
  obtain ⟨c0,c1,c2,c3,c4,c5⟩ := cells_6 C2.out
  have e1 : decide ((k : Int) < 0) = false := decide_eq_false (by omega)
  have hkI : (k : Int) < (m : Int) := by omega
  have hk0 : 0 ≤ (k : Int) := by omega
  go_upto_region 5 with (fail)
  clear a0 a1 a2 a3 a4 a5 a6 a7 c0 c1 c2 c3 c4 c5
  have A3 : Hid (Below w2.heap.size w2 (w2.alloc (.cells #[.int .i64 xid,.int .i64 xhost,.int .i64 xbag,.int .i64 xsmax,.bool xhigh,.int .i64 xsubs,.int .i64 xskew,.slice xA tol xtc] 60))) := (Below.refl _ w2).alloc (Nat.le_refl _) _
  have B3 : Hid (Below w.heap.size w (w2.alloc (.cells #[.int .i64 xid,.int .i64 xhost,.int .i64 xbag,.int .i64 xsmax,.bool xhigh,.int .i64 xsubs,.int .i64 xskew,.slice xA tol xtc] 60))) := B2.out.trans (A3.out.mono B2.out.size)
  have X3 : Hid ((w2.alloc (.cells #[.int .i64 xid,.int .i64 xhost,.int .i64 xbag,.int .i64 xsmax,.bool xhigh,.int .i64 xsubs,.int .i64 xskew,.slice xA tol xtc] 60)).heap[w2.heap.size]? = some (.cells #[.int .i64 xid,.int .i64 xhost,.int .i64 xbag,.int .i64 xsmax,.bool xhigh,.int .i64 xsubs,.int .i64 xskew,.slice xA tol xtc] 60)) := heap_alloc_new w2 _
  have Z3 := Lib.hid (lies_alloc (o := .cells #[.int .i64 xid,.int .i64 xhost,.int .i64 xbag,.int .i64 xsmax,.bool xhigh,.int .i64 xsubs,.int .i64 xskew,.slice xA tol xtc] 60) Z2.out)
  have HC4 := Lib.hid (HCL.out _ A3.out)
  have hxb : w.heap.size ≤ w2.heap.size := B2.out.size
  have hzx : w.heap.size + 2 < w2.heap.size := lies_lt Z2.out
  generalize w2.alloc (.cells #[.int .i64 xid,.int .i64 xhost,.int .i64 xbag,.int .i64 xsmax,.bool xhigh,.int .i64 xsubs,.int .i64 xskew,.slice xA tol xtc] 60) = W3 at B3 X3 Z3 HC4 ⊢
  generalize w2.heap.size = xb at X3 hxb hzx ⊢
  clear A3 HCL B2 C2 Z2
  obtain ⟨x0,x1,x2,x3,x4,x5,x6,x7⟩ := cells_8 X3.out
  go_upto_region 6 with (first
    | (go_at_call 123;(with_reducible refine (HC4.out).mono ?_);rintro e w4 ⟨⟨A4,cap4,rfl,hi4⟩,hb4⟩
       (have X4 := Lib.hid (lies_below X3.out hb4 (lies_lt X3.out)))
       (have Z4 := Lib.hid (lies_below Z3.out hb4 (lies_lt Z3.out)))
       (have B4 := Lib.hid (B3.out.trans (hb4.mono B3.out.size)))
       (clear x0 x1 x2 x3 x4 x5 x6 x7)
       (obtain ⟨x0,x1,x2,x3,x4,x5,x6,x7⟩ := cells_8 X4.out)
       (have f7 := lies_frozen X4.out 7)))
  clear x0 x1 x2 x3 x4 x5 x6 x7 f7
  have X5 : Hid ((w4.setCell ⟨xb,7,none⟩ (.slice A4 tol cap4)).heap[xb]? = some (.cells #[.int .i64 xid,.int .i64 xhost,.int .i64 xbag,.int .i64 xsmax,.bool xhigh,.int .i64 xsubs,.int .i64 xskew,.slice A4 tol cap4] 60)) := lies_set X4.out 7 _
  have Z5 : Hid ((w4.setCell ⟨xb,7,none⟩ (.slice A4 tol cap4)).heap[w.heap.size + 2]? = some (.cells #[.int .i64 0,.int .i64 0,.int .i64 0,.int .i64 0,.bool false,.int .i64 0,.int .i64 0,.slice none 0 0] 60)) := by
    have h2 : (w4.setCell ⟨xb,7,none⟩ (.slice A4 tol cap4)).heap[w.heap.size + 2]? = w4.heap[w.heap.size + 2]? := by
      exact Below.heap_setCell _ _ _ _ (show w.heap.size + 2 ≠ xb by omega)
    show _ = _
    rw [h2];exact Z4.out
  have B5 : Hid (Below w.heap.size w (w4.setCell ⟨xb,7,none⟩ (.slice A4 tol cap4))) := B4.out.setCell (show w.heap.size ≤ (⟨xb,7,none⟩ : Addr).block from hxb) _
  have I5 : Hid (IntsFrom (xb + 1) (w4.setCell ⟨xb,7,none⟩ (.slice A4 tol cap4)) A4 xto) := by
    show IntsFrom _ _ _ _
    refine IntsFrom.keep (w := w4) (fun hne => ?_) (fun g hg _ => Below.heap_setCell _ _ _ _ (show g ≠ xb by omega)) (by simp [World.setCell])
    obtain ⟨g,e,hB,hr⟩ := hi4 hne
    exact ⟨g,e,by have := lies_lt X3.out;omega,hr⟩
  generalize w4.setCell ⟨xb,7,none⟩ (.slice A4 tol cap4) = W5 at X5 Z5 B5 I5 ⊢
  obtain ⟨x0,x1,x2,x3,x4,x5,x6,x7⟩ := cells_8 X5.out
  obtain ⟨z0,z1,z2,z3,z4,z5,z6,z7⟩ := cells_8 Z5.out
  have f0 := lies_frozen Z5.out 0
  have f1 := lies_frozen Z5.out 1
  have f2 := lies_frozen Z5.out 2
  have f3 := lies_frozen Z5.out 3
  have f4 := lies_frozen Z5.out 4
  have f5 := lies_frozen Z5.out 5
  have f6 := lies_frozen Z5.out 6
  have f7 := lies_frozen Z5.out 7
  go_wp2
  (try simp only [Exit.inBlock,Exit.then])
  obtain ⟨k0,k1,k2,k3,k4,k5,k6,k7,_⟩ := read_8 (y0 := .int .i64 xid) (y1 := .int .i64 xhost) (y2 := .int .i64 xbag) (y3 := .int .i64 xsmax) (y4 := .bool xhigh) (y5 := .int .i64 xsubs) (y6 := .int .i64 xskew) (y7 := .slice A4 tol cap4) Z5.out
  refine bodyPost_ret (by simp [results,Tryz.results107,go_sem,k0,k1,k2,k3,k4,k5,k6,k7];try rfl) rfl ?_
  refine ⟨⟨A4,cap4,rfl,?_⟩,below_8 B5.out (by omega) _ _ _ _ _ _ _ _⟩
  refine (IntsFrom.keep I5.out (fun g hg _ => ?_) ?_).ints
  · exact keep_8 (show g ≠ w.heap.size + 2 by omega) _ _ _ _ _ _ _ _
  · exact size_8 _ _ _ _ _ _ _ _
end Go.Proofs.YtdgkanamceeheaaGreat
