/- The program's reader: the numbers of one byte. The document's VL and Port. -/
import Derived.Test.YtdgkanamceeheaaGreatK12
import Derived.Test.YtdgkanamceeheaaGreatK4
import Derived.Test.YtdgkanamceeheaaGreatK5
import Derived.Test.YtdgkanamceeheaaGreatK0
import Derived.Laws.CopyOwn
import Derived.Laws.CopyRow
set_option linter.unusedVariables false
set_option maxRecDepth 100000
set_option linter.unusedVariables false
namespace Go.Proofs.YtdgkanamceeheaaGreat.Im
open Go.RowKit
open PitotImg (St rd)
def bitsv (xs : List Int) (b : Int) (σ : St) : List Int := if σ.isSome = true then Bi.unpack xs 8 b.toNat else []
set_option maxHeartbeats 1000000 in
theorem bits_none (r n ca : Nat) (A : Option Addr) (w : World) (h : RS 82 w r none) : Calls Tryz.prog 111 #[.pointer (some ⟨r,0,none⟩),.slice A n ca] w fun e w' => e = .returned (.slice none 0 0) ∧ w = w' := by
  have HE : Hid (Calls Tryz.prog 90 #[.pointer (some ⟨r,0,none⟩)] w fun e w' => e = .returned (.int .i64 10) ∧ w = w') := perr0 r none w h
  clear h
  go_enter Tryz.func111,Tryz.ntmps111
  go_wp2_with (go_at_call 90;(with_reducible refine (HE.out).mono ?_);rintro e w' ⟨rfl,rfl⟩)
  go_returns
  exact ⟨rfl,rfl⟩
set_option maxHeartbeats 1000000 in
theorem bits_short (r n ca : Nat) (A : Option Addr) (xs : List Int) (w : World) (h : Bi.RdAt w r [] 0) (hx : Bi.IntsAt w A xs) (hn : n = xs.length) (hl : xs.length ≤ 1000000) (ht : Bi.togRes xs = (1,true)) : Calls Tryz.prog 111 #[.pointer (some ⟨r,0,none⟩),.slice A n ca] w fun e w' => e = .returned (.slice none 0 0) ∧ Bi.RdAt w' r [] 10 ∧ w.grownBy w' (some r) := by
  have HE := Lib.hid (Bi.err_any r [] 0 w h)
  have HT := Lib.hid (Bi.together_eq A ca xs w hx hl n hn 1 true ht)
  have HX := Lib.hid (Bi.rtext_short r [] 1 w h (by decide))
  have HG := Lib.hid (fun w => Bi.gather_none w)
  clear h hx hn hl ht
  go_enter Tryz.func111,Tryz.ntmps111
  go_wp2_with (first
    | (go_at_call 90;(with_reducible refine (HE.out).mono ?_);rintro e w' ⟨rfl,rfl⟩)
    | (go_at_call 114;(with_reducible refine (HT.out).mono ?_);rintro e w' ⟨rfl,rfl⟩)
    | (go_at_call 85;(with_reducible refine (HX.out).mono ?_);rintro e w1 ⟨rfl,h1,hg1⟩;(have c1 : w1.cell? ⟨r,1,none⟩ = some (.int .i64 10) := lies_cell h1 1);(have H1 := Lib.hid h1);clear h1)
    | (go_at_call 84;(with_reducible refine (HG.out _).mono ?_);rintro e w' ⟨rfl,rfl⟩))
  go_returns
  exact ⟨rfl,H1.out,hg1⟩
theorem bits_any (r ca : Nat) (A : Option Addr) (xs : List Int) (σ σ' : St) (b : Int) (w : World) (h : RS 82 w r σ) (hx : Bi.IntsAt w A xs) (hl : xs.length = 3) (ht : Bi.togRes xs = (1,true)) (hne : ∀ b off,A = some ⟨b,off,none⟩ → b ≠ r) (hb : rd 1 σ = (b,σ')) :
    Calls Tryz.prog 111 #[.pointer (some ⟨r,0,none⟩),.slice A 3 ca] w fun e w' => (∃ A' c,e = .returned (.slice A' (bitsv xs b σ').length c) ∧ Bi.IntsAt w' A' (bitsv xs b σ')) ∧ RS 82 w' r σ' ∧ w.grownBy w' (some r) := by
  cases σ with
  | none =>
    injection hb with h1 h2
    subst h2
    refine (bits_none r 3 ca A w h).mono fun e w' ⟨he,hw⟩ => ?_
    subst hw
    exact ⟨⟨none,0,he,fun hne => absurd rfl hne⟩,h,World.grownBy.refl w _⟩
  | some l =>
    cases l with
    | nil =>
      have hb : ((0 : Int),(none : St)) = (b,σ') := hb
      injection hb with h1 h2
      subst h2
      refine (bits_short r 3 ca A xs w h.sm.1 hx hl.symm (by omega) ht).mono fun e w' ⟨he,hw,hg⟩ => ?_
      exact ⟨⟨none,0,he,fun hne => absurd rfl hne⟩,⟨[],hw,by simp,fun l' e => by cases e⟩,hg⟩
    | cons x l =>
      have hb : (((PitotMath.num [x] : Nat) : Int),some l) = (b,σ') := hb
      injection hb with h1 h2
      subst h2
      have hh := h.sm
      rw [← hl]
      refine (Bi.rbits_ok r [x] l A ca xs w hh.1 hx (by omega) (by rw [ht]) (by rw [ht];rfl) (by have := hh.2;simp at this ⊢;omega) hne).mono fun e w' ⟨g,he,hv,hr,hg⟩ => ?_
      have ev : bitsv xs b (some l) = Bi.unpack xs 8 (PitotMath.num [x]) := by
        unfold bitsv
        rw [if_pos (show (some l : St).isSome = true from rfl),← h1,Int.toNat_natCast]
      rw [ev,Bi.unpack_length]
      exact ⟨⟨_,_,he,hv⟩,⟨l,hr,by have := hh.2;simp at this;omega,fun l' e => by injection e⟩,hg⟩
theorem bitsv_zero {xs : List Int} {b : Int} {σ' σ : St} (hb : rd 1 σ = (b,σ')) (h : σ'.isSome = false) : b = 0 := by
  cases σ with
  | none => injection hb with h1 h2;exact h1.symm
  | some l =>
    cases l with
    | nil => have hb : ((0 : Int),(none : St)) = (b,σ') := hb;injection hb with h1 h2;exact h1.symm
    | cons x l =>
      have hb : (((PitotMath.num [x] : Nat) : Int),some l) = (b,σ') := hb
      injection hb with h1 h2
      rw [← h2] at h;cases h
theorem bits_cells {xs : List Int} {b v0 v1 v2 : Int} {σ' σ : St} (hl : xs.length = 3) (hb : rd 1 σ = (b,σ')) (hv : Bi.unpack xs 8 b.toNat = [v0,v1,v2]) (hz : Bi.unpack xs 8 0 = [0,0,0]) :
    splice [.int .i64 0,.int .i64 0,.int .i64 0] 0 ((bitsv xs b σ').map (fun n => Value.int .i64 n)) = [.int .i64 v0,.int .i64 v1,.int .i64 v2] := by
  unfold bitsv
  by_cases h : σ'.isSome = true
  · rw [if_pos h,hv];rfl
  · rw [if_neg h]
    have e := bitsv_zero (xs := xs) hb (by simpa using h)
    subst e
    have hz' : Bi.unpack xs 8 (0 : Int).toNat = [0,0,0] := hz
    rw [hz'] at hv
    injection hv with a1 hv
    injection hv with a2 hv
    injection hv with a3 hv
    subst a1 a2 a3
    rfl
theorem zero_a3 (w : World) : (zeroValue 133).run Tryz.prog w = .ok (.agg #[.int .i64 0,.int .i64 0,.int .i64 0]) w := by kernel_rfl
theorem Fr.ofB {base a b : Nat} {w w' : World} (h : Below base w w') : Fr base a b w w' := ⟨h.os,h.tape,h.output,h.size,fun k hk _ _ _ => h.block k hk⟩
theorem src_of {w : World} {A : Option Addr} {l : List Int} (h : Bi.IntsAt w A l) (hl : 0 < l.length) : ∃ ad,A = some ad ∧ ∀ j v,(l.map (fun n => Value.int .i64 n))[j]? = some v → w.cell? (ad.add j) = some v := by
  obtain ⟨b,off,h1,h2,h3⟩ := h (by intro e;subst e;simp at hl)
  refine ⟨_,h1,fun j v hj => ?_⟩
  rw [List.getElem?_map,Option.map_eq_some_iff] at hj
  obtain ⟨n,hn,rfl⟩ := hj
  obtain ⟨hj2,rfl⟩ := List.getElem?_eq_some_iff.1 hn
  have e : (⟨b,off,none⟩ : Addr).add j = ⟨b,off + j,none⟩ := by unfold Addr.add;split <;> simp_all
  rw [e]
  exact h3 j hj2
set_option maxHeartbeats 4000000 in
theorem byte_any (p r ca kx : Nat) (xs : List Int) (v0 v1 v2 b : Int) (σ σ' : St) (w : World) (h : PS w p r 0 σ) (hpr : p ≠ r) (hx : Bi.IntsAt w (some ⟨kx,0,none⟩) xs) (hkr : kx ≠ r) (hl : xs.length = 3) (ht : Bi.togRes xs = (1,true)) (hb : rd 1 σ = (b,σ')) (hv : Bi.unpack xs 8 b.toNat = [v0,v1,v2]) (hz : Bi.unpack xs 8 0 = [0,0,0]) :
    Calls Tryz.prog 86 #[.pointer (some ⟨p,0,none⟩),.slice (some ⟨kx,0,none⟩) 3 ca] w fun e w' => e = .returned (.agg #[.int .i64 v0,.int .i64 v1,.int .i64 v2]) ∧ PS w' p r 0 σ' ∧ Fr w.heap.size r p w w' := by
  obtain ⟨bv,hbv⟩ : ∃ l,bitsv xs b σ' = l := ⟨_,rfl⟩
  have hc3 := bits_cells hl hb hv hz
  rw [hbv] at hc3
  have hble : bv.length ≤ 3 := by
    rw [← hbv];unfold bitsv
    by_cases hs : σ'.isSome = true
    · rw [if_pos hs,Bi.unpack_length];omega
    · rw [if_neg hs];simp
  have HN : Hid (∀ w,RS 82 w r σ → Bi.IntsAt w (some ⟨kx,0,none⟩) xs → Calls Tryz.prog 111 #[.pointer (some ⟨r,0,none⟩),.slice (some ⟨kx,0,none⟩) 3 ca] w fun e w' => (∃ A' c,e = .returned (.slice A' bv.length c) ∧ Bi.IntsAt w' A' bv) ∧ RS 82 w' r σ' ∧ w.grownBy w' (some r)) := fun w h1 h2 => by
    have := bits_any r ca (some ⟨kx,0,none⟩) xs σ σ' b w h1 h2 hl ht (fun b' off e => by injection e with e;injection e with e;omega) hb
    rw [hbv] at this
    exact this
  have HC3 := Lib.hid hc3
  have HPR := Lib.hid hpr
  have HP : Hid (((w.alloc (.cells #[.int .i64 0,.int .i64 0,.int .i64 0] 133)).alloc (.cells #[.int .i64 0,.int .i64 0,.int .i64 0] 133)).heap[p]? = some (.cells #[.pointer (some ⟨r,0,none⟩),.int .i64 0] 50)) := lies_alloc (lies_alloc h.1 _) _
  have HR : Hid (RS 82 ((w.alloc (.cells #[.int .i64 0,.int .i64 0,.int .i64 0] 133)).alloc (.cells #[.int .i64 0,.int .i64 0,.int .i64 0] 133)) r σ) := RS.al (RS.al h.2 _) _
  have HF : Hid (Fr w.heap.size r p w ((w.alloc (.cells #[.int .i64 0,.int .i64 0,.int .i64 0] 133)).alloc (.cells #[.int .i64 0,.int .i64 0,.int .i64 0] 133))) := Fr.al (Fr.al Fr.refl _) _
  have HA : Hid (((w.alloc (.cells #[.int .i64 0,.int .i64 0,.int .i64 0] 133)).alloc (.cells #[.int .i64 0,.int .i64 0,.int .i64 0] 133)).heap[w.heap.size]? = some (.cells #[.int .i64 0,.int .i64 0,.int .i64 0] 133)) := lies_alloc (heap_alloc_new w _) _
  have HB : Hid (((w.alloc (.cells #[.int .i64 0,.int .i64 0,.int .i64 0] 133)).alloc (.cells #[.int .i64 0,.int .i64 0,.int .i64 0] 133)).heap[w.heap.size + 1]? = some (.cells #[.int .i64 0,.int .i64 0,.int .i64 0] 133)) := by
    have h := heap_alloc_new (w.alloc (.cells #[.int .i64 0,.int .i64 0,.int .i64 0] 133)) (.cells #[.int .i64 0,.int .i64 0,.int .i64 0] 133)
    rw [World.size_alloc] at h
    exact h
  have HX : Hid (Bi.IntsAt ((w.alloc (.cells #[.int .i64 0,.int .i64 0,.int .i64 0] 133)).alloc (.cells #[.int .i64 0,.int .i64 0,.int .i64 0] 133)) (some ⟨kx,0,none⟩) xs) := Bi.IntsAt.grown (r := r) hx (Bi.grown_trans (Bi.grown_alloc _) (Bi.grown_alloc _)) (fun b' off e => by injection e with e;injection e with e;omega)
  have hpw := lies_lt h.1
  have hrw := h.2.lt
  have hz3 := zero_a3
  clear h hpr hx hl ht hb hv hz hc3 hbv
  go_enter Tryz.func86,Tryz.ntmps86
  go_upto_region 2 with (fail)
  obtain ⟨W1,hW1⟩ : ∃ W,(w.alloc (.cells #[.int .i64 0,.int .i64 0,.int .i64 0] 133)).alloc (.cells #[.int .i64 0,.int .i64 0,.int .i64 0] 133) = W := ⟨_,rfl⟩
  rw [hW1] at HP HR HF HA HB HX ⊢
  clear hW1
  obtain ⟨hb0,hhb0⟩ : ∃ n,w.heap.size = n := ⟨_,rfl⟩
  rw [hhb0] at HF HA HB hpw hrw ⊢
  have HHB := Lib.hid hhb0
  clear hhb0
  clear hz3
  have HPd : Hid ((World.drew W1).heap[p]? = _) := HP.out
  have HRd : Hid (RS 82 (World.drew W1) r _) := HR.out
  have HFd := Lib.hid (HF.out.trans Fr.dr)
  have HAd : Hid ((World.drew W1).heap[_]? = _) := HA.out
  have HBd : Hid ((World.drew W1).heap[_]? = _) := HB.out
  have HXd : Hid (Bi.IntsAt (World.drew W1) _ xs) := HX.out
  clear HP HR HF HA HB HX
  have HX := HXd
  have HP := HPd
  have HR := HRd
  have HF := HFd
  have HA := HAd
  have HB := HBd
  clear HPd HRd HFd HAd HBd
  refine wp_region_held_drew (S := (fun w' => w'.cell? ⟨p,0,none⟩ = some (.pointer (some ⟨r,0,none⟩)))) (by kernel_rfl) ?_ (fun hHeld => ?_)
  · exact lies_cell HP.out 0
  refine tK 0 ?_ rfl (by kernel_rfl) rfl (by intro w;go_simp<;>with_reducible rfl) (fun _ _ _ h=>h) hHeld
  try simp only [Act.put,yA,yB,yC]
  refine tK 1 ?_ rfl (by kernel_rfl) rfl (by intro w;go_simp<;>with_reducible rfl) (fun _ _ _ h=>h) hHeld
  try simp only [Act.put,yA,yB,yC]
  refine tK 2 ?_ rfl (by kernel_rfl) rfl (by intro w;go_simp<;>with_reducible rfl) (fun _ _ _ h=>h) hHeld
  try simp only [Act.put,yA,yB,yC]
  refine tK 3 ?_ rfl (by kernel_rfl) rfl (by intro w;go_simp<;>with_reducible rfl) (fun _ _ _ h=>h) hHeld
  try simp only [Act.put,yA,yB,yC]
  refine tX 4 ?_ rfl (by kernel_rfl) rfl (by intro w hSw;(try dsimp only at hSw);have c0 := hSw;clear hSw;go_simp<;>with_reducible rfl) (fun _ _ _ h=>h) hHeld
  try simp only [Act.put,yA,yB,yC]
  refine tK 5 ?_ rfl (by kernel_rfl) rfl (by intro w;go_simp<;>with_reducible rfl) (fun _ _ _ h=>h) hHeld
  try simp only [Act.put,yA,yB,yC]
  refine rY 6 [] ?_ (by kernel_rfl)
  refine rC rfl (fun K hK => ?_) AllReadyH.nil
  have c0 := lies_cell HP.out 0
  go_simp
  (go_at_call 111;(with_reducible refine (HN.out _ HR.out HX.out).mono ?_);rintro e V ⟨⟨AB,cB,rfl,hib⟩,hw,hg⟩;go_wp2_with fail)
  clear c0
  have HIB := Lib.hid hib
  clear hib HX
  have HPd := Lib.hid (lies_grown HP.out hg HPR.out)
  have HRd := Lib.hid hw
  have HFd := Lib.hid (Fr.of_grown (b := p) HF.out hg)
  have HAd := Lib.hid (lies_grown HA.out hg (by omega))
  have HBd := Lib.hid (lies_grown HB.out hg (by omega))
  clear HP HR HF HA HB hg hw
  have HP := HPd
  have HR := HRd
  have HF := HFd
  have HA := HAd
  have HB := HBd
  clear HPd HRd HFd HAd HBd
  refine hK.out _ _ ?_ (fun hHeld => ?_)
  · exact lies_cell HP.out 0
  clear hK K
  try simp only [Act.put,yA,yB,yC]
  refine rY 7 [] ?_ (by kernel_rfl)
  refine rC rfl (fun K hK => ?_) AllReadyH.nil
  refine step_copy_splice rfl (.tmp 6) (.tmp 12) 23 23 rfl 3 (by rfl) (by kernel_rfl) (some ⟨hb0 + 1,0,none⟩) AB 3 3 bv.length cB (by rfl) (by rfl) (hb0 + 1) 0 [.int .i64 0,.int .i64 0,.int .i64 0] 133 HB.out (bv.map (fun n => Value.int .i64 n)) (by rw [List.length_map];exact (Nat.min_eq_left hble).symm) (fun hpos => ⟨rfl,?_⟩) (by simp;omega) (fun u hu => by obtain ⟨n,_,rfl⟩ := List.mem_map.1 hu;rfl) (hb0 + 1) _ (Below.refl _ _) (Nat.le_refl _) ?_
  · exact src_of HIB.out (by simpa using hpos)
  intro W4 hg4 hb4
  rw [HC3.out] at hg4
  have HPd := Lib.hid (lies_below HP.out hb4 (by omega))
  have HRd := Lib.hid (RS.keep HR.out (hb4.block r (by omega)))
  have HAd := Lib.hid (lies_below HA.out hb4 (by omega))
  have HFd := Lib.hid (HF.out.trans ((Fr.ofB hb4).mono (by omega)))
  have HBd : Hid (W4.heap[hb0 + 1]? = some (.cells #[.int .i64 v0,.int .i64 v1,.int .i64 v2] 133)) := hg4.out
  clear HP HR HA HF HB hb4 hg4
  have HP := HPd
  have HR := HRd
  have HA := HAd
  have HF := HFd
  have HB := HBd
  clear HPd HRd HAd HFd HBd
  refine hK.out _ _ ?_ (fun hHeld => ?_)
  · exact lies_cell HP.out 0
  clear hK K
  try simp only [Act.put,yA,yB,yC]
  refine wpAnyH_done (by kernel_rfl) ?_ _
  clear hHeld
  obtain ⟨a0,a1,a2⟩ := cells_3 HB.out
  obtain ⟨d0,d1,d2⟩ := cells_3 HA.out
  have f0 := lies_frozen HA.out 0
  have f1 := lies_frozen HA.out 1
  have f2 := lies_frozen HA.out 2
  go_wp2
  (try simp only [Exit.inBlock,Exit.then])
  have HV := HA.out
  obtain ⟨k0,k1,k2,_⟩ := read_3 (y0 := .int .i64 v0) (y1 := .int .i64 v1) (y2 := .int .i64 v2) HA.out
  refine bodyPost_ret (by simp [results,Tryz.results86,go_sem,k0,k1,k2];try rfl) rfl ?_
  rw [HHB.out]
  refine ⟨rfl,⟨?_,?_⟩,?_⟩
  · exact (heap_set_ne (by omega)).trans ((heap_set_ne (by omega)).trans ((heap_set_ne (by omega)).trans HP.out))
  · exact RS.keep HR.out ((heap_set_ne (by omega)).trans ((heap_set_ne (by omega)).trans (heap_set_ne (by omega))))
  · exact Fr.setN (Fr.setN (Fr.setN HF.out (Nat.le_refl _)) (Nat.le_refl _)) (Nat.le_refl _)
end Go.Proofs.YtdgkanamceeheaaGreat.Im
set_option maxRecDepth 100000
namespace Go.Proofs.YtdgkanamceeheaaGreat
open Go.RowKit
abbrev Vx.obj (x : Vx) : Obj := .cells #[.int .i64 x.id,.int .i64 x.host,.int .i64 x.bag,.int .i64 x.smax,.bool x.high,.int .i64 x.subs,.int .i64 x.skew,.slice x.toA x.to.length x.toc] 60
abbrev Px.obj (x : Px) : Obj := .cells #[.int .i64 x.id,.int .i64 x.host,.int .i64 x.part,.int .i64 x.kind,.bool x.out,.int .i64 x.vl,.int .i64 x.sub,.int .i64 x.udp,.int .i64 x.size,.int .i64 x.depth,.int .i64 x.fresh] 62
theorem zero_Vx (w : World) : (zeroValue 60).run Tryz.prog w = .ok (.agg #[.int .i64 0,.int .i64 0,.int .i64 0,.int .i64 0,.bool false,.int .i64 0,.int .i64 0,.slice none 0 0]) w := by kernel_rfl
abbrev vz : Vx := ⟨0,0,0,0,false,0,0,none,0,[]⟩
def findVx (l : List Vx) (id : Int) : Option Vx := l.find? fun v => decide (v.id = id)
theorem findVx_pl (l : List Vx) (id : Int) : (l.map Vx.pl).find? (fun v => decide (v.id = id)) = (findVx l id).map Vx.pl := by
  rw [findVx,List.find?_map];rfl
set_option maxHeartbeats 2000000 in
theorem vl_any (c : Cx) (id : Int) (w : World) (hc : c.Held w) (hl : c.vls.length ≤ maxLen) : Calls Tryz.prog 93 #[c.val,.int .i64 id] w fun e w' => e = .returned (.tuple #[((findVx c.vls id).getD vz).val,.bool (findVx c.vls id).isSome]) ∧ Below w.heap.size w w' := by
  unfold maxLen at hl
  have HV : Hid (VxsAt w c.vlsA c.vls) := hc.2.2.1
  obtain ⟨R,HR⟩ : ∃ R,Hid (findVx c.vls id = R) := ⟨_,rfl⟩
  rw [HR.out]
  clear hc
  obtain ⟨hosts,pA,pc,parts,major,wA,wc,wins,vA,vc,vls,qA,qc,ports⟩ := c
  simp only at HV HR hl ⊢
  obtain ⟨m,Hm⟩ : ∃ m,Hid (vls.length = m) := ⟨_,rfl⟩
  show Calls Tryz.prog 93 #[.agg #[.int .i64 hosts,.slice pA parts.length pc,.int .i64 major,.slice wA wins.length wc,.slice vA vls.length vc,.slice qA ports.length qc],.int .i64 id] w _
  rw [Hm.out] at hl ⊢
  have k1 : Below w.heap.size w (w.alloc (.cells #[.int .i64 hosts,.slice pA parts.length pc,.int .i64 major,.slice wA wins.length wc,.slice vA m vc,.slice qA ports.length qc] 28)) := (Below.refl _ w).alloc (Nat.le_refl _) _
  have kb : Hid (∀ o,Below w.heap.size w ((w.alloc (.cells #[.int .i64 hosts,.slice pA parts.length pc,.int .i64 major,.slice wA wins.length wc,.slice vA m vc,.slice qA ports.length qc] 28)).alloc o)) := fun o => k1.alloc k1.size o
  clear k1
  go_enter Tryz.func93,Tryz.ntmps93
  go_wp2
  go_loop [6] (fun v6 => ∃ k : Nat,k ≤ m ∧ v6 = .int .i64 k ∧ Hid (findVx (vls.drop k) id = R)) (fun v6 => m - (intOf v6).toNat)
  case atStart => exact ⟨0,Nat.zero_le _,rfl,HR.out⟩
  case round =>
    obtain ⟨k,hk,rfl,ht⟩ := hrel
    by_cases hkm : k < m
    · have hkl : k < vls.length := by rw [Hm.out];exact hkm
      have e1 : decide ((k : Int) < (m : Int)) = true := decide_eq_true (by omega)
      have e1' : decide (k < m) = true := decide_eq_true hkm
      obtain ⟨b,off,rfl,hb,hat,_⟩ := HV.out.get hkl
      have hd : findVx (vls.drop k) id = if vls[k].id = id then some vls[k] else findVx (vls.drop (k + 1)) id := by
        rw [List.drop_eq_getElem_cons hkl,findVx,List.find?_cons]
        by_cases e : vls[k].id = id
        · rw [decide_eq_true e,if_pos e]
        · rw [decide_eq_false e,if_neg e];rfl
      generalize vls[k] = x at hat hd
      have hat := hat.below (kb.out (.cells #[.int .i64 0,.int .i64 0,.int .i64 0,.int .i64 0,.bool false,.int .i64 0,.int .i64 0,.slice none 0 0] 60)) hb
      obtain ⟨a0,a1,a2,a3,a4,a5,a6,a7⟩ := hat
      by_cases e : x.id = id
      · have e2 : (x.id == id) = true := by simpa using e
        have HT : Hid (R = some x) := by show _ = _;rw [← ht.out,hd,if_pos e]
        clear hd e
        go_wp2
        (try simp only [Exit.inBlock,Exit.then])
        refine bodyPost_ret (v := .tuple #[x.val,.bool true]) (by simp [results,Tryz.results93,go_sem];try rfl) rfl ?_
        rw [HT.out]
        exact ⟨rfl,kb.out _⟩
      · have e2 : (x.id == id) = false := by simpa using e
        have HT : Hid (findVx (vls.drop (k + 1)) id = R) := by show _ = _;rw [← ht.out,hd,if_neg e]
        clear hd e
        go_wp2
        go_round
        case rel => exact ⟨k + 1,by omega,by go_num,HT⟩
        case measure => simp [intOf];omega
    · have e1 : decide ((k : Int) < (m : Int)) = false := decide_eq_false (by omega)
      have e1' : decide (k < m) = false := decide_eq_false hkm
      have HT : Hid (R = none) := by show _ = _;rw [← ht.out,List.drop_of_length_le (by rw [Hm.out];omega)];rfl
      have hz := zero_Vx
      go_wp2
      (try simp only [Exit.inBlock,Exit.then])
      refine bodyPost_ret (v := .tuple #[vz.val,.bool false]) (by simp [results,Tryz.results93,go_sem];try rfl) rfl ?_
      rw [HT.out]
      exact ⟨rfl,kb.out _⟩
end Go.Proofs.YtdgkanamceeheaaGreat
