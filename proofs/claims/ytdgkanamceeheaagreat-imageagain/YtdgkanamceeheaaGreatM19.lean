/- The program's judgeVL. -/
import Derived.Test.YtdgkanamceeheaaGreatM18
set_option linter.unusedVariables false
set_option maxRecDepth 100000
namespace Go.Proofs.YtdgkanamceeheaaGreat
open Go.RowKit

theorem none_any (hosts major : Int) (pA wA vA qA : Option Addr) (pl pc wl wk vl vc ql qc : Nat) (vid vhost vbag vsmax vsubs vskew : Int) (vhigh : Bool) (tA : Option Addr) (tl tc : Nat) (cb xb : Nat) (n : Int) (W : World) (h0 : -9223372036854775807 ≤ hosts) (h1 : hosts ≤ 9223372036854775807) (hC : W.heap[cb]? = some (.cells #[.int .i64 hosts, .slice pA pl pc, .int .i64 major, .slice wA wl wk, .slice vA vl vc, .slice qA ql qc] 28)) (hX : W.heap[xb]? = some (.cells #[.int .i64 vid, .int .i64 vhost, .int .i64 vbag, .int .i64 vsmax, .bool vhigh, .int .i64 vsubs, .int .i64 vskew, .slice tA tl tc] 60)) : Calls Tryz.prog 105 #[.int .i64 n, .pointer (some ⟨cb, 0, none⟩), .pointer (some ⟨xb, 0, none⟩)] W fun e w' => e = .returned (.bool (!PitotConf.isHost hosts n || decide (n = vhost))) ∧ Below W.heap.size W w' := by
  have HH := fun w => isHost_any hosts major pA wA vA qA pl pc wl wk vl vc ql qc n w h0 h1
  obtain ⟨c0, c1, c2, c3, c4, c5⟩ := cells_6 hC
  obtain ⟨P, HP⟩ : ∃ P, Hid (PitotConf.isHost hosts n = P) := ⟨_, rfl⟩
  rw [HP.out] at HH ⊢
  have HX := Lib.hid hX
  clear hX hC
  cases P
  · have HH := Lib.hid HH
    go_enter Tryz.func105, Tryz.ntmps105
    go_wp2_with (go_at_call 76; (with_reducible refine (HH.out _).mono ?_); rintro e w2 ⟨rfl, hb2⟩)
    go_returns
    exact ⟨rfl, hb2⟩
  · have HH := Lib.hid HH
    obtain ⟨E, hE⟩ : ∃ E, decide (n = vhost) = E := ⟨_, rfl⟩
    have hE' : (n == vhost) = E := by rw [← hE]; rfl
    rw [hE]
    go_enter Tryz.func105, Tryz.ntmps105
    go_wp2_with (go_at_call 76; (with_reducible refine (HH.out _).mono ?_); rintro e w2 ⟨rfl, hb2⟩; (have X2 := Lib.hid (lies_below HX.out hb2 (lies_lt HX.out))); obtain ⟨x0, x1, x2, x3, x4, x5, x6, x7⟩ := cells_8 X2.out)
    go_returns
    exact ⟨rfl, hb2⟩
set_option maxHeartbeats 2000000 in
theorem index_any (hosts major : Int) (pA wA vA qA : Option Addr) (pl pc wl wk vl vc ql qc : Nat) (vid vhost vbag vsmax vsubs vskew : Int) (vhigh : Bool) (tA : Option Addr) (tl tc : Nat) (tol : List Int) (cb xb : Nat) (W : World) (h0 : -9223372036854775807 ≤ hosts) (h1 : hosts ≤ 9223372036854775807) (hC : W.heap[cb]? = some (.cells #[.int .i64 hosts, .slice pA pl pc, .int .i64 major, .slice wA wl wk, .slice vA vl vc, .slice qA ql qc] 28)) (hX : W.heap[xb]? = some (.cells #[.int .i64 vid, .int .i64 vhost, .int .i64 vbag, .int .i64 vsmax, .bool vhigh, .int .i64 vsubs, .int .i64 vskew, .slice tA tl tc] 60)) (hT : IntsAt W tA tol) (htl : tol.length = tl) (hl : tl ≤ maxLen) : Calls Tryz.prog 120 #[.slice tA tl tc, .func (.func 105) #[] #[.pointer (some ⟨cb, 0, none⟩), .pointer (some ⟨xb, 0, none⟩)]] W fun e w' => (∃ r : Int, e = .returned (.int .i64 r) ∧ decide (0 ≤ r) = tol.any (fun n => !PitotConf.isHost hosts n || decide (n = vhost))) ∧ Below W.heap.size W w' := by
  unfold maxLen at hl
  have HQ : Hid (∀ (n : Int) (w' : World), Below W.heap.size W w' → Calls Tryz.prog 105 #[.int .i64 n, .pointer (some ⟨cb, 0, none⟩), .pointer (some ⟨xb, 0, none⟩)] w' fun e w'' => e = .returned (.bool (!PitotConf.isHost hosts n || decide (n = vhost))) ∧ Below w'.heap.size w' w'') := fun n w' hb => none_any hosts major pA wA vA qA pl pc wl wk vl vc ql qc vid vhost vbag vsmax vsubs vskew vhigh tA tl tc cb xb n w' h0 h1 (lies_below hC hb (lies_lt hC)) (lies_below hX hb (lies_lt hX))
  have HT := Lib.hid hT
  obtain ⟨R, HR⟩ : ∃ R, Hid (tol.any (fun n => !PitotConf.isHost hosts n || decide (n = vhost)) = R) := ⟨_, rfl⟩
  rw [HR.out]
  have Hl := Lib.hid htl
  clear hC hX hT htl
  generalize hq : (fun n => !PitotConf.isHost hosts n || decide (n = vhost)) = q at HR
  have HQ : Hid (∀ (n : Int) (w' : World), Below W.heap.size W w' → Calls Tryz.prog 105 #[.int .i64 n, .pointer (some ⟨cb, 0, none⟩), .pointer (some ⟨xb, 0, none⟩)] w' fun e w'' => e = .returned (.bool (q n)) ∧ Below w'.heap.size w' w'') := by rw [← hq]; exact HQ
  clear hq
  go_enter Tryz.func120, Tryz.ntmps120
  go_wp2
  go_loopw [8] (fun v8 wr => ∃ k : Nat, k ≤ tl ∧ v8 = .int .i64 k ∧ Hid ((tol.drop k).any q = R) ∧ Below W.heap.size W wr) (fun v8 _ => tl - (intOf v8).toNat)
  case atStart => exact ⟨0, Nat.zero_le _, rfl, HR, Below.refl _ _⟩
  case round =>
    obtain ⟨k, hk, rfl, ht, hB⟩ := hrel
    have HB := Lib.hid hB; clear hB
    by_cases hkm : k < tl
    · have hkl : k < tol.length := by rw [Hl.out]; exact hkm
      have e1 : decide ((k : Int) < (tl : Int)) = true := decide_eq_true (by omega)
      have e1' : decide (k < tl) = true := decide_eq_true hkm
      obtain ⟨b, off, rfl, hb, hat⟩ := HT.out.get hkl
      have hat : wr.cell? ⟨b, off + k, none⟩ = some (.int .i64 tol[k]) := (HB.out.cell hb).trans hat
      have hs : (tol.drop k).any q = (q tol[k] || (tol.drop (k + 1)).any q) := by rw [List.drop_eq_getElem_cons hkl, List.any_cons]
      have HC := HQ.out tol[k] wr HB.out
      generalize tol[k] = x at hat hs HC
      cases hx : q x
      · rw [hx] at HC
        have HC := Lib.hid HC
        have HT2 : Hid ((tol.drop (k + 1)).any q = R) := by show _ = _; rw [← ht.out, hs, hx]; rfl
        clear hs hx ht
        go_wp2_with (go_at_call 105; (with_reducible refine (HC.out).mono ?_); rintro e w2 ⟨rfl, hb2⟩)
        have HB2 := Lib.hid (HB.out.trans (hb2.mono HB.out.size))
        clear hb2
        go_roundw
        case rel => exact ⟨k + 1, by omega, by go_num, HT2, HB2.out⟩
        case measure => simp [intOf]; omega
      · rw [hx] at HC
        have HC := Lib.hid HC
        have HT2 : Hid (R = true) := by show _ = _; rw [← ht.out, hs, hx]; rfl
        clear hs hx ht
        go_wp2_with (go_at_call 105; (with_reducible refine (HC.out).mono ?_); rintro e w2 ⟨rfl, hb2⟩)
        go_returns
        rw [HT2.out]
        exact ⟨⟨_, rfl, decide_eq_true (by omega)⟩, HB.out.trans (hb2.mono HB.out.size)⟩
    · have e1 : decide ((k : Int) < (tl : Int)) = false := decide_eq_false (by omega)
      have e1' : decide (k < tl) = false := decide_eq_false hkm
      have HT2 : Hid (R = false) := by show _ = _; rw [← ht.out, List.drop_of_length_le (by rw [Hl.out]; omega)]; rfl
      clear ht
      go_wp2
      go_returns
      rw [HT2.out]
      exact ⟨⟨_, rfl, by decide⟩, HB.out⟩
theorem contains_any (hosts major : Int) (pA wA vA qA : Option Addr) (pl pc wl wk vl vc ql qc : Nat) (vid vhost vbag vsmax vsubs vskew : Int) (vhigh : Bool) (tA : Option Addr) (tl tc : Nat) (tol : List Int) (cb xb : Nat) (W : World) (h0 : -9223372036854775807 ≤ hosts) (h1 : hosts ≤ 9223372036854775807) (hC : W.heap[cb]? = some (.cells #[.int .i64 hosts, .slice pA pl pc, .int .i64 major, .slice wA wl wk, .slice vA vl vc, .slice qA ql qc] 28)) (hX : W.heap[xb]? = some (.cells #[.int .i64 vid, .int .i64 vhost, .int .i64 vbag, .int .i64 vsmax, .bool vhigh, .int .i64 vsubs, .int .i64 vskew, .slice tA tl tc] 60)) (hT : IntsAt W tA tol) (htl : tol.length = tl) (hl : tl ≤ maxLen) : Calls Tryz.prog 104 #[.slice tA tl tc, .func (.func 105) #[] #[.pointer (some ⟨cb, 0, none⟩), .pointer (some ⟨xb, 0, none⟩)]] W fun e w' => e = .returned (.bool (tol.any (fun n => !PitotConf.isHost hosts n || decide (n = vhost)))) ∧ Below W.heap.size W w' := by
  have HQ := Lib.hid (index_any hosts major pA wA vA qA pl pc wl wk vl vc ql qc vid vhost vbag vsmax vsubs vskew vhigh tA tl tc tol cb xb W h0 h1 hC hX hT htl hl)
  obtain ⟨R, HR⟩ : ∃ R, Hid (tol.any (fun n => !PitotConf.isHost hosts n || decide (n = vhost)) = R) := ⟨_, rfl⟩
  rw [HR.out] at HQ ⊢
  clear hC hX hT htl hl
  go_enter Tryz.func104, Tryz.ntmps104
  go_wp2_with (go_at_call 120; (with_reducible refine (HQ.out).mono ?_); rintro e w2 ⟨⟨r, rfl, hr⟩, hb2⟩)
  go_returns
  exact ⟨rfl, hb2⟩
/-- What is wrong with a link behind one of that number. -/
def linkP (hosts ahead : Int) (v : Vx) : Int :=
  if mayV hosts v.id v.host v.bag v.smax v.subs v.skew v.to.length = false then 1 else if decide (v.id ≤ ahead) = true then 25 else if PitotConf.rises v.to = false then 25 else if v.to.any (fun n => !PitotConf.isHost hosts n || decide (n = v.host)) = true then 20 else 0

set_option maxHeartbeats 4000000 in
theorem judgeVL_any (hosts major : Int) (pA wA vA qA : Option Addr) (pl pc wl wk vl vc ql qc : Nat) (vid vhost vbag vsmax vsubs vskew : Int) (vhigh : Bool) (tA : Option Addr) (tl tc : Nat) (tol : List Int) (ahead : Int) (w : World) (h0 : -9223372036854775807 ≤ hosts) (h1 : hosts ≤ 9223372036854775807) (hT : IntsAt w tA tol) (htl : tol.length = tl) (hl : tl ≤ maxLen) : Calls Tryz.prog 78 #[.agg #[.int .i64 hosts, .slice pA pl pc, .int .i64 major, .slice wA wl wk, .slice vA vl vc, .slice qA ql qc], .agg #[.int .i64 vid, .int .i64 vhost, .int .i64 vbag, .int .i64 vsmax, .bool vhigh, .int .i64 vsubs, .int .i64 vskew, .slice tA tl tc], .int .i64 ahead] w fun e w' => e = .returned (.int .i64 (linkP hosts ahead ⟨vid, vhost, vbag, vsmax, vhigh, vsubs, vskew, tA, tc, tol⟩)) ∧ Below w.heap.size w w' := by
  have HM := Lib.hid (fun w => mayVL_any hosts major pA wA vA qA pl pc wl wk vl vc ql qc vid vhost vbag vsmax vsubs vskew vhigh tA tl tc w h0 h1)
  have HR := Lib.hid (fun (w' : World) (hb : Below w.heap.size w w') => rises_any tA tc tol w' (hT.below hb) (by rw [htl]; exact hl))
  have HA := Lib.hid (fun (w' : World) (hb : Below w.heap.size w w') (hC : w'.heap[w.heap.size]? = some (.cells #[.int .i64 hosts, .slice pA pl pc, .int .i64 major, .slice wA wl wk, .slice vA vl vc, .slice qA ql qc] 28)) (hX : w'.heap[w.heap.size + 1]? = some (.cells #[.int .i64 vid, .int .i64 vhost, .int .i64 vbag, .int .i64 vsmax, .bool vhigh, .int .i64 vsubs, .int .i64 vskew, .slice tA tl tc] 60)) => contains_any hosts major pA wA vA qA pl pc wl wk vl vc ql qc vid vhost vbag vsmax vsubs vskew vhigh tA tl tc tol _ _ w' h0 h1 hC hX (hT.below hb) htl hl)
  rw [htl] at HR
  have HE : linkP hosts ahead ⟨vid, vhost, vbag, vsmax, vhigh, vsubs, vskew, tA, tc, tol⟩ = if mayV hosts vid vhost vbag vsmax vsubs vskew tl = false then 1 else if decide (vid ≤ ahead) = true then 25 else if PitotConf.rises tol = false then 25 else if tol.any (fun n => !PitotConf.isHost hosts n || decide (n = vhost)) = true then 20 else 0 := by rw [linkP, ← htl]
  rw [HE]
  generalize mayV hosts vid vhost vbag vsmax vsubs vskew tl = b1 at HM ⊢
  generalize PitotConf.rises tol = b2 at HR ⊢
  generalize tol.any (fun n => !PitotConf.isHost hosts n || decide (n = vhost)) = b3 at HA ⊢
  generalize hb4 : decide (vid ≤ ahead) = b4
  clear HE hT htl hl h0 h1
  go_enter Tryz.func78, Tryz.ntmps78
  go_upto_region 1 with (fail)
  have CB : Hid (((w.alloc (.cells #[.int .i64 hosts, .slice pA pl pc, .int .i64 major, .slice wA wl wk, .slice vA vl vc, .slice qA ql qc] 28)).alloc (.cells #[.int .i64 vid, .int .i64 vhost, .int .i64 vbag, .int .i64 vsmax, .bool vhigh, .int .i64 vsubs, .int .i64 vskew, .slice tA tl tc] 60)).heap[w.heap.size]? = some (.cells #[.int .i64 hosts, .slice pA pl pc, .int .i64 major, .slice wA wl wk, .slice vA vl vc, .slice qA ql qc] 28)) := lies_alloc (heap_alloc_new w _) _
  have XB : Hid (((w.alloc (.cells #[.int .i64 hosts, .slice pA pl pc, .int .i64 major, .slice wA wl wk, .slice vA vl vc, .slice qA ql qc] 28)).alloc (.cells #[.int .i64 vid, .int .i64 vhost, .int .i64 vbag, .int .i64 vsmax, .bool vhigh, .int .i64 vsubs, .int .i64 vskew, .slice tA tl tc] 60)).heap[w.heap.size + 1]? = some (.cells #[.int .i64 vid, .int .i64 vhost, .int .i64 vbag, .int .i64 vsmax, .bool vhigh, .int .i64 vsubs, .int .i64 vskew, .slice tA tl tc] 60)) := by
    have := heap_alloc_new (w.alloc (.cells #[.int .i64 hosts, .slice pA pl pc, .int .i64 major, .slice wA wl wk, .slice vA vl vc, .slice qA ql qc] 28)) (.cells #[.int .i64 vid, .int .i64 vhost, .int .i64 vbag, .int .i64 vsmax, .bool vhigh, .int .i64 vsubs, .int .i64 vskew, .slice tA tl tc] 60)
    rw [World.size_alloc] at this
    exact this
  have BB : Hid (Below w.heap.size w ((w.alloc (.cells #[.int .i64 hosts, .slice pA pl pc, .int .i64 major, .slice wA wl wk, .slice vA vl vc, .slice qA ql qc] 28)).alloc (.cells #[.int .i64 vid, .int .i64 vhost, .int .i64 vbag, .int .i64 vsmax, .bool vhigh, .int .i64 vsubs, .int .i64 vskew, .slice tA tl tc] 60))) := (((Below.refl _ w).alloc (Nat.le_refl _) _)).alloc (((Below.refl _ w).alloc (Nat.le_refl _) _)).size _
  generalize (w.alloc (.cells #[.int .i64 hosts, .slice pA pl pc, .int .i64 major, .slice wA wl wk, .slice vA vl vc, .slice qA ql qc] 28)).alloc (.cells #[.int .i64 vid, .int .i64 vhost, .int .i64 vbag, .int .i64 vsmax, .bool vhigh, .int .i64 vsubs, .int .i64 vskew, .slice tA tl tc] 60) = W1 at CB XB BB ⊢
  obtain ⟨c0, c1, c2, c3, c4, c5⟩ := cells_6 CB.out
  obtain ⟨x0, x1, x2, x3, x4, x5, x6, x7⟩ := cells_8 XB.out
  cases b1
  · go_wp2_with (first
      | (go_at_call 102; (with_reducible refine (HM.out _).mono ?_); rintro e w2 ⟨rfl, hb2⟩
         (have C2 := Lib.hid (lies_below CB.out hb2 (lies_lt CB.out)))
         (have X2 := Lib.hid (lies_below XB.out hb2 (lies_lt XB.out)))
         (have B2 := Lib.hid (BB.out.trans (hb2.mono BB.out.size)))
         (clear hb2 CB XB BB c0 c1 c2 c3 c4 c5 x0 x1 x2 x3 x4 x5 x6 x7)
         (have CB := C2)
         (have XB := X2)
         (have BB := B2)
         (clear C2 X2 B2)
         (obtain ⟨c0, c1, c2, c3, c4, c5⟩ := cells_6 CB.out)
         (obtain ⟨x0, x1, x2, x3, x4, x5, x6, x7⟩ := cells_8 XB.out)))
    go_returns
    exact ⟨rfl, BB.out⟩
  · cases b4
    · cases b2
      · go_wp2_with (first
          | (go_at_call 102; (with_reducible refine (HM.out _).mono ?_); rintro e w2 ⟨rfl, hb2⟩
             (have C2 := Lib.hid (lies_below CB.out hb2 (lies_lt CB.out)))
             (have X2 := Lib.hid (lies_below XB.out hb2 (lies_lt XB.out)))
             (have B2 := Lib.hid (BB.out.trans (hb2.mono BB.out.size)))
             (clear hb2 CB XB BB c0 c1 c2 c3 c4 c5 x0 x1 x2 x3 x4 x5 x6 x7)
             (have CB := C2)
             (have XB := X2)
             (have BB := B2)
             (clear C2 X2 B2)
             (obtain ⟨c0, c1, c2, c3, c4, c5⟩ := cells_6 CB.out)
             (obtain ⟨x0, x1, x2, x3, x4, x5, x6, x7⟩ := cells_8 XB.out))
          | (go_at_call 103; (with_reducible refine (HR.out _ BB.out).mono ?_); rintro e w3 ⟨rfl, hb2⟩
             (have C3 := Lib.hid (lies_below CB.out hb2 (lies_lt CB.out)))
             (have X3 := Lib.hid (lies_below XB.out hb2 (lies_lt XB.out)))
             (have B3 := Lib.hid (BB.out.trans (hb2.mono BB.out.size)))
             (clear hb2 CB XB BB c0 c1 c2 c3 c4 c5 x0 x1 x2 x3 x4 x5 x6 x7)
             (have CB := C3)
             (have XB := X3)
             (have BB := B3)
             (clear C3 X3 B3)
             (obtain ⟨c0, c1, c2, c3, c4, c5⟩ := cells_6 CB.out)
             (obtain ⟨x0, x1, x2, x3, x4, x5, x6, x7⟩ := cells_8 XB.out)))
        go_returns
        exact ⟨rfl, BB.out⟩
      · cases b3
        · go_wp2_with (first
            | (go_at_call 102; (with_reducible refine (HM.out _).mono ?_); rintro e w2 ⟨rfl, hb2⟩
               (have C2 := Lib.hid (lies_below CB.out hb2 (lies_lt CB.out)))
               (have X2 := Lib.hid (lies_below XB.out hb2 (lies_lt XB.out)))
               (have B2 := Lib.hid (BB.out.trans (hb2.mono BB.out.size)))
               (clear hb2 CB XB BB c0 c1 c2 c3 c4 c5 x0 x1 x2 x3 x4 x5 x6 x7)
               (have CB := C2)
               (have XB := X2)
               (have BB := B2)
               (clear C2 X2 B2)
               (obtain ⟨c0, c1, c2, c3, c4, c5⟩ := cells_6 CB.out)
               (obtain ⟨x0, x1, x2, x3, x4, x5, x6, x7⟩ := cells_8 XB.out))
            | (go_at_call 103; (with_reducible refine (HR.out _ BB.out).mono ?_); rintro e w3 ⟨rfl, hb2⟩
               (have C3 := Lib.hid (lies_below CB.out hb2 (lies_lt CB.out)))
               (have X3 := Lib.hid (lies_below XB.out hb2 (lies_lt XB.out)))
               (have B3 := Lib.hid (BB.out.trans (hb2.mono BB.out.size)))
               (clear hb2 CB XB BB c0 c1 c2 c3 c4 c5 x0 x1 x2 x3 x4 x5 x6 x7)
               (have CB := C3)
               (have XB := X3)
               (have BB := B3)
               (clear C3 X3 B3)
               (obtain ⟨c0, c1, c2, c3, c4, c5⟩ := cells_6 CB.out)
               (obtain ⟨x0, x1, x2, x3, x4, x5, x6, x7⟩ := cells_8 XB.out))
            | (go_at_call 104; (with_reducible refine (HA.out _ BB.out CB.out XB.out).mono ?_); rintro e w4 ⟨rfl, hb2⟩
               (have C4 := Lib.hid (lies_below CB.out hb2 (lies_lt CB.out)))
               (have X4 := Lib.hid (lies_below XB.out hb2 (lies_lt XB.out)))
               (have B4 := Lib.hid (BB.out.trans (hb2.mono BB.out.size)))
               (clear hb2 CB XB BB c0 c1 c2 c3 c4 c5 x0 x1 x2 x3 x4 x5 x6 x7)
               (have CB := C4)
               (have XB := X4)
               (have BB := B4)
               (clear C4 X4 B4)
               (obtain ⟨c0, c1, c2, c3, c4, c5⟩ := cells_6 CB.out)
               (obtain ⟨x0, x1, x2, x3, x4, x5, x6, x7⟩ := cells_8 XB.out)))
          go_returns
          exact ⟨rfl, BB.out⟩
        · go_wp2_with (first
            | (go_at_call 102; (with_reducible refine (HM.out _).mono ?_); rintro e w2 ⟨rfl, hb2⟩
               (have C2 := Lib.hid (lies_below CB.out hb2 (lies_lt CB.out)))
               (have X2 := Lib.hid (lies_below XB.out hb2 (lies_lt XB.out)))
               (have B2 := Lib.hid (BB.out.trans (hb2.mono BB.out.size)))
               (clear hb2 CB XB BB c0 c1 c2 c3 c4 c5 x0 x1 x2 x3 x4 x5 x6 x7)
               (have CB := C2)
               (have XB := X2)
               (have BB := B2)
               (clear C2 X2 B2)
               (obtain ⟨c0, c1, c2, c3, c4, c5⟩ := cells_6 CB.out)
               (obtain ⟨x0, x1, x2, x3, x4, x5, x6, x7⟩ := cells_8 XB.out))
            | (go_at_call 103; (with_reducible refine (HR.out _ BB.out).mono ?_); rintro e w3 ⟨rfl, hb2⟩
               (have C3 := Lib.hid (lies_below CB.out hb2 (lies_lt CB.out)))
               (have X3 := Lib.hid (lies_below XB.out hb2 (lies_lt XB.out)))
               (have B3 := Lib.hid (BB.out.trans (hb2.mono BB.out.size)))
               (clear hb2 CB XB BB c0 c1 c2 c3 c4 c5 x0 x1 x2 x3 x4 x5 x6 x7)
               (have CB := C3)
               (have XB := X3)
               (have BB := B3)
               (clear C3 X3 B3)
               (obtain ⟨c0, c1, c2, c3, c4, c5⟩ := cells_6 CB.out)
               (obtain ⟨x0, x1, x2, x3, x4, x5, x6, x7⟩ := cells_8 XB.out))
            | (go_at_call 104; (with_reducible refine (HA.out _ BB.out CB.out XB.out).mono ?_); rintro e w4 ⟨rfl, hb2⟩
               (have C4 := Lib.hid (lies_below CB.out hb2 (lies_lt CB.out)))
               (have X4 := Lib.hid (lies_below XB.out hb2 (lies_lt XB.out)))
               (have B4 := Lib.hid (BB.out.trans (hb2.mono BB.out.size)))
               (clear hb2 CB XB BB c0 c1 c2 c3 c4 c5 x0 x1 x2 x3 x4 x5 x6 x7)
               (have CB := C4)
               (have XB := X4)
               (have BB := B4)
               (clear C4 X4 B4)
               (obtain ⟨c0, c1, c2, c3, c4, c5⟩ := cells_6 CB.out)
               (obtain ⟨x0, x1, x2, x3, x4, x5, x6, x7⟩ := cells_8 XB.out)))
          go_returns
          exact ⟨rfl, BB.out⟩
    · go_wp2_with (first
        | (go_at_call 102; (with_reducible refine (HM.out _).mono ?_); rintro e w2 ⟨rfl, hb2⟩
           (have C2 := Lib.hid (lies_below CB.out hb2 (lies_lt CB.out)))
           (have X2 := Lib.hid (lies_below XB.out hb2 (lies_lt XB.out)))
           (have B2 := Lib.hid (BB.out.trans (hb2.mono BB.out.size)))
           (clear hb2 CB XB BB c0 c1 c2 c3 c4 c5 x0 x1 x2 x3 x4 x5 x6 x7)
           (have CB := C2)
           (have XB := X2)
           (have BB := B2)
           (clear C2 X2 B2)
           (obtain ⟨c0, c1, c2, c3, c4, c5⟩ := cells_6 CB.out)
           (obtain ⟨x0, x1, x2, x3, x4, x5, x6, x7⟩ := cells_8 XB.out)))
      go_returns
      exact ⟨rfl, BB.out⟩
end Go.Proofs.YtdgkanamceeheaaGreat
