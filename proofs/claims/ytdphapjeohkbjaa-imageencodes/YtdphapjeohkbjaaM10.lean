/- Merged: Po, BiShelf, BiWy, CrMv, CrTb, CrSm, CrOp, Xf, Cf, Pq. -/
import Derived.Test.YtdphapjeohkbjaaM9
import Derived.Laws.EntriesVeiled
import Derived.Shelf.Strings.Builder1
import Derived.Shelf.Strings.Builder2
import Derived.Shelf.Strings.OnBuilder
import Derived.Shelf.Slices.Turned
import Derived.Ground.Names2Prog
import Derived.Shelf.Slices.ReverseS
import Derived.Shelf.Slices.Clone
import Derived.Shelf.Slices.Cells
import Derived.Test.YtdphapjeohkbjaaProg
import Derived.Test.YtdphapjeohkbjaaM2
import Derived.Deep.AppendLies
import Derived.Deep.DeepFit
import Derived.Test.YtdphapjeohkbjaaRows
import Derived.WalkKit
import Derived.WalkSpells
import Derived.WalkLawsBesides
import Derived.BigQuiet
import Derived.Laws.BitsAllLaws
import Derived.Laws.BitsLemmas
import Derived.Deep.QuietTactic
import Derived.Lib.Hide
import Derived.Handy
import Derived.Test.YtdphapjeohkbjaaM1
import Derived.RegionTactic
import Derived.BigRegion
import Derived.Deep.RegionWith
import Derived.Below
import Derived.Test.YtdphapjeohkbjaaM4
set_option linter.unusedVariables false
/- The program's Check. -/
set_option maxRecDepth 100000
namespace Go.Proofs.Ytdphapjeohkbjaa
open Go.RowKit

/-- A network that is not too great. -/
structure Sm (c : Cx) : Prop where
  ok : c.Ok
  parts : c.parts.length ≤ 5000
  wins : c.wins.length ≤ 1000
  vls : c.vls.length ≤ 400
  ports : c.ports.length ≤ 1000
  tol : ∀ v ∈ c.vls, v.to.length ≤ 5000
/-- What each judge tells. -/
def jd (c : Cx) : Nat → Int × Int
  | 1 => (0, if c.hosts < 1 ∨ 64 < c.hosts then 1 else 0)
  | 2 => told (PitotConf.scan (PitotConf.partJ c.hosts) [] c.parts)
  | 3 => (0, if c.major < 1 ∨ 1073741824 < c.major then 1 else 0)
  | 4 => told (PitotConf.scan (PitotConf.winJ c.parts c.major) [] (c.wins.map Wn.pl))
  | 5 => told (PitotConf.scan (PitotConf.linkJ c.hosts) [] (c.vls.map Vx.pl))
  | 6 => told (PitotConf.scan (PitotConf.portJ c.parts (c.vls.map Vx.pl)) [] (c.ports.map Px.pl))
  | _ => toldJ (PitotConf.jitF (c.vls.map Vx.pl) c.hosts)
def firstJ (f : Nat → Int × Int) : List Nat → Int × Int × Int
  | [] => (0, 0, 0)
  | k :: r => if (f k).2 = 0 then firstJ f r else ((k : Int), (f k).1, (f k).2)
theorem told_zero {α : Type} {J : List α → α → Int} {l : List α} (h : (told (PitotConf.scan J [] l)).2 = 0) : PitotConf.scan J [] l = none := by
  cases hs : PitotConf.scan J [] l with
  | none => rfl
  | some x => obtain ⟨i, e⟩ := x; rw [hs] at h; exact absurd h (PitotConf.scan_cut hs).2.1
theorem told_some {α : Type} {J : List α → α → Int} {l : List α} {i : Nat} {e : Int} (h : PitotConf.scan J [] l = some (i, e)) : told (PitotConf.scan J [] l) = ((i : Int), e) ∧ e ≠ 0 := by
  rw [h]; exact ⟨rfl, (PitotConf.scan_cut h).2.1⟩
theorem check_eq (c : Cx) : PitotConf.check c.pl = firstJ (jd c) [1, 2, 3, 4, 5, 6, 7] := by
  unfold PitotConf.check Cx.pl
  simp only [firstJ, jd]
  by_cases h1 : c.hosts < 1 ∨ 64 < c.hosts
  · rw [if_pos h1, if_pos h1, if_neg (by decide)]; rfl
  rw [if_neg h1, if_neg h1, if_pos rfl]
  cases h2 : PitotConf.scan (PitotConf.partJ c.hosts) [] c.parts with
  | some x => obtain ⟨i, e⟩ := x; exact (if_neg (PitotConf.scan_cut h2).2.1).symm
  | none =>
    simp only
    rw [if_pos (show (told none).2 = 0 from rfl)]
    by_cases h3 : c.major < 1 ∨ 1073741824 < c.major
    · rw [if_pos h3, if_pos h3, if_neg (by decide)]; rfl
    rw [if_neg h3, if_neg h3, if_pos rfl]
    cases h4 : PitotConf.scan (PitotConf.winJ c.parts c.major) [] (c.wins.map Wn.pl) with
    | some x => obtain ⟨i, e⟩ := x; exact (if_neg (PitotConf.scan_cut h4).2.1).symm
    | none =>
      simp only
      rw [if_pos (show (told none).2 = 0 from rfl)]
      cases h5 : PitotConf.scan (PitotConf.linkJ c.hosts) [] (c.vls.map Vx.pl) with
      | some x => obtain ⟨i, e⟩ := x; exact (if_neg (PitotConf.scan_cut h5).2.1).symm
      | none =>
        simp only
        rw [if_pos (show (told none).2 = 0 from rfl)]
        cases h6 : PitotConf.scan (PitotConf.portJ c.parts (c.vls.map Vx.pl)) [] (c.ports.map Px.pl) with
        | some x => obtain ⟨i, e⟩ := x; exact (if_neg (PitotConf.scan_cut h6).2.1).symm
        | none =>
          simp only
          rw [if_pos (show (told none).2 = 0 from rfl)]
          cases h7 : PitotConf.jitF (c.vls.map Vx.pl) c.hosts with
          | some h => exact (if_neg (show ¬ ((26 : Int) = 0) by decide)).symm
          | none => exact (if_pos rfl).symm
theorem lit_le {k : Int} (h : (Lit.int .i64 k).wf = true) : -9223372036854775808 ≤ k ∧ k ≤ 9223372036854775807 := by
  simp [Lit.wf, IntKind.min, IntKind.max, IntKind.signed, IntKind.bits] at h
  omega
/-- What is known once the judges ahead have found nothing. -/
theorem judges_any (c : Cx) (hs : Sm c) (w : World) (hc : c.Held w) (k : Nat) (h1 : 1 ≤ k) (h7 : k ≤ 7) (hprev : ∀ i, 1 ≤ i → i < k → (jd c i).2 = 0) : Calls Try.prog (19 + k) #[c.val] w fun e w' => e = .returned (judged (jd c k)) ∧ Below w.heap.size w w' := by
  obtain ⟨o1, o2, o3, o4, o5, o6, o7, o8, o9, o10⟩ := hs.ok
  have hpl : c.parts.length ≤ maxLen := by have := hs.parts; unfold maxLen; omega
  have hvl : c.vls.length ≤ maxLen := by have := hs.vls; unfold maxLen; omega
  have H1 : 1 < k → 1 ≤ c.hosts ∧ c.hosts ≤ 64 := fun h => by
    have := hprev 1 (by omega) h
    by_cases h2 : c.hosts < 1 ∨ 64 < c.hosts
    · have h3 : (jd c 1).2 = 1 := if_pos h2
      rw [h3] at this; omega
    · omega
  have H2 : 2 < k → ∀ h ∈ c.parts, 0 ≤ h ∧ h < 64 := fun h => by
    have hn := told_zero (hprev 2 (by omega) h)
    rw [PitotConf.scan_none] at hn
    intro x hx
    obtain ⟨i, hi, rfl⟩ := List.mem_iff_getElem.1 hx
    have := hn i hi
    unfold PitotConf.partJ at this
    have hb := (PitotConf.ite0 (by decide) this).1
    simp only [not_or, Bool.not_eq_false] at hb
    have h3 := PitotConf.isHost_iff.1 hb.2
    have := H1 (by omega)
    omega
  have H3 : 3 < k → 0 ≤ c.major ∧ c.major ≤ 1073741824 := fun h => by
    have := hprev 3 (by omega) h
    by_cases h2 : c.major < 1 ∨ 1073741824 < c.major
    · have h3 : (jd c 3).2 = 1 := if_pos h2
      rw [h3] at this; omega
    · omega
  have H5 : 5 < k → ∀ v ∈ c.vls, 64 ≤ v.smax ∧ v.smax ≤ 1518 ∧ 1 ≤ v.subs ∧ v.subs ≤ 4 := fun h => by
    have hn := told_zero (hprev 5 (by omega) h)
    rw [PitotConf.scan_none] at hn
    intro x hx
    obtain ⟨i, hi, rfl⟩ := List.mem_iff_getElem.1 hx
    have := hn i (by simpa using hi)
    rw [List.getElem_map] at this
    unfold PitotConf.linkJ at this
    have hb := (PitotConf.ite0 (by decide) this).1
    simp only [not_or] at hb
    obtain ⟨_, _, _, _, _, _, a, b, d, e, _⟩ := hb
    exact ⟨by omega, by omega, by omega, by omega⟩
  match k, h1, h7, hprev, H1, H2, H3, H5 with
  | 1, _, _, _, _, _, _, _ => exact judgeHosts_any _ _ _ _ _ _ _ _ _ _ _ _ _ _ w
  | 2, _, _, _, H1, _, _, _ => exact judgeParts_any c w hc hpl (H1 (by omega))
  | 3, _, _, _, _, _, _, _ => exact judgeFrame_any _ _ _ _ _ _ _ _ _ _ _ _ _ _ w
  | 4, _, _, _, _, H2, H3, _ => exact judgeWins_any c w hc hpl hs.wins (H3 (by omega)) (H2 (by omega)) (fun x hx => (lit_le (o6 x hx).2.1).2)
  | 5, _, _, _, H1, _, _, _ => exact judgeVLs_any c w hc hvl (fun v hv => by have := hs.tol v hv; unfold maxLen; omega) (by have := H1 (by omega); omega)
  | 6, _, _, _, _, _, _, H5 => exact judgePorts_any c w hc hpl hvl (fun v hv => by have := H5 (by omega) v hv; exact ⟨hs.tol v hv, by omega, by omega, by omega, by omega⟩) hs.ports o10
  | 7, _, _, _, H1, _, _, H5 => exact judgeJitters_any c w hc hs.vls (fun v hv => by have := H5 (by omega) v hv; omega) (by have := H1 (by omega); omega)
theorem firstJ_at (f : Nat → Int × Int) : ∀ (n k : Nat), k + n = 8 → (∀ i, 1 ≤ i → i < k → (f i).2 = 0) → 1 ≤ k → firstJ f [1, 2, 3, 4, 5, 6, 7] = firstJ f ((List.range 8).drop k)
  | n, k, hk, h, h1 => by
    have e : ∀ i, 1 ≤ i → i < k → firstJ f ((List.range 8).drop i) = firstJ f ((List.range 8).drop (i + 1)) := fun i hi hik => by
      rw [List.drop_eq_getElem_cons (by simp; omega), List.getElem_range, firstJ, if_pos (h i hi hik)]
    have key : ∀ j, 1 ≤ j → j ≤ k → firstJ f ((List.range 8).drop 1) = firstJ f ((List.range 8).drop j) := by
      intro j
      induction j with
      | zero => intro h; omega
      | succ j ih =>
        intro _ hj
        by_cases e1 : j = 0
        · subst e1; rfl
        · rw [ih (by omega) (by omega), e j (by omega) (by omega)]
    exact key k h1 (Nat.le_refl _)
theorem firstJ_hit (f : Nat → Int × Int) (k : Nat) (h1 : 1 ≤ k) (h7 : k ≤ 7) (h : ∀ i, 1 ≤ i → i < k → (f i).2 = 0) (hk : (f k).2 ≠ 0) : firstJ f [1, 2, 3, 4, 5, 6, 7] = ((k : Int), (f k).1, (f k).2) := by
  rw [firstJ_at f (8 - k) k (by omega) h h1, List.drop_eq_getElem_cons (by simp; omega), List.getElem_range, firstJ, if_neg hk]
theorem firstJ_none (f : Nat → Int × Int) (h : ∀ i, 1 ≤ i → i < 8 → (f i).2 = 0) : firstJ f [1, 2, 3, 4, 5, 6, 7] = (0, 0, 0) := by
  rw [firstJ_at f 0 8 rfl h (by omega)]; rfl
theorem cells_2 {w : World} {g : Nat} {t : TypeId} {x0 x1 : Value} (h : w.heap[g]? = some (.cells #[x0, x1] t)) : w.cell? ⟨g, 0, none⟩ = some x0 ∧ w.cell? ⟨g, 1, none⟩ = some x1 := ⟨lies_cell h 0, lies_cell h 1⟩
theorem read_2 {W : World} {g : Nat} {x0 x1 y0 y1 : Value} {t : TypeId} (h : W.heap[g]? = some (.cells #[x0, x1] t)) :
    (W.setCell ⟨g, 0, none⟩ y0).cell? ⟨g, 0, none⟩ = some y0 ∧ ((W.setCell ⟨g, 0, none⟩ y0).setCell ⟨g, 1, none⟩ y1).cell? ⟨g, 1, none⟩ = some y1 := by
  have h0 : (W.setCell ⟨g, 0, none⟩ y0).heap[g]? = some (.cells #[y0, x1] t) := lies_set h 0 _
  have h1 : ((W.setCell ⟨g, 0, none⟩ y0).setCell ⟨g, 1, none⟩ y1).heap[g]? = some (.cells #[y0, y1] t) := lies_set h0 1 _
  exact ⟨lies_cell h0 0, lies_cell h1 1⟩
set_option maxHeartbeats 8000000 in
theorem Check_any (c : Cx) (hs : Sm c) (w : World) (hc : c.Held w) : Calls Try.prog 8 #[c.val] w fun e w' => e = .returned (.tuple #[.agg #[.int .i64 (PitotConf.check c.pl).1, .int .i64 (PitotConf.check c.pl).2.1], .int .i64 (PitotConf.check c.pl).2.2]) ∧ Below w.heap.size w w' := by
  obtain ⟨R, HR⟩ : ∃ R, Hid (PitotConf.check c.pl = R) := ⟨_, rfl⟩
  rw [HR.out]
  rw [check_eq] at HR
  have HJ : Hid (∀ (k : Nat) (h1 : 1 ≤ k) (h7 : k ≤ 7) (hprev : ∀ i, 1 ≤ i → i < k → (jd c i).2 = 0) (w' : World), Below w.heap.size w w' → Calls Try.prog (19 + k) #[c.val] w' fun e w'' => e = .returned (judged (jd c k)) ∧ Below w'.heap.size w' w'') := fun k h1 h7 hprev w' hb => judges_any c hs w' (hc.below hb) k h1 h7 hprev
  clear hs hc
  generalize jd c = jf at HJ HR
  obtain ⟨hosts, pA, pc, parts, major, wA, wk, wins, vA, vc, vls, qA, qc, ports⟩ := c
  show Calls Try.prog 8 #[.agg #[.int .i64 hosts, .slice pA parts.length pc, .int .i64 major, .slice wA wins.length wk, .slice vA vls.length vc, .slice qA ports.length qc]] w _
  have HJ : Hid (∀ (k : Nat) (h1 : 1 ≤ k) (h7 : k ≤ 7) (hprev : ∀ i, 1 ≤ i → i < k → (jf i).2 = 0) (w' : World), Below w.heap.size w w' → Calls Try.prog (19 + k) #[.agg #[.int .i64 hosts, .slice pA parts.length pc, .int .i64 major, .slice wA wins.length wk, .slice vA vls.length vc, .slice qA ports.length qc]] w' fun e w'' => e = .returned (judged (jf k)) ∧ Below w'.heap.size w' w'') := HJ
  generalize wins.length = wl, parts.length = pl, vls.length = vl, ports.length = ql at HJ ⊢
  obtain ⟨r1, r2, r3⟩ := R
  simp only
  have BA : Hid (Below w.heap.size w (((w.alloc (.cells #[.int .i64 hosts, .slice pA pl pc, .int .i64 major, .slice wA wl wk, .slice vA vl vc, .slice qA ql qc] 27)).alloc (.cells #[.int .i64 0, .int .i64 0] 36)).alloc (.cells #[.nilFunc, .func (.func 20) #[] #[], .func (.func 21) #[] #[], .func (.func 22) #[] #[], .func (.func 23) #[] #[], .func (.func 24) #[] #[], .func (.func 25) #[] #[], .func (.func 26) #[] #[]] 58))) := by
    have k1 : Below w.heap.size w (w.alloc (.cells #[.int .i64 hosts, .slice pA pl pc, .int .i64 major, .slice wA wl wk, .slice vA vl vc, .slice qA ql qc] 27)) := (Below.refl _ w).alloc (Nat.le_refl _) _
    have k2 := k1.alloc k1.size (.cells #[.int .i64 0, .int .i64 0] 36)
    exact k2.alloc k2.size _
  have CA : Hid ((((w.alloc (.cells #[.int .i64 hosts, .slice pA pl pc, .int .i64 major, .slice wA wl wk, .slice vA vl vc, .slice qA ql qc] 27)).alloc (.cells #[.int .i64 0, .int .i64 0] 36)).alloc (.cells #[.nilFunc, .func (.func 20) #[] #[], .func (.func 21) #[] #[], .func (.func 22) #[] #[], .func (.func 23) #[] #[], .func (.func 24) #[] #[], .func (.func 25) #[] #[], .func (.func 26) #[] #[]] 58)).heap[w.heap.size]? = some (.cells #[.int .i64 hosts, .slice pA pl pc, .int .i64 major, .slice wA wl wk, .slice vA vl vc, .slice qA ql qc] 27)) := lies_alloc (lies_alloc (heap_alloc_new w _) _) _
  have RA : Hid ((((w.alloc (.cells #[.int .i64 hosts, .slice pA pl pc, .int .i64 major, .slice wA wl wk, .slice vA vl vc, .slice qA ql qc] 27)).alloc (.cells #[.int .i64 0, .int .i64 0] 36)).alloc (.cells #[.nilFunc, .func (.func 20) #[] #[], .func (.func 21) #[] #[], .func (.func 22) #[] #[], .func (.func 23) #[] #[], .func (.func 24) #[] #[], .func (.func 25) #[] #[], .func (.func 26) #[] #[]] 58)).heap[w.heap.size + 1]? = some (.cells #[.int .i64 0, .int .i64 0] 36)) := by
    have := heap_alloc_new (w.alloc (.cells #[.int .i64 hosts, .slice pA pl pc, .int .i64 major, .slice wA wl wk, .slice vA vl vc, .slice qA ql qc] 27)) (.cells #[.int .i64 0, .int .i64 0] 36)
    rw [World.size_alloc] at this
    exact lies_alloc this _
  have AA : Hid ((((w.alloc (.cells #[.int .i64 hosts, .slice pA pl pc, .int .i64 major, .slice wA wl wk, .slice vA vl vc, .slice qA ql qc] 27)).alloc (.cells #[.int .i64 0, .int .i64 0] 36)).alloc (.cells #[.nilFunc, .func (.func 20) #[] #[], .func (.func 21) #[] #[], .func (.func 22) #[] #[], .func (.func 23) #[] #[], .func (.func 24) #[] #[], .func (.func 25) #[] #[], .func (.func 26) #[] #[]] 58)).heap[w.heap.size + 2]? = some (.cells #[.nilFunc, .func (.func 20) #[] #[], .func (.func 21) #[] #[], .func (.func 22) #[] #[], .func (.func 23) #[] #[], .func (.func 24) #[] #[], .func (.func 25) #[] #[], .func (.func 26) #[] #[]] 58)) := by
    have := heap_alloc_new ((w.alloc (.cells #[.int .i64 hosts, .slice pA pl pc, .int .i64 major, .slice wA wl wk, .slice vA vl vc, .slice qA ql qc] 27)).alloc (.cells #[.int .i64 0, .int .i64 0] 36)) (.cells #[.nilFunc, .func (.func 20) #[] #[], .func (.func 21) #[] #[], .func (.func 22) #[] #[], .func (.func 23) #[] #[], .func (.func 24) #[] #[], .func (.func 25) #[] #[], .func (.func 26) #[] #[]] 58)
    rw [World.size_alloc, World.size_alloc] at this
    exact this
  go_enter Try.func8, Try.ntmps8
  go_upto_region 2 with (fail)
  have CW := CA
  have RW := RA
  have AW := AA
  have BW := BA
  clear CA RA AA BA
  generalize ((w.alloc (.cells #[.int .i64 hosts, .slice pA pl pc, .int .i64 major, .slice wA wl wk, .slice vA vl vc, .slice qA ql qc] 27)).alloc (.cells #[.int .i64 0, .int .i64 0] 36)).alloc (.cells #[.nilFunc, .func (.func 20) #[] #[], .func (.func 21) #[] #[], .func (.func 22) #[] #[], .func (.func 23) #[] #[], .func (.func 24) #[] #[], .func (.func 25) #[] #[], .func (.func 26) #[] #[]] 58) = W8 at CW RW BW AW ⊢
  go_wp2
  go_loopw [5] (fun v5 wr => ∃ k : Nat, 1 ≤ k ∧ k ≤ 8 ∧ v5 = .int .i64 k ∧ Hid (∀ i, 1 ≤ i → i < k → (jf i).2 = 0) ∧ wr.heap[w.heap.size]? = some (.cells #[.int .i64 hosts, .slice pA pl pc, .int .i64 major, .slice wA wl wk, .slice vA vl vc, .slice qA ql qc] 27) ∧ wr.heap[w.heap.size + 1]? = some (.cells #[.int .i64 0, .int .i64 0] 36) ∧ wr.heap[w.heap.size + 2]? = some (.cells #[.nilFunc, .func (.func 20) #[] #[], .func (.func 21) #[] #[], .func (.func 22) #[] #[], .func (.func 23) #[] #[], .func (.func 24) #[] #[], .func (.func 25) #[] #[], .func (.func 26) #[] #[]] 58) ∧ Below w.heap.size w wr) (fun v5 _ => 8 - (intOf v5).toNat)
  case atStart => exact ⟨1, by omega, by omega, rfl, fun i h1 h2 => by omega, CW.out, RW.out, AW.out, BW.out⟩
  case round =>
    obtain ⟨k, hk1, hk8, rfl, hp, hC, hR, hA, hB⟩ := hrel
    have HC := Lib.hid hC; have HRR := Lib.hid hR; have HA := Lib.hid hA; have HB := Lib.hid hB
    clear hC hR hA hB CW RW BW AW
    by_cases h7 : k ≤ 7
    · have HJK := HJ.out k hk1 h7 hp.out
      obtain ⟨E, hE⟩ : ∃ E, (jf k).2 = E := ⟨_, rfl⟩
      obtain ⟨A, hA⟩ : ∃ A, (jf k).1 = A := ⟨_, rfl⟩
      have HP : Hid (∀ w' : World, Below w.heap.size w w' → Calls Try.prog (19 + k) #[.agg #[.int .i64 hosts, .slice pA pl pc, .int .i64 major, .slice wA wl wk, .slice vA vl vc, .slice qA ql qc]] w' fun e w'' => e = .returned (.tuple #[.int .i64 A, .int .i64 E]) ∧ Below w'.heap.size w' w'') := by
        rw [← hE, ← hA]; exact HJK
      have HPW := Lib.hid (fun w' (hb : Below wr.heap.size wr w') => HP.out w' (HB.out.trans (hb.mono HB.out.size)))
      clear HJK HP
      have HHIT : Hid (E ≠ 0 → ((k : Int), A, E) = (r1, r2, r3)) := fun he => by
        rw [← HR.out, firstJ_hit jf k hk1 h7 hp.out (by rw [hE]; exact he), hA, hE]
      have HGO : Hid (E = 0 → ∀ i, 1 ≤ i → i < k + 1 → (jf i).2 = 0) := fun he i h1 h2 => by
        by_cases e : i = k
        · rw [e, hE, he]
        · exact hp.out i h1 (by omega)
      clear hE hA hp
      obtain ⟨q0, q1⟩ := cells_2 HRR.out
      have fq0 := lies_frozen HRR.out 0
      have fq1 := lies_frozen HRR.out 1
      have hks : k = 1 ∨ k = 2 ∨ k = 3 ∨ k = 4 ∨ k = 5 ∨ k = 6 ∨ k = 7 := by omega
      rcases hks with rfl | rfl | rfl | rfl | rfl | rfl | rfl
      · go_upto_region 5 with (fail)
        refine call_1 HC HA HPW (fun _ _ _ _ _ h => h) ?_
        intro wc hwc z14 z15 z16 z17 z18 z13 z19 z20
        have C2 := Lib.hid (lies_below HC.out hwc (lies_lt HC.out))
        have R2 := Lib.hid (lies_below HRR.out hwc (lies_lt HRR.out))
        have A2 := Lib.hid (lies_below HA.out hwc (lies_lt HA.out))
        have B2 := Lib.hid (HB.out.trans (hwc.mono HB.out.size))
        clear q0 q1 fq0 fq1 hwc HC HRR HA HB
        obtain ⟨q0, q1⟩ := cells_2 R2.out
        have fq0 := lies_frozen R2.out 0
        have fq1 := lies_frozen R2.out 1
        by_cases g : E = 0
        · have g1 : (E == 0) = true := by rw [g]; rfl
          go_wp2
          go_roundw
          case rel => exact ⟨_, _, _, _, _, _, _, _, _, _, _, _, _, _, _, _, _, _, _, _, _, _, ⟨2, by omega, by omega, by go_num, HGO.out g, C2.out, R2.out, A2.out, B2.out⟩, rfl⟩
          case measure => simp [intOf]
        · have g1 : (E == 0) = false := by simpa using g
          have HT := Lib.hid (HHIT.out g)
          clear HHIT HGO g
          go_wp2
          (try simp only [Exit.inBlock, Exit.then])
          obtain ⟨k0, k1⟩ := read_2 (y0 := .int .i64 1) (y1 := .int .i64 A) R2.out
          refine bodyPost_ret (by simp [results, Try.results8, go_sem, k0, k1]; try rfl) rfl ?_
          have := HT.out
          injection this with h1 h2
          injection h2 with h2 h3
          subst h1; subst h2; subst h3
          exact ⟨rfl, (B2.out.setCell (show w.heap.size ≤ w.heap.size + 1 by omega) _).setCell (show w.heap.size ≤ w.heap.size + 1 by omega) _⟩
      · go_upto_region 5 with (fail)
        refine call_2 HC HA HPW (fun _ _ _ _ _ h => h) ?_
        intro wc hwc z14 z15 z16 z17 z18 z13 z19 z20
        have C2 := Lib.hid (lies_below HC.out hwc (lies_lt HC.out))
        have R2 := Lib.hid (lies_below HRR.out hwc (lies_lt HRR.out))
        have A2 := Lib.hid (lies_below HA.out hwc (lies_lt HA.out))
        have B2 := Lib.hid (HB.out.trans (hwc.mono HB.out.size))
        clear q0 q1 fq0 fq1 hwc HC HRR HA HB
        obtain ⟨q0, q1⟩ := cells_2 R2.out
        have fq0 := lies_frozen R2.out 0
        have fq1 := lies_frozen R2.out 1
        by_cases g : E = 0
        · have g1 : (E == 0) = true := by rw [g]; rfl
          go_wp2
          go_roundw
          case rel => exact ⟨_, _, _, _, _, _, _, _, _, _, _, _, _, _, _, _, _, _, _, _, _, _, ⟨3, by omega, by omega, by go_num, HGO.out g, C2.out, R2.out, A2.out, B2.out⟩, rfl⟩
          case measure => simp [intOf]
        · have g1 : (E == 0) = false := by simpa using g
          have HT := Lib.hid (HHIT.out g)
          clear HHIT HGO g
          go_wp2
          (try simp only [Exit.inBlock, Exit.then])
          obtain ⟨k0, k1⟩ := read_2 (y0 := .int .i64 2) (y1 := .int .i64 A) R2.out
          refine bodyPost_ret (by simp [results, Try.results8, go_sem, k0, k1]; try rfl) rfl ?_
          have := HT.out
          injection this with h1 h2
          injection h2 with h2 h3
          subst h1; subst h2; subst h3
          exact ⟨rfl, (B2.out.setCell (show w.heap.size ≤ w.heap.size + 1 by omega) _).setCell (show w.heap.size ≤ w.heap.size + 1 by omega) _⟩
      · go_upto_region 5 with (fail)
        refine call_3 HC HA HPW (fun _ _ _ _ _ h => h) ?_
        intro wc hwc z14 z15 z16 z17 z18 z13 z19 z20
        have C2 := Lib.hid (lies_below HC.out hwc (lies_lt HC.out))
        have R2 := Lib.hid (lies_below HRR.out hwc (lies_lt HRR.out))
        have A2 := Lib.hid (lies_below HA.out hwc (lies_lt HA.out))
        have B2 := Lib.hid (HB.out.trans (hwc.mono HB.out.size))
        clear q0 q1 fq0 fq1 hwc HC HRR HA HB
        obtain ⟨q0, q1⟩ := cells_2 R2.out
        have fq0 := lies_frozen R2.out 0
        have fq1 := lies_frozen R2.out 1
        by_cases g : E = 0
        · have g1 : (E == 0) = true := by rw [g]; rfl
          go_wp2
          go_roundw
          case rel => exact ⟨_, _, _, _, _, _, _, _, _, _, _, _, _, _, _, _, _, _, _, _, _, _, ⟨4, by omega, by omega, by go_num, HGO.out g, C2.out, R2.out, A2.out, B2.out⟩, rfl⟩
          case measure => simp [intOf]
        · have g1 : (E == 0) = false := by simpa using g
          have HT := Lib.hid (HHIT.out g)
          clear HHIT HGO g
          go_wp2
          (try simp only [Exit.inBlock, Exit.then])
          obtain ⟨k0, k1⟩ := read_2 (y0 := .int .i64 3) (y1 := .int .i64 A) R2.out
          refine bodyPost_ret (by simp [results, Try.results8, go_sem, k0, k1]; try rfl) rfl ?_
          have := HT.out
          injection this with h1 h2
          injection h2 with h2 h3
          subst h1; subst h2; subst h3
          exact ⟨rfl, (B2.out.setCell (show w.heap.size ≤ w.heap.size + 1 by omega) _).setCell (show w.heap.size ≤ w.heap.size + 1 by omega) _⟩
      · go_upto_region 5 with (fail)
        refine call_4 HC HA HPW (fun _ _ _ _ _ h => h) ?_
        intro wc hwc z14 z15 z16 z17 z18 z13 z19 z20
        have C2 := Lib.hid (lies_below HC.out hwc (lies_lt HC.out))
        have R2 := Lib.hid (lies_below HRR.out hwc (lies_lt HRR.out))
        have A2 := Lib.hid (lies_below HA.out hwc (lies_lt HA.out))
        have B2 := Lib.hid (HB.out.trans (hwc.mono HB.out.size))
        clear q0 q1 fq0 fq1 hwc HC HRR HA HB
        obtain ⟨q0, q1⟩ := cells_2 R2.out
        have fq0 := lies_frozen R2.out 0
        have fq1 := lies_frozen R2.out 1
        by_cases g : E = 0
        · have g1 : (E == 0) = true := by rw [g]; rfl
          go_wp2
          go_roundw
          case rel => exact ⟨_, _, _, _, _, _, _, _, _, _, _, _, _, _, _, _, _, _, _, _, _, _, ⟨5, by omega, by omega, by go_num, HGO.out g, C2.out, R2.out, A2.out, B2.out⟩, rfl⟩
          case measure => simp [intOf]
        · have g1 : (E == 0) = false := by simpa using g
          have HT := Lib.hid (HHIT.out g)
          clear HHIT HGO g
          go_wp2
          (try simp only [Exit.inBlock, Exit.then])
          obtain ⟨k0, k1⟩ := read_2 (y0 := .int .i64 4) (y1 := .int .i64 A) R2.out
          refine bodyPost_ret (by simp [results, Try.results8, go_sem, k0, k1]; try rfl) rfl ?_
          have := HT.out
          injection this with h1 h2
          injection h2 with h2 h3
          subst h1; subst h2; subst h3
          exact ⟨rfl, (B2.out.setCell (show w.heap.size ≤ w.heap.size + 1 by omega) _).setCell (show w.heap.size ≤ w.heap.size + 1 by omega) _⟩
      · go_upto_region 5 with (fail)
        refine call_5 HC HA HPW (fun _ _ _ _ _ h => h) ?_
        intro wc hwc z14 z15 z16 z17 z18 z13 z19 z20
        have C2 := Lib.hid (lies_below HC.out hwc (lies_lt HC.out))
        have R2 := Lib.hid (lies_below HRR.out hwc (lies_lt HRR.out))
        have A2 := Lib.hid (lies_below HA.out hwc (lies_lt HA.out))
        have B2 := Lib.hid (HB.out.trans (hwc.mono HB.out.size))
        clear q0 q1 fq0 fq1 hwc HC HRR HA HB
        obtain ⟨q0, q1⟩ := cells_2 R2.out
        have fq0 := lies_frozen R2.out 0
        have fq1 := lies_frozen R2.out 1
        by_cases g : E = 0
        · have g1 : (E == 0) = true := by rw [g]; rfl
          go_wp2
          go_roundw
          case rel => exact ⟨_, _, _, _, _, _, _, _, _, _, _, _, _, _, _, _, _, _, _, _, _, _, ⟨6, by omega, by omega, by go_num, HGO.out g, C2.out, R2.out, A2.out, B2.out⟩, rfl⟩
          case measure => simp [intOf]
        · have g1 : (E == 0) = false := by simpa using g
          have HT := Lib.hid (HHIT.out g)
          clear HHIT HGO g
          go_wp2
          (try simp only [Exit.inBlock, Exit.then])
          obtain ⟨k0, k1⟩ := read_2 (y0 := .int .i64 5) (y1 := .int .i64 A) R2.out
          refine bodyPost_ret (by simp [results, Try.results8, go_sem, k0, k1]; try rfl) rfl ?_
          have := HT.out
          injection this with h1 h2
          injection h2 with h2 h3
          subst h1; subst h2; subst h3
          exact ⟨rfl, (B2.out.setCell (show w.heap.size ≤ w.heap.size + 1 by omega) _).setCell (show w.heap.size ≤ w.heap.size + 1 by omega) _⟩
      · go_upto_region 5 with (fail)
        refine call_6 HC HA HPW (fun _ _ _ _ _ h => h) ?_
        intro wc hwc z14 z15 z16 z17 z18 z13 z19 z20
        have C2 := Lib.hid (lies_below HC.out hwc (lies_lt HC.out))
        have R2 := Lib.hid (lies_below HRR.out hwc (lies_lt HRR.out))
        have A2 := Lib.hid (lies_below HA.out hwc (lies_lt HA.out))
        have B2 := Lib.hid (HB.out.trans (hwc.mono HB.out.size))
        clear q0 q1 fq0 fq1 hwc HC HRR HA HB
        obtain ⟨q0, q1⟩ := cells_2 R2.out
        have fq0 := lies_frozen R2.out 0
        have fq1 := lies_frozen R2.out 1
        by_cases g : E = 0
        · have g1 : (E == 0) = true := by rw [g]; rfl
          go_wp2
          go_roundw
          case rel => exact ⟨_, _, _, _, _, _, _, _, _, _, _, _, _, _, _, _, _, _, _, _, _, _, ⟨7, by omega, by omega, by go_num, HGO.out g, C2.out, R2.out, A2.out, B2.out⟩, rfl⟩
          case measure => simp [intOf]
        · have g1 : (E == 0) = false := by simpa using g
          have HT := Lib.hid (HHIT.out g)
          clear HHIT HGO g
          go_wp2
          (try simp only [Exit.inBlock, Exit.then])
          obtain ⟨k0, k1⟩ := read_2 (y0 := .int .i64 6) (y1 := .int .i64 A) R2.out
          refine bodyPost_ret (by simp [results, Try.results8, go_sem, k0, k1]; try rfl) rfl ?_
          have := HT.out
          injection this with h1 h2
          injection h2 with h2 h3
          subst h1; subst h2; subst h3
          exact ⟨rfl, (B2.out.setCell (show w.heap.size ≤ w.heap.size + 1 by omega) _).setCell (show w.heap.size ≤ w.heap.size + 1 by omega) _⟩
      · go_upto_region 5 with (fail)
        refine call_7 HC HA HPW (fun _ _ _ _ _ h => h) ?_
        intro wc hwc z14 z15 z16 z17 z18 z13 z19 z20
        have C2 := Lib.hid (lies_below HC.out hwc (lies_lt HC.out))
        have R2 := Lib.hid (lies_below HRR.out hwc (lies_lt HRR.out))
        have A2 := Lib.hid (lies_below HA.out hwc (lies_lt HA.out))
        have B2 := Lib.hid (HB.out.trans (hwc.mono HB.out.size))
        clear q0 q1 fq0 fq1 hwc HC HRR HA HB
        obtain ⟨q0, q1⟩ := cells_2 R2.out
        have fq0 := lies_frozen R2.out 0
        have fq1 := lies_frozen R2.out 1
        by_cases g : E = 0
        · have g1 : (E == 0) = true := by rw [g]; rfl
          go_wp2
          go_roundw
          case rel => exact ⟨_, _, _, _, _, _, _, _, _, _, _, _, _, _, _, _, _, _, _, _, _, _, ⟨8, by omega, by omega, by go_num, HGO.out g, C2.out, R2.out, A2.out, B2.out⟩, rfl⟩
          case measure => simp [intOf]
        · have g1 : (E == 0) = false := by simpa using g
          have HT := Lib.hid (HHIT.out g)
          clear HHIT HGO g
          go_wp2
          (try simp only [Exit.inBlock, Exit.then])
          obtain ⟨k0, k1⟩ := read_2 (y0 := .int .i64 7) (y1 := .int .i64 A) R2.out
          refine bodyPost_ret (by simp [results, Try.results8, go_sem, k0, k1]; try rfl) rfl ?_
          have := HT.out
          injection this with h1 h2
          injection h2 with h2 h3
          subst h1; subst h2; subst h3
          exact ⟨rfl, (B2.out.setCell (show w.heap.size ≤ w.heap.size + 1 by omega) _).setCell (show w.heap.size ≤ w.heap.size + 1 by omega) _⟩
    · have e8 : k = 8 := by omega
      subst e8
      have HT : Hid (((0 : Int), (0 : Int), (0 : Int)) = (r1, r2, r3)) := by
        show _ = _
        rw [← HR.out, firstJ_none jf hp.out]
      obtain ⟨q0, q1⟩ := cells_2 HRR.out
      have fq0 := lies_frozen HRR.out 0
      have fq1 := lies_frozen HRR.out 1
      go_wp2
      (try simp only [Exit.inBlock, Exit.then])
      obtain ⟨k0, k1⟩ := read_2 (y0 := .int .i64 0) (y1 := .int .i64 0) HRR.out
      refine bodyPost_ret (by simp [results, Try.results8, go_sem, k0, k1]; try rfl) rfl ?_
      have := HT.out
      injection this with h1 h2
      injection h2 with h2 h3
      subst h1; subst h2; subst h3
      exact ⟨rfl, (HB.out.setCell (show w.heap.size ≤ w.heap.size + 1 by omega) _).setCell (show w.heap.size ≤ w.heap.size + 1 by omega) _⟩
end Go.Proofs.Ytdphapjeohkbjaa
/- The contracts of the library functions that the program calls, laid over this program by the kit's own command in plain words. -/
namespace Go.Proofs
open Go.Shelf
def Try.lays169_ren : Go.Shelf.Ren := ⟨fun | 169 => 63 | n => n, fun | 70 => 100 | 9 => 9 | 0 => 0 | 72 => 102 | 37 => 84 | 127 => 126 | 3 => 3 | 5 => 5 | n => n, fun | n => n⟩
theorem Try.lays169 : Go.Proofs.Lays.n169 Try.prog Try.lays169_ren := {
  mixed := by kernel_rfl
  f169 := Try.func63.trans (congrArg some (by kernel_rfl))
  t0 := Try.underlying0
  a0 := Try.isAgg0
  z0 := Try.sizeOf0
  v0 := Try.zeroValue0
  t3 := Try.underlying3
  a3 := Try.isAgg3
  z3 := Try.sizeOf3
  v3 := Try.zeroValue3
  t9 := Try.underlying9
  a9 := Try.isAgg9
  z9 := Try.sizeOf9
  v9 := Try.zeroValue9
  t37 := Try.underlying84
  a37 := Try.isAgg84
  z37 := Try.sizeOf84
  v37 := Try.zeroValue84
  t70 := Try.underlying100
  a70 := Try.isAgg100
  z70 := Try.sizeOf100
  v70 := Try.zeroValue100
  t72 := Try.underlying102
  a72 := Try.isAgg102
  z72 := Try.sizeOf102
  v72 := Try.zeroValue102
  t127 := Try.underlying126
  a127 := Try.isAgg126
  z127 := Try.sizeOf126
  v127 := Try.zeroValue126 }
theorem Try.Builder_Extra_169 : Builder.Extra Try.prog Try.lays169_ren := {
  sizeBuilder := by kernel_rfl
  liesBuilder := by kernel_rfl
  t5 := Try.underlying5
  a5 := Try.isAgg5
  z5 := Try.sizeOf5
  v5 := Try.zeroValue5
  infoByte := by kernel_rfl
  cellsByte := by kernel_rfl
  sizeByte := by kernel_rfl
  neB5 := by decide }
open Go.RowKit in
theorem Try.Builder_String_any (B b : Nat) (l : List UInt8) (w : World) (h : Lib.IsBuilder 102 5 B b (Lib.byteCells l) w) (hBw : B ≤ w.heap.size) :
    Calls Try.prog 63 #[.pointer (some ⟨b, 0, none⟩)] w fun e w' => e = .returned (.string ⟨l.toArray⟩) ∧ Below B w w' := Any.Builder_String_any Try.lays169 Try.Builder_Extra_169 B b l w h hBw
def Try.lays156_ren : Go.Shelf.Ren := ⟨fun | 156 => 42 | 165 => 61 | 166 => 62 | 169 => 63 | 240 => 84 | 241 => 85 | 276 => 95 | 277 => 96 | n => n, fun | 31 => 73 | 9 => 9 | 3 => 3 | 4 => 4 | 0 => 0 | 20 => 20 | 72 => 102 | 76 => 105 | 70 => 100 | 37 => 84 | 75 => 104 | 127 => 126 | 164 => 135 | 5 => 5 | 80 => 107 | n => n, fun | n => n⟩
theorem Try.lays156 : Go.Proofs.Lays.n156 Try.prog Try.lays156_ren := {
  mixed := by kernel_rfl
  f156 := Try.func42.trans (congrArg some (by kernel_rfl))
  f165 := Try.func61.trans (congrArg some (by kernel_rfl))
  f166 := Try.func62.trans (congrArg some (by kernel_rfl))
  f169 := Try.func63.trans (congrArg some (by kernel_rfl))
  f240 := Try.func84.trans (congrArg some (by kernel_rfl))
  f241 := Try.func85.trans (congrArg some (by kernel_rfl))
  f276 := Try.func95.trans (congrArg some (by kernel_rfl))
  f277 := Try.func96.trans (congrArg some (by kernel_rfl))
  t0 := Try.underlying0
  a0 := Try.isAgg0
  z0 := Try.sizeOf0
  v0 := Try.zeroValue0
  t3 := Try.underlying3
  a3 := Try.isAgg3
  z3 := Try.sizeOf3
  v3 := Try.zeroValue3
  t4 := Try.underlying4
  a4 := Try.isAgg4
  z4 := Try.sizeOf4
  v4 := Try.zeroValue4
  t9 := Try.underlying9
  a9 := Try.isAgg9
  z9 := Try.sizeOf9
  v9 := Try.zeroValue9
  t20 := Try.underlying20
  a20 := Try.isAgg20
  z20 := Try.sizeOf20
  v20 := Try.zeroValue20
  t31 := Try.underlying73
  a31 := Try.isAgg73
  z31 := Try.sizeOf73
  v31 := Try.zeroValue73
  t37 := Try.underlying84
  a37 := Try.isAgg84
  z37 := Try.sizeOf84
  v37 := Try.zeroValue84
  t70 := Try.underlying100
  a70 := Try.isAgg100
  z70 := Try.sizeOf100
  v70 := Try.zeroValue100
  t72 := Try.underlying102
  a72 := Try.isAgg102
  z72 := Try.sizeOf102
  v72 := Try.zeroValue102
  t75 := Try.underlying104
  a75 := Try.isAgg104
  z75 := Try.sizeOf104
  v75 := Try.zeroValue104
  t76 := Try.underlying105
  a76 := Try.isAgg105
  z76 := Try.sizeOf105
  v76 := Try.zeroValue105
  t127 := Try.underlying126
  a127 := Try.isAgg126
  z127 := Try.sizeOf126
  v127 := Try.zeroValue126
  t164 := Try.underlying135
  a164 := Try.isAgg135
  z164 := Try.sizeOf135
  v164 := Try.zeroValue135 }
theorem Try.Builder_Extra_156 : Builder.Extra Try.prog Try.lays156_ren := {
  sizeBuilder := by kernel_rfl
  liesBuilder := by kernel_rfl
  t5 := Try.underlying5
  a5 := Try.isAgg5
  z5 := Try.sizeOf5
  v5 := Try.zeroValue5
  infoByte := by kernel_rfl
  cellsByte := by kernel_rfl
  sizeByte := by kernel_rfl
  neB5 := by decide }
open Go.RowKit in
theorem Try.strings_Join (bk o c : Nat) (xs : List ByteArray) (sep : ByteArray) (w : World) (hcells : ∀ (j : Nat) x, xs[j]? = some x → w.cell? ⟨bk, o + j, none⟩ = some (.string x)) (hbk : bk < w.heap.size) (hN : xs.length ≤ 140737488355328) (hcap : xs.length ≤ c) (hlen : (Lib.join (xs.map (·.data.toList)) sep.data.toList).length ≤ 140737488355328) :
    Calls Try.prog 42 #[.slice (some ⟨bk, o, none⟩) xs.length c, .string sep] w fun e w' => e = .returned (.string ⟨(Lib.join (xs.map (·.data.toList)) sep.data.toList).toArray⟩) ∧ Below w.heap.size w w' := Any.strings_Join Try.lays156 Try.Builder_Extra_156 bk o c xs sep w hcells hbk hN hcap hlen
def Try.laysNm217_ren : Go.Shelf.Ren := ⟨fun | 17 => 41 | n => n, fun | 24 => 73 | 9 => 9 | 3 => 3 | 4 => 4 | 0 => 0 | n => n, fun | n => n⟩
theorem Try.laysNm217 : Go.Proofs.Lays2.n17 Try.prog Try.laysNm217_ren := {
  mixed := by kernel_rfl
  f17 := Try.func41.trans (congrArg some (by kernel_rfl))
  t0 := Try.underlying0
  a0 := Try.isAgg0
  z0 := Try.sizeOf0
  v0 := Try.zeroValue0
  t3 := Try.underlying3
  a3 := Try.isAgg3
  z3 := Try.sizeOf3
  v3 := Try.zeroValue3
  t4 := Try.underlying4
  a4 := Try.isAgg4
  z4 := Try.sizeOf4
  v4 := Try.zeroValue4
  t9 := Try.underlying9
  a9 := Try.isAgg9
  z9 := Try.sizeOf9
  v9 := Try.zeroValue9
  t24 := Try.underlying73
  a24 := Try.isAgg73
  z24 := Try.sizeOf73
  v24 := Try.zeroValue73 }
open Go.RowKit Go.Lib Go.Sort in
theorem Try.slices_Reverse_string_cells (b off n c : Nat) (Sx : Nat → ByteArray) (w : World) (hbig : n ≤ 9223372036854775807) (hc : ∀ i, i < n → w.cell? ⟨b, off + i, none⟩ = some (.string (Sx i))) (hf : ∀ j, j < n → w.frozen? ⟨b, off + j, none⟩ = false) :
    Calls Try.prog 41 #[.slice (some ⟨b, off, none⟩) n c] w fun e w' => e = .returned (.tuple #[]) ∧ ∃ q, w' = (w.drewN q).setCells b off ((Lib.strsOf Sx n).reverse.map encStr) := Any.slices_Reverse_string_cells Try.laysNm217 b off n c Sx w hbig hc hf
end Go.Proofs
/- Contract of the program's Writer: Bytes. -/
namespace Go.Proofs.Ytdphapjeohkbjaa.Bi
open Go.RowKit Go.Proofs.PitotMath

theorem size_setCells (b : Nat) : ∀ (vs : List Value) (o : Nat) (w : World), (w.setCells b o vs).heap.size = w.heap.size
  | [], _, _ => rfl
  | v :: r, o, w => by rw [World.setCells, size_setCells b r]; simp

theorem below_cells {B b : Nat} {a : World} (hb : B ≤ b) : ∀ (vs : List Value) (o : Nat) {w : World}, Below B a w → Below B a (w.setCells b o vs)
  | [], _, _, h => h
  | v :: r, o, _, h => by rw [World.setCells]; exact below_cells hb r (o + 1) (h.setCell (p := ⟨b, o, none⟩) hb v)

theorem rev_any (g cap : Nat) (xs : List ByteArray) (w : World) (hl : xs.length ≤ 1000000) (hc : ∀ i (h : i < xs.length), w.cell? ⟨g, i, none⟩ = some (.string xs[i])) (hf : ∀ j, w.frozen? ⟨g, j, none⟩ = false) (hg : g < w.heap.size) :
    Calls Try.prog 41 #[.slice (some ⟨g, 0, none⟩) xs.length cap] w fun e w' => e = .returned (.tuple #[]) ∧
      (∀ j x, xs.reverse[j]? = some x → w'.cell? ⟨g, 0 + j, none⟩ = some (.string x)) ∧ (∀ B, B ≤ g → Below B w w') ∧ g < w'.heap.size := by
  refine (Try.slices_Reverse_string_cells g 0 xs.length cap (fun i => xs.getD i ByteArray.empty) w (by omega) (fun i hi => by simp [hc i hi, hi]) (fun j _ => by simpa using hf j)).mono fun e w' ⟨he, q, hw⟩ => ?_
  subst hw
  refine ⟨he, ?_, ?_, ?_⟩
  · intro j x hx
    have hj : j < xs.length := by have := (List.getElem?_eq_some_iff.1 hx).1; simpa using this
    have := World.cell?_setCells_in g (List.map encStr (Lib.strsOf (fun i => xs.getD i ByteArray.empty) xs.length).reverse) 0 (w.drewN q) (fun i hi => by
      have hi' : i < xs.length := by simpa [Lib.strsOf] using hi
      have h1 : (w.drewN q).cell? ⟨g, 0 + i, none⟩ = w.cell? ⟨g, 0 + i, none⟩ := rfl
      rw [h1, Nat.zero_add, hc i hi']; rfl) j (by simpa [Lib.strsOf] using hj)
    rw [this]
    have hx' : xs.reverse[j]'(by simpa using hj) = x := (List.getElem?_eq_some_iff.1 hx).2
    rw [← hx']
    have hd : xs.length - 1 - j < xs.length := by omega
    simp [Lib.strsOf, encStr, List.getElem_reverse, hd]
  · intro B hB
    exact below_cells hB _ _ (below_drewN (Below.refl _ _) q)
  · rw [size_setCells]; exact hg

theorem Try.info9 : (Try.prog.info? 9).map (fun i => (i.zero, i.size, i.bytes)) = some (some (.string ⟨#[]⟩), 1, 16) := by kernel_rfl

theorem join_nil (xs : List (List UInt8)) : Lib.join xs [] = xs.flatten := by
  unfold Lib.join
  induction xs with
  | nil => rfl
  | cons x t ih =>
    cases t with
    | nil => simp [List.intercalate]
    | cons y r => simp [List.intercalate] at ih ⊢; rw [ih]

theorem flat_join (last : ByteArray) (ts : List ByteArray) : Lib.join (((last :: ts).reverse).map (fun x => x.data.toList)) [] = flat ts ++ last.data.toList := by
  rw [join_nil]
  have h : ∀ ts : List ByteArray, ((ts.reverse).map (fun x => x.data.toList)).flatten = flat ts := by
    intro ts
    induction ts with
    | nil => rfl
    | cons t r ih => simp only [List.reverse_cons, List.map_append, List.flatten_append, ih]; simp [flat]
  simp only [List.reverse_cons, List.map_append, List.flatten_append, h]
  simp

theorem add_plain (g j : Nat) : (⟨g, 0, none⟩ : Addr).add j = ⟨g, j, none⟩ := by unfold Addr.add; split <;> simp_all

theorem own_cells {w : World} {base g n cap : Nat} {xs : List ByteArray} (h : w.ownsRow base 9 1 (.slice (some ⟨g, 0, none⟩) n cap) n (xs.map .string)) (i : Nat) (hi : i < xs.length) : w.cell? ⟨g, i, none⟩ = some (.string xs[i]) := by
  have := h.cells (g := g) rfl i (.string xs[i]) (by simp [hi])
  rwa [add_plain] at this

/-- Reverse, of a row of texts of the call's own. -/
theorem rev_own {w : World} {base g n cap : Nat} {xs : List ByteArray} (h : w.ownsRow base 9 1 (.slice (some ⟨g, 0, none⟩) n cap) n (xs.map .string)) (hn : n = xs.length) (hl : n ≤ 1000000) (hg : g < w.heap.size) :
    Calls Try.prog 41 #[.slice (some ⟨g, 0, none⟩) n cap] w fun e w' => e = .returned (.tuple #[]) ∧
      Hid (∀ j x, xs.reverse[j]? = some x → w'.cell? ⟨g, 0 + j, none⟩ = some (.string x)) ∧ Hid (∀ B, B ≤ g → Below B w w') ∧ g < w'.heap.size := by
  subst hn
  exact rev_any g cap xs w hl (own_cells h) (fun j => h.frozenAt j) hg

/-- Join with nothing between. -/
theorem join_plain {w : World} {g n cap : Nat} {xs : List ByteArray} {l : List UInt8} (hc : ∀ j x, xs[j]? = some x → w.cell? ⟨g, 0 + j, none⟩ = some (.string x)) (hn : n = xs.length) (hl : n ≤ 1000000) (hcap : n ≤ cap) (hg : g < w.heap.size)
    (hj : Lib.join (xs.map (fun x => x.data.toList)) [] = l) (hll : l.length ≤ 1000000) :
    Calls Try.prog 42 #[.slice (some ⟨g, 0, none⟩) n cap, .string ⟨#[]⟩] w fun e w' => e = .returned (.string ⟨l.toArray⟩) ∧ Below w.heap.size w w' := by
  subst hn
  have h := Try.strings_Join g 0 cap xs ⟨#[]⟩ w hc hg (by omega) hcap (by show (Lib.join _ []).length ≤ _; rw [hj]; omega)
  have e : Lib.join (xs.map (fun x => x.data.toList)) (⟨#[]⟩ : ByteArray).data.toList = l := hj
  rw [e] at h
  exact h

theorem own_cap {w : World} {base e size g n cap : Nat} {xs : List Value} (h : w.ownsRow base e size (.slice (some ⟨g, 0, none⟩) n cap) n xs) : n ≤ cap := by
  rcases h.2 with ⟨h', _⟩ | ⟨g', cap', cur, h', _, _, hc, _⟩
  · cases h'
  · cases h'; exact hc

/-- How many elements a slice has. -/
def sliceLen : Value → Nat
  | .slice _ n _ => n
  | _ => 0

set_option maxHeartbeats 1000000 in
theorem bytes_any (b n : Nat) (l : List UInt8) (w : World) (h : WrAt w b n (some l)) (hn : n ≤ 100000) (hl : l.length ≤ 1000000) :
    Calls Try.prog 12 #[.pointer (some ⟨b, 0, none⟩)] w fun e w' => e = .returned (.tuple #[.string ⟨l.toArray⟩, .int .i64 0]) ∧ Below w.heap.size w w' := by
  obtain ⟨p, last, ts, hb, hch, htn, hfl⟩ := h
  have c0 : w.cell? ⟨b, 0, none⟩ = some (.pointer p) := lies_cell hb 0
  have c1 : w.cell? ⟨b, 1, none⟩ = some (.string last) := lies_cell hb 1
  have c2 : w.cell? ⟨b, 2, none⟩ = some (.bool false) := lies_cell hb 2
  have hlt := lies_lt hb
  have H := Lib.hid hb; clear hb
  have HF := Lib.hid hfl; clear hfl
  obtain ⟨i0, hi0, hz0, hz1, hz2⟩ := info_parts Try.info9
  go_enter Try.func12, Try.ntmps12
  go_wp2
  go_loopw [4, 5] (fun v4 v5 wr => ∃ (done rest : List ByteArray) (q : Option Addr) (A : Option Addr) (c : Nat), Hid (ts = done ++ rest) ∧ v5 = .pointer q ∧ Chain w b q rest ∧ v4 = .slice A (done.length + 1) c ∧ wr.ownsRow w.heap.size 9 1 v4 (done.length + 1) ((last :: done).map .string) ∧ Below w.heap.size w wr) (fun v4 _ _ => ts.length + 1 - sliceLen v4)
  case atStart =>
    refine ⟨[], ts, p, some ⟨w.heap.size, 0, none⟩, 1, rfl, rfl, hch, rfl, ⟨rfl, .inr ⟨w.heap.size, 1, #[.string last], rfl, Nat.le_refl _, heap_alloc_new w _, by simp, by simp [maxLen], rfl, rfl⟩⟩, (Below.refl _ _).alloc (Nat.le_refl _) _⟩
  case round =>
    obtain ⟨done, rest, q, A, c, hts, rfl, hq, rfl, hown, hbw⟩ := hrel
    have hlen : done.length + rest.length ≤ n := by have := hts.out; rw [this] at htn; simpa using htn
    have htl : ts.length = done.length + rest.length := by rw [hts.out]; simp
    have HTL := Lib.hid htl; clear htl
    obtain ⟨g, cap, hv, hgb, hgl⟩ := hown.form (by omega)
    injection hv with hA _ hc
    subst hA
    subst hc
    cases rest with
    | nil =>
      have hq0 : q = none := hq
      subst hq0
      have htd : ts = done := by have := hts.out; simpa using this
      have hj : Hid (Lib.join (((last :: done).reverse).map (fun x => x.data.toList)) [] = l) := by show _ = _; rw [HF.out, htd]; exact flat_join last done
      have hcp := own_cap hown
      simp only [List.length_nil, Nat.add_zero] at hlen
      clear htd HTL hts H HF htn hq
      go_wp2_with (first
        | (go_at_call 41; refine (rev_own hown (by simp) (by omega) hgl).mono ?_; rintro e w1 ⟨rfl, hc1, hb1, hg1⟩)
        | (go_at_call 42; refine (join_plain (w := w1) hc1.out (by simp) (by omega) hcp hg1 hj.out hl).mono ?_; rintro e w2 ⟨rfl, hb2⟩))
      go_returns
      exact ⟨rfl, (hbw.trans (hb1.out _ hgb)).trans (hb2.mono (by have := hbw.size; have := (hb1.out 0 (by omega)).size; omega))⟩
    | cons t rest =>
      obtain ⟨c, q', rfl, hcb, hcc, hq'⟩ := hq
      have hcl := lies_lt hcc
      have k0 : wr.cell? ⟨c, 0, none⟩ = some (.string t) := by rw [hbw.cell hcl]; exact lies_cell hcc 0
      have k1 : ∀ w1, Below w.heap.size w w1 → w1.cell? ⟨c, 1, none⟩ = some (.pointer q') := fun w1 hw1 => by rw [hw1.cell hcl]; exact lies_cell hcc 1
      have K1 := Lib.hid k1; clear k1
      have HCC := Lib.hid hcc; clear hcc
      simp only [List.length_cons] at hlen
      go_wp2_with (at_builtin
                   go_must (refine wpList_append_own _ rfl (.tmp 27) (.tmp 32) _ rfl w.heap.size 9 i0 _ 1 16 Try.underlying73 hi0 hz0 hz1 hz2 rfl (by omega) _ (done.length + 1) _ rfl (hown.alloc _) ⟨wr.heap.size, 0, none⟩ 1 1 [.string t] rfl rfl (cell_one_new _ _ _) (by intro u hu; simp at hu; subst hu; rfl) (by simp only [maxLen]; omega) (by omega) (by have := hbw.size; simp; omega) ?_)
                   intro v' w1 hown1 hg1 _
                   go_must (have hb1 : Below w.heap.size w w1 := (hbw.alloc hbw.size _).grown hg1 (by have := hbw.size; simp; omega) (by intro k hk; cases hk; exact hgb))
                   have k1 := K1.out w1 hb1)
      obtain ⟨g1, cap1, hv1, hgb1, hgl1⟩ := hown1.form (by omega)
      subst hv1
      go_roundw
      case rel =>
        refine ⟨done ++ [t], rest, q', some ⟨g1, 0, none⟩, cap1, by show _ = _; rw [hts.out]; simp, rfl, hq', by simp, ?_, hb1⟩
        simpa using hown1
      case measure => simp only [sliceLen]; rw [HTL.out]; simp; omega
end Go.Proofs.Ytdphapjeohkbjaa.Bi
/- Contracts of moved (the program's) and Take, Go (the document's). -/
namespace Go.Proofs.Ytdphapjeohkbjaa.Cr
open Go.RowKit Go.Proofs.PitotCrc

theorem take_snoc (s : ByteArray) (k : Nat) (h : k < s.size) : s.data.toList.take (k + 1) = s.data.toList.take k ++ [s[k]] := by
  rw [List.take_succ_eq_append_getElem (by simpa using h)]; rfl
theorem ret_int {k : IntKind} {a b : Int} (h : a = b) : Ending.returned (.int k a) = .returned (.int k b) := by rw [h]
theorem val_int {k : IntKind} {a b : Int} (h : a = b) : Value.int k a = .int k b := by rw [h]
theorem ret_bool {a b : Bool} (h : a = b) : Ending.returned (.bool a) = .returned (.bool b) := by rw [h]

theorem and_one (c : Nat) (h : c < 4294967296) : bits .and .u32 (c : Int) 1 = ((c % 2 : Nat) : Int) := by
  rw [show (1 : Int) = ((1 : Nat) : Int) from rfl, u32_and_nat c 1 (by omega) (by omega), Nat.and_one_is_mod]

theorem xor_poly (c : Nat) (h : c < 4294967296) : bits .xor .u32 ((c : Int) / 2) 3988292384 = (((c / 2) ^^^ 3988292384 : Nat) : Int) := by
  rw [show (3988292384 : Int) = ((3988292384 : Nat) : Int) from rfl, show (c : Int) / 2 = ((c / 2 : Nat) : Int) by omega, u32_xor_nat (c / 2) 3988292384 (by omega) (by omega)]

theorem st_odd (c : Nat) (h : c < 4294967296) (e : c % 2 = 1) : bits .xor .u32 ((c : Int) / 2) 3988292384 = (st c : Nat) := by
  rw [xor_poly c h]; unfold st; rw [if_pos e]
theorem st_ev (c : Nat) (e : ¬ c % 2 = 1) : (c : Int) / 2 = (st c : Nat) := by
  unfold st; rw [if_neg e]; omega

set_option maxHeartbeats 400000 in
theorem moved_any (c : Nat) (w : World) (hc : c < 4294967296) :
    Calls Try.prog 86 #[.int .u32 c] w fun e w' => e = .returned (.int .u32 (mv c : Nat)) ∧ w = w' := by
  obtain ⟨R, HR⟩ : ∃ R, Hid (R = mv c) := ⟨_, rfl⟩
  rw [← HR.out]
  go_enter Try.func86, Try.ntmps86
  go_wp2
  go_loop [0, 3] (fun n i => ∃ (k : Nat) (x : Nat), k ≤ 8 ∧ i = .int .i64 k ∧ n = .int .u32 x ∧ x < 4294967296 ∧ Hid (x = sts k c)) (fun _ i => 8 - (intOf i).toNat)
  case atStart => exact ⟨0, c, Nat.zero_le _, rfl, rfl, hc, rfl⟩
  case round =>
    obtain ⟨k, x, hk, rfl, rfl, hx, Hx⟩ := hrel
    by_cases hlt : k < 8
    · by_cases ho : x % 2 = 1
      · have h1 : (bits .and .u32 (x : Int) 1 == 1) = true := by rw [and_one x hx, ho]; rfl
        go_wp2
        go_round
        case rel => exact ⟨k + 1, st x, by omega, by go_num, val_int (by first | exact st_odd x hx ho), st_lt x hx, by show _ = _; rw [Hx.out]; rfl⟩
        case measure => simp [intOf]; omega
      · have h1 : (bits .and .u32 (x : Int) 1 == 1) = false := by rw [and_one x hx]; simp; omega
        go_wp2
        go_round
        case rel => exact ⟨k + 1, st x, by omega, by go_num, val_int (by first | exact st_ev x ho), st_lt x hx, by show _ = _; rw [Hx.out]; rfl⟩
        case measure => simp [intOf]; omega
    · go_wp2
      go_returns
      exact ⟨ret_int (by rw [HR.out, Hx.out, show k = 8 by omega]; rfl), rfl⟩

set_option maxHeartbeats 400000 in
theorem take_any (c : Nat) (b : UInt8) (w : World) (hc : c < 4294967296) :
    Calls Try.prog 87 #[.int .u32 c, .int .u8 b.toNat] w fun e w' => e = .returned (.int .u32 (tk c b : Nat)) ∧ w = w' := by
  have hb := b.toNat_lt
  have e1 : bits .xor .u32 (c : Int) (b.toNat : Int) = ((c ^^^ b.toNat : Nat) : Int) := u32_xor_nat c b.toNat hc (by omega)
  have hd : c ^^^ b.toNat < 4294967296 := Nat.xor_lt_two_pow (n := 32) hc (by omega)
  obtain ⟨R, HR⟩ : ∃ R, Hid (R = tk c b) := ⟨_, rfl⟩
  rw [← HR.out]
  obtain ⟨d, Hd⟩ : ∃ d, Hid (d = c ^^^ b.toNat) := ⟨_, rfl⟩
  rw [← Hd.out] at e1 hd
  go_enter Try.func87, Try.ntmps87
  go_wp2
  clear e1
  go_loop [0, 5] (fun n i => ∃ (k : Nat) (x : Nat), k ≤ 8 ∧ i = .int .i64 k ∧ n = .int .u32 x ∧ x < 4294967296 ∧ Hid (x = sts k d)) (fun _ i => 8 - (intOf i).toNat)
  case atStart => exact ⟨0, d, Nat.zero_le _, rfl, rfl, hd, rfl⟩
  case round =>
    obtain ⟨k, x, hk, rfl, rfl, hx, Hx⟩ := hrel
    by_cases hlt : k < 8
    · by_cases ho : x % 2 = 1
      · have h1 : ((x : Int) % 2 == 1) = true := by simp; omega
        go_wp2
        go_round
        case rel => exact ⟨k + 1, st x, by omega, by go_num, val_int (by first | exact st_odd x hx ho), st_lt x hx, by show _ = _; rw [Hx.out]; rfl⟩
        case measure => simp [intOf]; omega
      · have h1 : ((x : Int) % 2 == 1) = false := by simp; omega
        go_wp2
        go_round
        case rel => exact ⟨k + 1, st x, by omega, by go_num, val_int (by first | exact st_ev x ho), st_lt x hx, by show _ = _; rw [Hx.out]; rfl⟩
        case measure => simp [intOf]; omega
    · go_wp2
      go_returns
      exact ⟨ret_int (by rw [HR.out, Hx.out, show k = 8 by omega, Hd.out]; rfl), rfl⟩

set_option maxHeartbeats 400000 in
theorem refGo_any (c : Nat) (s : ByteArray) (w : World) (hc : c < 4294967296) (hs : s.size ≤ 100000) :
    Calls Try.prog 70 #[.int .u32 c, .string s] w fun e w' => e = .returned (.int .u32 (go c s.data.toList : Nat)) ∧ w = w' := by
  obtain ⟨R, HR⟩ : ∃ R, Hid (R = go c s.data.toList) := ⟨_, rfl⟩
  rw [← HR.out]
  go_enter Try.func70, Try.ntmps70
  go_wp2
  go_loop [0, 5] (fun n i => ∃ (k : Nat) (x : Nat), k ≤ s.size ∧ i = .int .i64 k ∧ n = .int .u32 x ∧ x < 4294967296 ∧ Hid (x = go c (s.data.toList.take k))) (fun _ i => s.size - (intOf i).toNat)
  case atStart => exact ⟨0, c, Nat.zero_le _, rfl, rfl, hc, rfl⟩
  case round =>
    obtain ⟨k, x, hk, rfl, rfl, hx, Hx⟩ := hrel
    by_cases hlt : k < s.size
    · go_wp2_with (go_at_call 87; refine (take_any x s[k] _ hx).mono ?_; rintro e w' ⟨rfl, rfl⟩)
      go_round
      case rel => exact ⟨k + 1, tk x s[k], by omega, by go_num, rfl, tk_lt _ _ hx, by show _ = _; rw [take_snoc s k hlt, go_snoc, Hx.out]⟩
      case measure => simp [intOf]; omega
    · go_wp2
      go_returns
      exact ⟨ret_int (by rw [HR.out, Hx.out, List.take_of_length_le (by simp; omega)]), rfl⟩

theorem not_32 (m : Nat) (h : m < 4294967296) : bits .xor .u32 IntKind.u32.max (m : Int) = ((4294967295 ^^^ m : Nat) : Int) := by
  rw [show IntKind.u32.max = ((4294967295 : Nat) : Int) from by decide, u32_xor_nat 4294967295 m (by omega) (by omega)]

set_option maxHeartbeats 400000 in
theorem refSum_any (s : ByteArray) (w : World) (hs : s.size ≤ 100000) :
    Calls Try.prog 50 #[.string s] w fun e w' => e = .returned (.int .u32 (sum s.data.toList : Nat)) ∧ w = w' := by
  have hg := go_lt 4294967295 s.data.toList (by decide)
  have hn := not_32 _ hg
  rw [← sum_go] at hn
  have HN := Lib.hid hn; clear hn
  go_enter Try.func50, Try.ntmps50
  go_wp2_with (go_at_call 70; refine (refGo_any 4294967295 s _ (by decide) hs).mono ?_; rintro e w' ⟨rfl, rfl⟩)
  go_returns
  exact ⟨ret_int HN.out, rfl⟩
end Go.Proofs.Ytdphapjeohkbjaa.Cr
/- Contracts of Make, Table.Go. -/
namespace Go.Proofs.Ytdphapjeohkbjaa.Cr
open Go.RowKit Go.Proofs.PitotCrc

section
variable {w w' : World} {g : Nat} {t : TypeId} {cs : Array Value}
theorem lies_lt (h : w.heap[g]? = some (.cells cs t)) : g < w.heap.size := by
  rcases Nat.lt_or_ge g w.heap.size with h1 | h1
  · exact h1
  · rw [Array.getElem?_eq_none h1] at h; cases h
theorem lies_cell (h : w.heap[g]? = some (.cells cs t)) (i : Nat) : w.cell? ⟨g, i, none⟩ = cs[i]? := by simp [World.cell?, h]
theorem lies_frozen (h : w.heap[g]? = some (.cells cs t)) (i : Nat) : w.frozen? ⟨g, i, none⟩ = false := by simp [World.frozen?, h]
theorem lies_set (h : w.heap[g]? = some (.cells cs t)) (i : Nat) (u : Value) : (w.setCell ⟨g, i, none⟩ u).heap[g]? = some (.cells (cs.setIfInBounds i u) t) := by
  simp [World.setCell, Array.getElem?_modify, h]
end

/-- The table's cells of which the first k are made. -/
def tc (k : Nat) : List Value := (List.range 256).map fun i => if i < k then .int .u32 (mv i : Nat) else .int .u32 0

theorem tc_zero : (tc 0).toArray = Array.replicate 256 (.int .u32 0) := by
  rw [← Array.toList_inj]
  apply List.ext_getElem?
  intro i
  show (tc 0)[i]? = (List.replicate 256 (Value.int .u32 0))[i]?
  rw [List.getElem?_replicate]
  unfold tc
  rw [List.getElem?_map]
  by_cases hi : i < 256
  · rw [if_pos hi, List.getElem?_range hi]; rfl
  · rw [if_neg hi, List.getElem?_eq_none (by rw [List.length_range]; omega)]; rfl

theorem tc_get (k i : Nat) (h : i < k) (h2 : i < 256) : (tc k)[i]? = some (.int .u32 (mv i : Nat)) := by
  simp [tc, h, h2]

theorem tc_at (k : Nat) (h2 : k < 256) : (tc k)[k]? = some (.int .u32 0) := by
  simp [tc, h2]

theorem tc_set (k : Nat) (v : Value) (hv : v = .int .u32 (mv k : Nat)) : (tc k).toArray.setIfInBounds k v = (tc (k + 1)).toArray := by
  subst hv
  rw [← Array.toList_inj]
  simp only [Array.toList_setIfInBounds]
  apply List.ext_getElem?
  intro i
  rw [List.getElem?_set]
  by_cases hi : i < 256
  · by_cases hik : k = i
    · subst hik; simp [tc, hi]
    · by_cases h1 : i < k
      · simp [tc, hi, hik, h1, show i < k + 1 by omega]
      · simp [tc, hi, hik, h1, show ¬ i < k + 1 by omega]
  · simp [tc, hi]; omega

def rst (k : Nat) : Nat := k &&& (k - 1)
theorem rst_and : ∀ k : Nat, k < 256 → bits .and .i64 (k : Int) ((k : Int) - 1) = (rst k : Nat) := by decide +kernel
theorem rst_xor : ∀ k : Nat, k < 256 → bits .xor .i64 (k : Int) (rst k : Nat) = ((k ^^^ rst k : Nat) : Int) := by decide +kernel
theorem rst_lt : ∀ k : Nat, k < 256 → rst k ≠ 0 → rst k < k ∧ k ^^^ rst k < k := by decide +kernel

theorem tab_xor (k : Nat) (_h : k < 256) : bits .xor .u32 (mv (rst k) : Nat) (mv (k ^^^ rst k) : Nat) = (mv k : Nat) := by
  have h1 : rst k < 4294967296 := by have := Nat.and_le_left (n := k) (m := k - 1); unfold rst; omega
  have h2 : k ^^^ rst k < 4294967296 := Nat.xor_lt_two_pow (n := 32) (by omega) h1
  rw [u32_xor_nat _ _ (mv_lt _ h1) (mv_lt _ h2), ← mv_xor, Nat.xor_comm, Nat.xor_assoc, Nat.xor_self, Nat.xor_zero]

theorem Try.info128 : (Try.prog.info? 128).map (fun i => (i.zero, i.size, i.bytes)) = some (some (.agg (Array.replicate 256 (.int .u32 0))), 256, 1024) := by kernel_rfl

theorem zero_run (w : World) : (zeroValue 128).run Try.prog w = .ok (.agg (tc 0).toArray) w := by
  obtain ⟨i, hi, hz, _, _⟩ := info_parts Try.info128
  rw [tc_zero]
  simp only [zeroValue, typeInfo]
  simp [hi, hz]

/-- The table lies in block b. -/
def TabAt (w : World) (b k : Nat) : Prop := w.heap[b]? = some (.cells (tc k).toArray 128)

set_option maxRecDepth 100000 in
set_option maxHeartbeats 1000000 in
theorem make_any (w : World) :
    Calls Try.prog 64 #[] w fun e w' => e = .returned (.pointer (some ⟨w.heap.size, 0, none⟩)) ∧ TabAt w' w.heap.size 256 ∧ Below w.heap.size w w' := by
  have hbr := fun w => zero_run w
  go_enter Try.func64, Try.ntmps64
  go_wp2
  clear hbr
  go_loopw [6] (fun i wr => ∃ k : Nat, k ≤ 256 ∧ i = .int .i64 k ∧ Hid (TabAt wr w.heap.size k) ∧ Below w.heap.size w wr) (fun i _ => 256 - (intOf i).toNat)
  case atStart => exact ⟨0, Nat.zero_le _, rfl, heap_alloc_new w _, (Below.refl _ _).alloc (Nat.le_refl _) _⟩
  case round =>
    obtain ⟨k, hk, rfl, ht, hb⟩ := hrel
    by_cases hlt : k < 256
    · have ea := rst_and k hlt
      have ex := rst_xor k hlt
      have hl := rst_lt k hlt
      have hc : wr.cell? ⟨w.heap.size, k, none⟩ = some (.int .u32 0) := by rw [lies_cell ht.out]; simpa using tc_at k hlt
      have hf : wr.frozen? ⟨w.heap.size, k, none⟩ = false := lies_frozen ht.out k
      have tx := tab_xor k hlt
      have HT : Hid (bits .xor .u32 (mv (rst k) : Nat) (mv (k ^^^ rst k) : Nat) = (mv k : Nat)) := tx
      clear tx
      by_cases hr : rst k = 0
      · have HR : Hid (mv k < 4294967296) := mv_lt k (by omega)
        rw [hr] at ea
        clear hl ex hr HT
        have ew : IntKind.u32.wrap (k : Int) = (k : Int) := IntWalk.u32_in _ (by omega)
        go_wp2
        go_region_with ((go_at_call 86; (with_reducible refine (moved_any k _ (by omega)).mono ?_); rintro e w' ⟨rfl, rfl⟩))
        go_wp2
        go_roundw
        case rel => exact ⟨k + 1, by omega, by go_num, by show _ = _; rw [← tc_set k _ rfl]; exact lies_set ht.out k _, (hb.setCell (p := ⟨w.heap.size, k, none⟩) (Nat.le_refl _) _).drew⟩
        case measure => simp [intOf]; omega
      · obtain ⟨h1, h2⟩ := hl hr
        have c1 : wr.cell? ⟨w.heap.size, rst k, none⟩ = some (.int .u32 (mv (rst k) : Nat)) := by rw [lies_cell ht.out]; simpa using tc_get k (rst k) h1 (by omega)
        have c2 : wr.cell? ⟨w.heap.size, k ^^^ rst k, none⟩ = some (.int .u32 (mv (k ^^^ rst k) : Nat)) := by rw [lies_cell ht.out]; simpa using tc_get k _ h2 (by omega)
        clear hl
        obtain ⟨r, Hr⟩ : ∃ r, Hid (r = rst k) := ⟨_, rfl⟩
        rw [← Hr.out] at c1 c2 ea ex h1 h2 hr HT
        obtain ⟨x, Hx⟩ : ∃ x, Hid (x = k ^^^ r) := ⟨_, rfl⟩
        rw [← Hx.out] at c2 ex h2 HT
        have hr0 : 0 < r := by omega
        clear hr
        go_wp2
        go_region
        all_goals
          go_wp2
          go_roundw
          case rel => exact ⟨k + 1, by omega, by go_num, by show _ = _; rw [← tc_set k _ rfl]; rw [HT.out]; exact lies_set ht.out k _, (hb.setCell (p := ⟨w.heap.size, k, none⟩) (Nat.le_refl _) _).drew⟩
          case measure => simp [intOf]; omega
    · go_wp2
      go_returns
      obtain rfl : k = 256 := by omega
      exact ⟨rfl, ht.out, hb⟩

theorem TabAt.keep {w w' : World} {b k : Nat} (h : TabAt w b k) (hb : Below w.heap.size w w') : TabAt w' b k := (hb.block b (lies_lt h)).trans h

theorem tab_step (x : Nat) (c : UInt8) (h : x < 4294967296) :
    bits .xor .u32 (mv ((x % 256) ^^^ c.toNat) : Nat) ((x : Int) / 256) = (tk x c : Nat) := by
  have hc := c.toNat_lt
  have h1 : (x % 256) ^^^ c.toNat < 4294967296 := Nat.xor_lt_two_pow (n := 32) (by omega) (by omega)
  rw [show (x : Int) / 256 = ((x / 256 : Nat) : Int) by omega, u32_xor_nat _ _ (mv_lt _ h1) (by omega), tk_table]

set_option maxRecDepth 100000 in
set_option maxHeartbeats 400000 in
theorem go_any (b c : Nat) (s : ByteArray) (w : World) (ht : TabAt w b 256) (hc : c < 4294967296) (hs : s.size ≤ 100000) :
    Calls Try.prog 65 #[.pointer (some ⟨b, 0, none⟩), .int .u32 c, .string s] w fun e w' => e = .returned (.int .u32 (go c s.data.toList : Nat)) ∧ Below w.heap.size w w' := by
  obtain ⟨R, HR⟩ : ∃ R, Hid (R = go c s.data.toList) := ⟨_, rfl⟩
  rw [← HR.out]
  have HT := Lib.hid ht; clear ht
  go_enter Try.func65, Try.ntmps65
  go_wp2
  go_loopw [1, 7] (fun n i wr => ∃ (k : Nat) (x : Nat), k ≤ s.size ∧ i = .int .i64 k ∧ n = .int .u32 x ∧ x < 4294967296 ∧ Hid (x = go c (s.data.toList.take k)) ∧ Below w.heap.size w wr) (fun _ i _ => s.size - (intOf i).toNat)
  case atStart => exact ⟨0, c, Nat.zero_le _, rfl, rfl, hc, rfl, Below.refl _ _⟩
  case round =>
    obtain ⟨k, x, hk, rfl, rfl, hx, Hx, hb⟩ := hrel
    by_cases hlt : k < s.size
    · have hsk := s[k].toNat_lt
      have hj : (x % 256) ^^^ s[k].toNat < 256 := Nat.xor_lt_two_pow (n := 8) (by omega) hsk
      have hcell : wr.cell? ⟨b, (x % 256) ^^^ s[k].toNat, none⟩ = some (.int .u32 (mv ((x % 256) ^^^ s[k].toNat) : Nat)) := by
        rw [lies_cell (HT.out.keep hb)]; simpa using tc_get 256 _ hj hj
      have e1 : bits .xor .u8 ((x : Int) % 256) (s[k].toNat : Int) = (((x % 256) ^^^ s[k].toNat : Nat) : Int) := by
        rw [show (x : Int) % 256 = ((x % 256 : Nat) : Int) by omega, u8_xor_nat _ _ (by omega) hsk]
      have HS := Lib.hid (tab_step x s[k] hx)
      have hsn := Lib.hid (take_snoc s k hlt)
      obtain ⟨j, Hj⟩ : ∃ j, Hid (j = (x % 256) ^^^ s[k].toNat) := ⟨(x % 256) ^^^ s[k].toNat, rfl⟩
      rw [← Hj.out] at hj hcell e1
      have i2 : (k : Int) < (s.size : Int) := by omega
      have ew : IntKind.u8.wrap (x : Int) = (x : Int) % 256 := IntKind.wrap_u8 _
      go_wp2
      go_quiet (fail)
      go_wp2
      go_roundw
      case rel => exact ⟨k + 1, tk x s[k], by omega, by go_num, val_int (by rw [Hj.out]; exact HS.out), tk_lt _ _ hx, by show _ = _; rw [hsn.out, go_snoc, Hx.out], below_drewN hb nq⟩
      case measure => simp [intOf]; omega
    · go_wp2
      go_returns
      exact ⟨ret_int (by rw [HR.out, Hx.out, List.take_of_length_le (by simp; omega)]), hb⟩

set_option maxHeartbeats 400000 in
theorem go_nilT (v : Value) (s : Value) (w : World) :
    Calls Try.prog 65 #[.pointer none, v, s] w fun e w' => e = .returned v ∧ w = w' := by
  go_enter Try.func65, Try.ntmps65
  go_wp2
  go_returns
  exact ⟨rfl, rfl⟩
end Go.Proofs.Ytdphapjeohkbjaa.Cr
/- Contracts of spread, Sum, Seal, Open (the program's) and Seal, Open (the document's). -/
namespace Go.Proofs.Ytdphapjeohkbjaa.Cr
open Go.RowKit Go.Proofs.PitotCrc

/-- The cells of a row of bytes of which the first k are written. -/
def pc (l : List UInt8) (k : Nat) : List Value := (l.take k).map (fun c => Value.int .u8 c.toNat) ++ List.replicate (l.length - k) (.int .u8 0)
theorem pc_zero (l : List UInt8) : pc l 0 = List.replicate l.length (.int .u8 0) := by simp [pc]
theorem pc_full (l : List UInt8) : pc l l.length = l.map (fun c => Value.int .u8 c.toNat) := by simp [pc]
theorem pc_at (l : List UInt8) (k : Nat) (h : k < l.length) : (pc l k)[k]? = some (.int .u8 0) := by
  unfold pc
  have hm : min k l.length = k := Nat.min_eq_left (Nat.le_of_lt h)
  rw [List.getElem?_append_right (by simp; omega)]
  simp only [List.length_map, List.length_take, hm, Nat.sub_self]
  rw [List.getElem?_replicate, if_pos (by omega)]
theorem pc_step (l : List UInt8) (k : Nat) (h : k < l.length) (v : Value) (hv : v = .int .u8 l[k].toNat) : (pc l k).set k v = pc l (k + 1) := by
  subst hv
  unfold pc
  rw [List.take_succ_eq_append_getElem h, List.map_append]
  obtain ⟨d, hd⟩ : ∃ d, l.length - k = d + 1 := ⟨l.length - k - 1, by omega⟩
  have hd' : l.length - (k + 1) = d := by omega
  rw [hd, hd', List.replicate_succ, List.set_append_right _ _ (by simp; omega)]
  simp [Nat.min_eq_left (Nat.le_of_lt h)]

theorem le4_cell (n k : Nat) (h : k < (le4 n).length) : Value.int .u8 ((n : Int) / 2 ^ (8 * k) % 256) = .int .u8 ((le4 n)[k]'h).toNat := by
  refine val_int ?_
  have hk : k < 4 := h
  have : k = 0 ∨ k = 1 ∨ k = 2 ∨ k = 3 := by omega
  rcases this with rfl | rfl | rfl | rfl <;> simp [le4] <;> omega

set_option maxRecDepth 100000 in
set_option maxHeartbeats 400000 in
theorem spread_any (n : Nat) (w : World) (_hn : n < 4294967296) :
    Calls Try.prog 43 #[.int .u32 n] w fun e w' => e = .returned (.string ⟨(le4 n).toArray⟩) ∧ Below w.heap.size w w' := by
  have hz0 : (#[.int .u8 0, .int .u8 0, .int .u8 0, .int .u8 0] : Array Value) = (pc (le4 n) 0).toArray := by rw [pc_zero]; rfl
  have HZ := Lib.hid hz0; clear hz0
  go_enter Try.func43, Try.ntmps43
  go_wp2
  go_loopw [5] (fun i wr => ∃ k : Nat, k ≤ 4 ∧ i = .int .i64 k ∧ wr = w.alloc (.cells (pc (le4 n) k).toArray 108)) (fun i _ => 4 - (intOf i).toNat)
  case atStart => exact ⟨0, Nat.zero_le _, rfl, by rw [← HZ.out]⟩
  case round =>
    obtain ⟨k, hk, rfl, rfl⟩ := hrel
    by_cases hlt : k < 4
    · have hl' : k < (le4 n).length := hlt
      have hpk := pc_at (le4 n) k hl'
      go_wp2
      go_roundw
      case rel => exact ⟨k + 1, by omega, by go_num, by rw [pc_step _ k hl' _ (le4_cell n k hl')]⟩
      case measure => simp [intOf]; omega
    · have hcv : (convert 84 9 (.slice (some ⟨w.heap.size, 0, none⟩) 4 4)).run Try.prog (w.alloc (.cells (pc (le4 n) k).toArray 108)) = .ok (.string ⟨(le4 n).toArray⟩) (w.alloc (.cells (pc (le4 n) k).toArray 108)) :=
        run_convert_bytes_back (P := Try.prog) (w.alloc (.cells (pc (le4 n) k).toArray 108)) 84 9 5 ⟨w.heap.size, 0, none⟩ 4 (le4 n) Try.underlying84 Try.underlying5 Try.underlying9 (fun j hj => by
          have e : (⟨w.heap.size, 0, none⟩ : Addr).add j = ⟨w.heap.size, j, none⟩ := by unfold Addr.add; split <;> simp_all
          rw [e, World.cell?_alloc_mark w _ 108 (0, 0) j, show k = (le4 n).length by rw [le4_length]; omega, pc_full]
          simp [hj])
      go_wp2
      go_returns
      exact ⟨rfl, (Below.refl _ _).alloc (Nat.le_refl _) _⟩

/-- A slice of strings: what it reads as. -/
def StrsAt (w : World) (A : Option Addr) (xs : List ByteArray) : Prop :=
  xs ≠ [] → ∃ b off, A = some ⟨b, off, none⟩ ∧ b < w.heap.size ∧ ∀ i (h : i < xs.length), w.cell? ⟨b, off + i, none⟩ = some (.string xs[i])

theorem StrsAt.get {w : World} {A : Option Addr} {xs : List ByteArray} (h : StrsAt w A xs) {k : Nat} (hk : k < xs.length) :
    ∃ b off, A = some ⟨b, off, none⟩ ∧ b < w.heap.size ∧ w.cell? ⟨b, off + k, none⟩ = some (.string xs[k]) := by
  obtain ⟨b, off, h1, h2, h3⟩ := h (by intro e; subst e; simp at hk)
  exact ⟨b, off, h1, h2, h3 k hk⟩

/-- Texts, one behind the other. -/
def cat (xs : List ByteArray) : List UInt8 := (xs.map fun x => x.data.toList).flatten

theorem cat_snoc (xs : List ByteArray) (x : ByteArray) : cat (xs ++ [x]) = cat xs ++ x.data.toList := by simp [cat]

set_option maxRecDepth 100000 in
set_option maxHeartbeats 400000 in
theorem sum_any (A : Option Addr) (cap : Nat) (xs : List ByteArray) (w : World) (hx : StrsAt w A xs) (hl : xs.length ≤ 1000) (hs : ∀ x ∈ xs, x.size ≤ 100000) (n : Nat) (hn : n = xs.length) (S : Nat) (hS : S = sum (cat xs)) :
    Calls Try.prog 44 #[.slice A n cap] w fun e w' => e = .returned (.int .u32 S) ∧ Below w.heap.size w w' := by
  have HS := Lib.hid hS; clear hS
  have Hn := Lib.hid hn; clear hn
  have hn1 : n ≤ 1000 := by rw [Hn.out]; exact hl
  have HX := Lib.hid hs; clear hs
  go_enter Try.func44, Try.ntmps44
  go_wp2_with (go_at_call 64; refine (make_any _).mono ?_; rintro e w1 ⟨rfl, ht1, hb1⟩; (have HT := Lib.hid ht1); clear ht1)
  go_loopw [4, 10] (fun v4 v10 wr => ∃ (k : Nat) (x : Nat), k ≤ n ∧ v10 = .int .i64 k ∧ v4 = .int .u32 x ∧ x < 4294967296 ∧ Hid (x = go 4294967295 (cat (xs.take k))) ∧ Below w.heap.size w wr ∧ Hid (TabAt wr w.heap.size 256)) (fun _ v10 _ => n - (intOf v10).toNat)
  case atStart => exact ⟨0, 4294967295, Nat.zero_le _, rfl, rfl, by decide, rfl, hb1, HT⟩
  case round =>
    obtain ⟨k, x, hk, rfl, rfl, hx1, Hx, hb, ht⟩ := hrel
    by_cases hlt : k < n
    · have hlt' : k < xs.length := by rw [← Hn.out]; exact hlt
      obtain ⟨b, off, rfl, hbl, hc⟩ := hx.get hlt'
      have hc' : wr.cell? ⟨b, off + k, none⟩ = some (.string xs[k]) := by rw [hb.cell (p := ⟨b, off + k, none⟩) hbl]; exact hc
      clear hc
      have hsz : xs[k].size ≤ 100000 := HX.out _ (List.getElem_mem hlt')
      have hcs : Hid (cat (xs.take (k + 1)) = cat (xs.take k) ++ xs[k].data.toList) := by
        show _ = _
        rw [List.take_succ_eq_append_getElem hlt', cat_snoc]
      obtain ⟨s, Hs⟩ : ∃ s, Hid (s = xs[k]) := ⟨xs[k], rfl⟩
      rw [← Hs.out] at hc' hsz hcs
      go_wp2_with (go_at_call 65; refine (go_any w.heap.size x s _ ht.out hx1 hsz).mono ?_; rintro e w2 ⟨rfl, hb2⟩)
      go_roundw
      case rel => exact ⟨k + 1, _, by omega, by go_num, rfl, go_lt _ _ hx1, by show _ = _; rw [hcs.out, go_append, Hx.out], hb.trans (hb2.mono hb.size), ht.out.keep hb2⟩
      case measure => simp [intOf]; omega
    · go_wp2
      go_returns
      exact ⟨ret_int (by rw [not_32 x hx1, HS.out, sum_go, Hx.out, List.take_of_length_le (by rw [← Hn.out]; omega)]), hb⟩
end Go.Proofs.Ytdphapjeohkbjaa.Cr
/- Contracts of Seal, Open (the program's) and Seal, Open (the document's); awake. -/
namespace Go.Proofs.Ytdphapjeohkbjaa.Cr
open Go.RowKit Go.Proofs.PitotCrc

/-- A text with its check sum behind. -/
def sealB (s : ByteArray) : ByteArray := s ++ ⟨(le4 (sum s.data.toList)).toArray⟩

theorem sealB_list (s : ByteArray) : (sealB s).data.toList = sealed s.data.toList := by simp [sealB, sealed]
theorem sealB_size (s : ByteArray) : (sealB s).size = s.size + 4 := by
  unfold sealB; rw [ByteArray.size_append]; rfl

theorem strs_one {w : World} (s : ByteArray) (t : TypeId) : StrsAt (w.alloc (.cells #[.string s] t)) (some ⟨w.heap.size, 0, none⟩) [s] := by
  intro _
  refine ⟨w.heap.size, 0, rfl, by simp, fun i hi => ?_⟩
  obtain rfl : i = 0 := by simp at hi; omega
  exact lies_cell (heap_alloc_new w _) 0

theorem sum_one (s : ByteArray) (t : TypeId) (w : World) (hs : s.size ≤ 100000) :
    Calls Try.prog 44 #[.slice (some ⟨w.heap.size, 0, none⟩) 1 1] (w.alloc (.cells #[.string s] t)) fun e w' => e = .returned (.int .u32 (sum s.data.toList : Nat)) ∧ Below w.heap.size w w' := by
  have hb : Below w.heap.size w (w.alloc (.cells #[.string s] t)) := (Below.refl _ _).alloc (Nat.le_refl _) _
  refine (sum_any _ 1 [s] _ (strs_one s t) (by simp) (by simp; exact hs) 1 rfl (sum s.data.toList) (by simp [cat])).mono fun e w' ⟨he, hw⟩ => ⟨he, hb.trans (hw.mono (by simp))⟩

theorem sum_drew (s : ByteArray) (t : TypeId) (w : World) (hs : s.size ≤ 100000) :
    Calls Try.prog 44 #[.slice (some ⟨w.heap.size, 0, none⟩) 1 1] (w.alloc (.cells #[.string s] t)).drew fun e w' => e = .returned (.int .u32 (sum s.data.toList : Nat)) ∧ Below w.heap.size w w' := by
  have hb : Below w.heap.size w (w.alloc (.cells #[.string s] t)).drew := ((Below.refl _ _).alloc (Nat.le_refl _) _).drew
  have hst : StrsAt (w.alloc (.cells #[.string s] t)).drew (some ⟨w.heap.size, 0, none⟩) [s] := strs_one (w := w) s t
  refine (sum_any _ 1 [s] _ hst (by simp) (by simp; exact hs) 1 rfl (sum s.data.toList) (by simp [cat])).mono fun e w' ⟨he, hw⟩ => ⟨he, hb.trans (hw.mono hb.size)⟩

set_option maxRecDepth 100000 in
set_option maxHeartbeats 400000 in
theorem seal_any (s : ByteArray) (w : World) (hs : s.size ≤ 100000) :
    Calls Try.prog 13 #[.string s] w fun e w' => e = .returned (.string (sealB s)) ∧ Below w.heap.size w w' := by
  have hlt := sum_lt s.data.toList
  obtain ⟨S, HS⟩ : ∃ S, Hid (S = sum s.data.toList) := ⟨_, rfl⟩
  have HB : Hid (sealB s = s ++ ⟨(le4 S).toArray⟩) := by show _ = _; rw [HS.out]; rfl
  obtain ⟨B, HB2⟩ : ∃ B, Hid (B = sealB s) := ⟨_, rfl⟩
  rw [← HB2.out] at HB ⊢
  have h4 : ({ data := (le4 S).toArray } : ByteArray).size = 4 := rfl
  go_enter Try.func13, Try.ntmps13
  go_wp2_with (first
    | (go_at_call 44; refine (sum_one s _ w hs).mono ?_; rintro e w1 ⟨rfl, hb1⟩; rw [← HS.out])
    | (go_at_call 43; refine (spread_any S _ (by rw [HS.out]; exact hlt)).mono ?_; rintro e w2 ⟨rfl, hb2⟩))
  go_returns
  exact ⟨by rw [HB.out]; rfl, hb1.trans (hb2.mono hb1.size)⟩

theorem conv_four (w : World) (n : Nat) :
    (convert 84 9 (.slice (some ⟨w.heap.size, 0, none⟩) 4 4)).run Try.prog (w.alloc (.cells #[.int .u8 ((n : Int) % 256), .int .u8 ((n : Int) / 256 % 256), .int .u8 ((n : Int) / 65536 % 256), .int .u8 ((n : Int) / 16777216 % 256)] 5)) = .ok (.string ⟨(le4 n).toArray⟩) (w.alloc (.cells #[.int .u8 ((n : Int) % 256), .int .u8 ((n : Int) / 256 % 256), .int .u8 ((n : Int) / 65536 % 256), .int .u8 ((n : Int) / 16777216 % 256)] 5)) := by
  refine run_convert_bytes_back (P := Try.prog) _ 84 9 5 ⟨w.heap.size, 0, none⟩ 4 (le4 n) Try.underlying84 Try.underlying5 Try.underlying9 (fun j hj => ?_)
  have e : (⟨w.heap.size, 0, none⟩ : Addr).add j = ⟨w.heap.size, j, none⟩ := by unfold Addr.add; split <;> simp_all
  rw [e, World.cell?_alloc_mark w _ 5 (0, 0) j]
  have hj' : j < 4 := hj
  have : j = 0 ∨ j = 1 ∨ j = 2 ∨ j = 3 := by omega
  rcases this with rfl | rfl | rfl | rfl <;> simp [le4]

set_option maxRecDepth 100000 in
set_option maxHeartbeats 400000 in
theorem refSeal_any (s : ByteArray) (w : World) (hs : s.size ≤ 100000) :
    Calls Try.prog 19 #[.string s] w fun e w' => e = .returned (.string (sealB s)) ∧ Below w.heap.size w w' := by
  have hlt := sum_lt s.data.toList
  obtain ⟨S, HS⟩ : ∃ S, Hid (S = sum s.data.toList) := ⟨_, rfl⟩
  have HB : Hid (sealB s = s ++ ⟨(le4 S).toArray⟩) := by show _ = _; rw [HS.out]; rfl
  obtain ⟨B, HB2⟩ : ∃ B, Hid (B = sealB s) := ⟨_, rfl⟩
  rw [← HB2.out] at HB ⊢
  have hcv := fun w => conv_four w S
  have h4 : ({ data := (le4 S).toArray } : ByteArray).size = 4 := rfl
  go_enter Try.func19, Try.ntmps19
  go_wp2_with (go_at_call 50; refine (refSum_any s w hs).mono ?_; rintro e w1 ⟨rfl, rfl⟩; rw [← HS.out])
  go_returns
  exact ⟨by rw [HB.out]; rfl, (Below.refl _ _).alloc (Nat.le_refl _) _⟩

theorem extract_list (s : ByteArray) (a b : Nat) : (s.extract a b).data.toList = (s.data.toList.take b).drop a := by
  rw [ByteArray.data_extract, Array.toList_extract, List.extract_eq_take_drop, List.drop_take]

theorem open_test (s : ByteArray) (n : Nat) (hn : s.size = n + 4) : ((s.extract n s.size).toList == le4 (sum (s.extract 0 n).data.toList)) = opened s.data.toList := by
  have hl : s.data.toList.length = n + 4 := by simpa using hn
  rw [opened_iff _ (by omega), hl, show n + 4 - 4 = n by omega]
  rw [extract_list, List.drop_zero, Bool.eq_iff_iff]
  simp only [beq_iff_eq, decide_eq_true_eq]
  have he : (s.extract n s.size).toList = s.data.toList.drop n := by
    rw [ByteArray.toList_eq, extract_list, List.take_of_length_le (by simp)]
  rw [he]

theorem extract_size (s : ByteArray) (n : Nat) (hn : s.size = n + 4) : (s.extract 0 n).size = n := by
  rw [ByteArray.size_extract]; omega

theorem refOpen_test (s : ByteArray) (n : Nat) (hn : s.size = n + 4) : ((sealB (s.extract 0 n)).toList == s.toList) = opened s.data.toList := by
  have hl : s.data.toList.length = n + 4 := by simpa using hn
  rw [ByteArray.toList_eq, ByteArray.toList_eq, sealB_list, extract_list, List.drop_zero, Bool.eq_iff_iff]
  unfold opened
  rw [hl, show n + 4 - 4 = n by omega]
  simp only [beq_iff_eq, decide_eq_true_eq]

end Go.Proofs.Ytdphapjeohkbjaa.Cr
/- The program's Encode. -/
set_option maxRecDepth 100000
set_option linter.unusedVariables false
namespace Go.Proofs.Ytdphapjeohkbjaa.Im
open Go.RowKit

/-- What Encode answers. -/
def encRes (c : Cx) : Value := match PitotImg.encode c.pl with
  | .error k => .tuple #[.string ⟨#[]⟩, .int .i64 k]
  | .ok l => .tuple #[.string ⟨l.toArray⟩, .int .i64 0]
/-- A network whose image is no great one. -/
structure Im (c : Cx) : Prop where
  sm : Sm c
  size : (PitotConf.check c.pl).2.2 = 0 → (PitotImg.magic ++ PitotImg.cfW c.pl).length ≤ 90000
theorem any_pl (l : List Px) : (l.map Px.pl).any (fun p => decide (4294967295 < p.id)) = l.any (fun x => decide (4294967295 < x.id)) := by rw [List.any_map]; rfl
theorem encRes_check {c : Cx} (h : (PitotConf.check c.pl).2.2 ≠ 0) : encRes c = .tuple #[.string ⟨#[]⟩, .int .i64 (PitotConf.check c.pl).2.2] := by
  unfold encRes PitotImg.encode; rw [if_pos h]
theorem encRes_long {c : Cx} (h : (PitotConf.check c.pl).2.2 = 0) (h2 : c.ports.any (fun x => decide (4294967295 < x.id)) = true) : encRes c = .tuple #[.string ⟨#[]⟩, .int .i64 11] := by
  unfold encRes PitotImg.encode; rw [if_neg (by omega), show c.pl.ports = c.ports.map Px.pl from rfl, any_pl, if_pos h2]
theorem encRes_ok {c : Cx} (h : (PitotConf.check c.pl).2.2 = 0) (h2 : c.ports.any (fun x => decide (4294967295 < x.id)) = false) : encRes c = .tuple #[.string ⟨(PitotCrc.sealed (PitotImg.magic ++ PitotImg.cfW c.pl)).toArray⟩, .int .i64 0] := by
  unfold encRes PitotImg.encode; rw [if_neg (by omega), show c.pl.ports = c.ports.map Px.pl from rfl, any_pl, if_neg (by rw [h2]; decide)]
theorem im_ok {c : Cx} (hi : Im c) (h : (PitotConf.check c.pl).2.2 = 0) (h2 : c.ports.any (fun x => decide (4294967295 < x.id)) = false) : PitotImg.cfOk c.pl := by
  refine PitotImg.may_ok (PitotConf.check_may h) (fun v hv => ?_) (fun p hp => ?_)
  · obtain ⟨x, hx, rfl⟩ := List.mem_map.1 hv
    have := hi.sm.tol x hx
    show x.to.length < 65536
    omega
  · obtain ⟨x, hx, rfl⟩ := List.mem_map.1 hp
    have := List.any_eq_false.1 h2 x hx
    have : ¬ 4294967295 < x.id := by simpa using this
    show x.id ≤ 4294967295
    omega
theorem seal_text (l : List UInt8) : Cr.sealB ⟨l.toArray⟩ = ⟨(PitotCrc.sealed l).toArray⟩ := by
  apply ByteArray.ext
  apply Array.toList_inj.1
  have := Cr.sealB_list ⟨l.toArray⟩
  simpa using this
theorem wl_new {w : World} {b : Nat} (h : w.heap[b]? = some (.cells #[.pointer none, .string ⟨#[]⟩, .bool false] 46)) : WL w b [] := ⟨none, ⟨#[]⟩, [], h, rfl, Nat.le_refl _, rfl⟩
set_option maxHeartbeats 8000000 in
theorem Encode_any (c : Cx) (hi : Im c) (w : World) (hc : c.Held w) : Calls Try.prog 6 #[c.val] w fun e w' => e = .returned (encRes c) ∧ Below w.heap.size w w' := by
  have HCK := Lib.hid (fun (w' : World) (hb : Below w.heap.size w w') => Check_any c hi.sm w' (hc.below hb))
  have HAP := Lib.hid (fun (w' : World) (hb : Below w.heap.size w w') => long_any c.portsA c.ports.length c.portsc c.ports w' (PxsAt.below hc.2.2.2 hb) rfl (by have := hi.sm.ports; omega))
  have HWR := Lib.hid (fun (hf : PitotImg.cfOk c.pl) (h0 : (PitotConf.check c.pl).2.2 = 0) (b : Nat) (w' : World) (hb : Below w.heap.size w w') (hbb : w.heap.size ≤ b) (hW : WL w' b []) => write_any c b w w' hc hb hbb hW hf (by have := hi.size h0; omega))
  have HBY := Lib.hid (fun (h0 : (PitotConf.check c.pl).2.2 = 0) (b : Nat) (w : World) (hW : WL w b (PitotImg.magic ++ PitotImg.cfW c.pl)) => Bi.bytes_any b _ _ w hW (by have := hi.size h0; omega) (by have := hi.size h0; omega))
  have HSE : Hid ((PitotConf.check c.pl).2.2 = 0 → ∀ w, Calls Try.prog 13 #[.string ⟨(PitotImg.magic ++ PitotImg.cfW c.pl).toArray⟩] w fun e w' => e = .returned (.string ⟨(PitotCrc.sealed (PitotImg.magic ++ PitotImg.cfW c.pl)).toArray⟩) ∧ Below w.heap.size w w') := fun h0 w => by
    have h := Cr.seal_any ⟨(PitotImg.magic ++ PitotImg.cfW c.pl).toArray⟩ w (by have := hi.size h0; show (PitotImg.magic ++ PitotImg.cfW c.pl).toArray.size ≤ _; rw [List.size_toArray]; omega)
    rw [seal_text] at h
    exact h
  have H1 := Lib.hid (encRes_check (c := c))
  have H2 := Lib.hid (encRes_long (c := c))
  have H3 := Lib.hid (encRes_ok (c := c))
  have H4 := Lib.hid (im_ok hi)
  clear hi hc
  generalize encRes c = R at H1 H2 H3 ⊢
  generalize PitotCrc.sealed (PitotImg.magic ++ PitotImg.cfW c.pl) = SL at HSE H3
  generalize PitotImg.magic ++ PitotImg.cfW c.pl = L at HWR HBY HSE
  generalize PitotConf.check c.pl = CK at HCK HWR HBY HSE H1 H2 H3 H4
  obtain ⟨r1, r2, r3⟩ := CK
  generalize PitotImg.cfOk c.pl = OKP at HWR H4
  obtain ⟨hosts, pA, pc, parts, major, wA, wk, wins, vA, vc, vls, qA, qc, ports⟩ := c
  simp only [Cx.val] at HCK HAP HWR HBY HSE H1 H2 H3 H4 ⊢
  generalize ports.any (fun x => decide (4294967295 < x.id)) = an at HAP H2 H3 H4
  generalize wins.length = wl, parts.length = pl, vls.length = vl, ports.length = ql at HCK HAP HWR ⊢
  have CB0 : Hid ((w.alloc (.cells #[.int .i64 hosts, .slice pA pl pc, .int .i64 major, .slice wA wl wk, .slice vA vl vc, .slice qA ql qc] 27)).heap[w.heap.size]? = some (.cells #[.int .i64 hosts, .slice pA pl pc, .int .i64 major, .slice wA wl wk, .slice vA vl vc, .slice qA ql qc] 27)) := heap_alloc_new w _
  have BB0 : Hid (Below w.heap.size w (w.alloc (.cells #[.int .i64 hosts, .slice pA pl pc, .int .i64 major, .slice wA wl wk, .slice vA vl vc, .slice qA ql qc] 27))) := (Below.refl _ w).alloc (Nat.le_refl _) _
  go_enter Try.func6, Try.ntmps6
  go_upto_region 1 with (fail)
  have CB := CB0
  have BB := BB0
  clear CB0 BB0
  generalize w.alloc (.cells #[.int .i64 hosts, .slice pA pl pc, .int .i64 major, .slice wA wl wk, .slice vA vl vc, .slice qA ql qc] 27) = Wi at CB BB ⊢
  obtain ⟨cb, hcb⟩ : ∃ cb, w.heap.size = cb := ⟨_, rfl⟩
  have HCB : Hid (w.heap.size ≤ cb) := by show _ ≤ _; omega
  rw [hcb] at CB ⊢
  clear hcb
  obtain ⟨c0, c1, c2, c3, c4, c5⟩ := cells_6 CB.out
  go_upto_region 2 with (first
        | (go_at_call 8; (with_reducible refine (HCK.out _ BB.out).mono ?_); rintro e w2 ⟨rfl, hb2⟩
           (have CBX := Lib.hid (lies_below CB.out hb2 (lies_lt CB.out)))
           (have BX := Lib.hid (BB.out.trans (hb2.mono BB.out.size)))
           (clear hb2 BB CB c0 c1 c2 c3 c4 c5)
           (have CB := CBX)
           (have BB := BX)
           (clear BX CBX)
           (obtain ⟨c0, c1, c2, c3, c4, c5⟩ := cells_6 CB.out)))
  have CBX := Lib.hid (lies_alloc (o := .cells #[.int .i64 r1, .int .i64 r2] 36) CB.out)
  have BX : Hid (Below w.heap.size w (w2.alloc (.cells #[.int .i64 r1, .int .i64 r2] 36))) := BB.out.alloc BB.out.size _
  clear BB CB c0 c1 c2 c3 c4 c5
  have CB := CBX
  have BB := BX
  clear CBX BX
  generalize w2.alloc (.cells #[.int .i64 r1, .int .i64 r2] 36) = W3 at CB BB ⊢
  obtain ⟨c0, c1, c2, c3, c4, c5⟩ := cells_6 CB.out
  by_cases h0 : r3 = 0
  · subst h0
    cases an
    · have HR := H3.out rfl rfl
      have HOK := H4.out rfl rfl
      have HWS := Lib.hid (HWR.out HOK rfl)
      have HBS := Lib.hid (HBY.out rfl)
      have HSS := Lib.hid (HSE.out rfl)
      have HR := Lib.hid HR
      go_upto_region 6 with (first
        | (go_at_call 9; (with_reducible refine (HAP.out _ BB.out).mono ?_); rintro e w3 ⟨rfl, hb2⟩
           (have CBX := Lib.hid (lies_below CB.out hb2 (lies_lt CB.out)))
           (have BX := Lib.hid (BB.out.trans (hb2.mono BB.out.size)))
           (clear hb2 BB CB c0 c1 c2 c3 c4 c5)
           (have CB := CBX)
           (have BB := BX)
           (clear BX CBX)
           (obtain ⟨c0, c1, c2, c3, c4, c5⟩ := cells_6 CB.out)))
      have HN : Hid (WL (w3.alloc (.cells #[.pointer none, .string ⟨#[]⟩, .bool false] 46)) w3.heap.size []) := wl_new (alloc_at rfl)
      have HBn : Hid (w.heap.size ≤ w3.heap.size) := BB.out.size
      have HCn : Hid (cb < w3.heap.size) := lies_lt CB.out
      have CBX := Lib.hid (lies_alloc (o := .cells #[.pointer none, .string ⟨#[]⟩, .bool false] 46) CB.out)
      have BX : Hid (Below w.heap.size w (w3.alloc (.cells #[.pointer none, .string ⟨#[]⟩, .bool false] 46))) := BB.out.alloc BB.out.size _
      clear BB CB c0 c1 c2 c3 c4 c5
      have CB := CBX
      have BB := BX
      clear CBX BX
      go_upto_region 7 with (fail)
      generalize w3.alloc (.cells #[.pointer none, .string ⟨#[]⟩, .bool false] 46) = W4 at CB BB HN ⊢
      generalize w3.heap.size = wb at HN HBn HCn ⊢
      obtain ⟨c0, c1, c2, c3, c4, c5⟩ := cells_6 CB.out
      go_wp2_with (first
        | (go_at_call 11; (with_reducible refine (HWS.out wb _ BB.out HBn.out HN.out).mono ?_); rintro e w5 ⟨rfl, hw5, hg5⟩
           (have HW5 := Lib.hid hw5)
           (have BX := Lib.hid (BB.out.trans (grown_below hg5 HBn.out BB.out.size)))
           (clear hw5 hg5 BB)
           (have BB := BX)
           (clear BX))
        | (go_at_call 12; (with_reducible refine (HBS.out wb _ HW5.out).mono ?_); rintro e w6 ⟨rfl, hb6⟩
           (have BX := Lib.hid (BB.out.trans (hb6.mono BB.out.size)))
           (clear hb6 BB)
           (have BB := BX)
           (clear BX))
        | (go_at_call 13; (with_reducible refine (HSS.out _).mono ?_); rintro e w7 ⟨rfl, hb7⟩
           (have BX := Lib.hid (BB.out.trans (hb7.mono BB.out.size)))
           (clear hb7 BB)
           (have BB := BX)
           (clear BX)))
      go_returns
      rw [HR.out]
      exact ⟨rfl, BB.out⟩
    · have HR := Lib.hid (H2.out rfl rfl)
      go_wp2_with (first
        | (go_at_call 9; (with_reducible refine (HAP.out _ BB.out).mono ?_); rintro e w3 ⟨rfl, hb2⟩
           (have CBX := Lib.hid (lies_below CB.out hb2 (lies_lt CB.out)))
           (have BX := Lib.hid (BB.out.trans (hb2.mono BB.out.size)))
           (clear hb2 BB CB c0 c1 c2 c3 c4 c5)
           (have CB := CBX)
           (have BB := BX)
           (clear BX CBX)
           (obtain ⟨c0, c1, c2, c3, c4, c5⟩ := cells_6 CB.out)))
      go_returns
      rw [HR.out]
      exact ⟨rfl, BB.out⟩
  · have HR := Lib.hid (H1.out h0)
    have e1 : (r3 == 0) = false := by simpa using h0
    have e2 : (r3 != 0) = true := by simpa using h0
    go_wp2
    go_returns
    rw [HR.out]
    exact ⟨rfl, BB.out⟩
end Go.Proofs.Ytdphapjeohkbjaa.Im
/- The law's Few: a network that is not too great (trial). -/
set_option maxRecDepth 100000
namespace Go.Proofs.Ytdphapjeohkbjaa
open Go.RowKit

/-- Not too great for what the laws ask. -/
def few (c : Cx) : Bool := decide (c.parts.length ≤ 70) && decide (c.wins.length ≤ 260) && decide (c.vls.length ≤ 260) && decide (c.ports.length ≤ 520) && c.vls.all (fun v => decide (v.to.length ≤ 70))
theorem few_iff (c : Cx) : few c = true ↔ c.parts.length ≤ 70 ∧ c.wins.length ≤ 260 ∧ c.vls.length ≤ 260 ∧ c.ports.length ≤ 520 ∧ ∀ q (h : q < c.vls.length), c.vls[q].to.length ≤ 70 := by
  unfold few
  simp only [Bool.and_eq_true, decide_eq_true_eq, List.all_eq_true, and_assoc]
  constructor
  · rintro ⟨h1, h2, h3, h4, h5⟩; exact ⟨h1, h2, h3, h4, fun q h => h5 _ (List.getElem_mem _)⟩
  · rintro ⟨h1, h2, h3, h4, h5⟩
    refine ⟨h1, h2, h3, h4, fun v hv => ?_⟩
    obtain ⟨q, hq, rfl⟩ := List.mem_iff_getElem.1 hv
    exact h5 q hq
set_option maxHeartbeats 4000000 in
theorem few_any (c : Cx) (w : World) (hc : c.Held w) (hl : c.parts.length ≤ maxLen ∧ c.wins.length ≤ maxLen ∧ c.vls.length ≤ maxLen ∧ c.ports.length ≤ maxLen) : Calls Try.prog 4 #[c.val] w fun e w' => e = .returned (.bool (few c)) ∧ Below w.heap.size w w' := by
  unfold maxLen at hl
  have hfi := few_iff c
  obtain ⟨R, HR⟩ : ∃ R, Hid (few c = R) := ⟨_, rfl⟩
  rw [HR.out] at hfi ⊢
  have HV : Hid (VxsAt w c.vlsA c.vls) := hc.2.2.1
  clear hc
  obtain ⟨hosts, pA, pc, parts, major, wA, wk, wins, vA, vc, vls, qA, qc, ports⟩ := c
  simp only at HV hfi hl HR ⊢
  obtain ⟨np, Hnp⟩ : ∃ n, Hid (parts.length = n) := ⟨_, rfl⟩
  obtain ⟨nw, Hnw⟩ : ∃ n, Hid (wins.length = n) := ⟨_, rfl⟩
  obtain ⟨nv, Hnv⟩ : ∃ n, Hid (vls.length = n) := ⟨_, rfl⟩
  obtain ⟨nq, Hnq⟩ : ∃ n, Hid (ports.length = n) := ⟨_, rfl⟩
  show Calls Try.prog 4 #[.agg #[.int .i64 hosts, .slice pA parts.length pc, .int .i64 major, .slice wA wins.length wk, .slice vA vls.length vc, .slice qA ports.length qc]] w _
  have HF : Hid (70 < np ∨ 260 < nw ∨ 260 < nv ∨ 520 < nq → R = false) := by
    show _ → _
    intro h
    cases hR : R with
    | false => rfl
    | true =>
      obtain ⟨a1, a2, a3, a4, _⟩ := hfi.1 hR
      rw [Hnp.out] at a1; rw [Hnw.out] at a2; rw [Hnv.out] at a3; rw [Hnq.out] at a4
      omega
  have HG : Hid ((∃ q, ∃ h : q < vls.length, 70 < vls[q].to.length) → R = false) := by
    show _ → _
    rintro ⟨q, h, h2⟩
    cases hR : R with
    | false => rfl
    | true =>
      have := (hfi.1 hR).2.2.2.2 q h
      omega
  have HY : Hid (np ≤ 70 ∧ nw ≤ 260 ∧ nv ≤ 260 ∧ nq ≤ 520 ∧ (∀ q (h : q < vls.length), vls[q].to.length ≤ 70) → R = true) := by
    show _ → _
    rintro ⟨h1, h2, h3, h4, h5⟩
    exact hfi.2 ⟨by rw [Hnp.out]; exact h1, by rw [Hnw.out]; exact h2, by rw [Hnv.out]; exact h3, by rw [Hnq.out]; exact h4, h5⟩
  clear hfi
  rw [Hnp.out, Hnw.out, Hnv.out, Hnq.out] at hl ⊢
  have kb : Hid (Below w.heap.size w (w.alloc (.cells #[.int .i64 hosts, .slice pA np pc, .int .i64 major, .slice wA nw wk, .slice vA nv vc, .slice qA nq qc] 27))) := (Below.refl _ w).alloc (Nat.le_refl _) _
  obtain ⟨l1, l2, l3, l4⟩ := hl
  go_enter Try.func4, Try.ntmps4
  by_cases g0 : 70 < np
  · have f0 : decide (70 < (np : Int)) = true := decide_eq_true (by omega)
    have f0' : decide (70 < np) = true := decide_eq_true g0
    have HT : Hid (R = false) := HF.out (by omega)
    go_wp2
    go_returns
    rw [HT.out]
    exact ⟨rfl, kb.out⟩
  · have f0 : decide (70 < (np : Int)) = false := decide_eq_false (by omega)
    have f0' : decide (70 < np) = false := decide_eq_false g0
    by_cases g1 : 260 < nw
    · have f1 : decide (260 < (nw : Int)) = true := decide_eq_true (by omega)
      have f1' : decide (260 < nw) = true := decide_eq_true g1
      have HT : Hid (R = false) := HF.out (by omega)
      go_wp2
      go_returns
      rw [HT.out]
      exact ⟨rfl, kb.out⟩
    · have f1 : decide (260 < (nw : Int)) = false := decide_eq_false (by omega)
      have f1' : decide (260 < nw) = false := decide_eq_false g1
      by_cases g2 : 260 < nv
      · have f2 : decide (260 < (nv : Int)) = true := decide_eq_true (by omega)
        have f2' : decide (260 < nv) = true := decide_eq_true g2
        have HT : Hid (R = false) := HF.out (by omega)
        go_wp2
        go_returns
        rw [HT.out]
        exact ⟨rfl, kb.out⟩
      · have f2 : decide (260 < (nv : Int)) = false := decide_eq_false (by omega)
        have f2' : decide (260 < nv) = false := decide_eq_false g2
        by_cases g3 : 520 < nq
        · have f3 : decide (520 < (nq : Int)) = true := decide_eq_true (by omega)
          have f3' : decide (520 < nq) = true := decide_eq_true g3
          have HT : Hid (R = false) := HF.out (by omega)
          go_wp2
          go_returns
          rw [HT.out]
          exact ⟨rfl, kb.out⟩
        · have f3 : decide (520 < (nq : Int)) = false := decide_eq_false (by omega)
          have f3' : decide (520 < nq) = false := decide_eq_false g3
          go_wp2
          go_loop [3] (fun v3 => ∃ k : Nat, k ≤ nv ∧ v3 = .int .i64 k ∧ Hid (∀ q (h : q < vls.length), q < k → vls[q].to.length ≤ 70)) (fun v3 => nv - (intOf v3).toNat)
          case atStart => exact ⟨0, Nat.zero_le _, rfl, fun q h hq => by omega⟩
          case round =>
            obtain ⟨k, hk, rfl, hq⟩ := hrel
            by_cases hkn : k < nv
            · have hkl : k < vls.length := by rw [Hnv.out]; exact hkn
              have e1 : decide ((k : Int) < (nv : Int)) = true := decide_eq_true (by omega)
              have e1' : decide (k < nv) = true := decide_eq_true hkn
              obtain ⟨b, off, rfl, hb, hat, _⟩ := HV.out.get hkl
              have hat := hat.below kb.out hb
              obtain ⟨tl, Htl⟩ : ∃ tl, Hid (vls[k].to.length = tl) := ⟨vls[k].to.length, Lib.hid rfl⟩
              unfold VxAt at hat
              rw [Htl.out] at hat
              obtain ⟨a0, a1, a2, a3, a4, a5, a6, a7⟩ := hat
              by_cases ht : 70 < tl
              · have e2 : decide (70 < (tl : Int)) = true := decide_eq_true (by omega)
                have e2' : decide (70 < tl) = true := decide_eq_true ht
                have HT : Hid (R = false) := HG.out ⟨k, hkl, by rw [Htl.out]; exact ht⟩
                go_wp2
                go_returns
                rw [HT.out]
                exact ⟨rfl, kb.out⟩
              · have e2 : decide (70 < (tl : Int)) = false := decide_eq_false (by omega)
                have e2' : decide (70 < tl) = false := decide_eq_false ht
                have HN : Hid (∀ q (h : q < vls.length), q < k + 1 → vls[q].to.length ≤ 70) := by
                  show ∀ q (h : q < vls.length), q < k + 1 → vls[q].to.length ≤ 70
                  intro q h h2
                  by_cases e : q = k
                  · subst e; rw [Htl.out]; omega
                  · exact hq.out q h (by omega)
                go_wp2
                go_round
                case rel => exact ⟨k + 1, by omega, by go_num, HN⟩
                case measure => simp [intOf]; omega
            · have e1 : decide ((k : Int) < (nv : Int)) = false := decide_eq_false (by omega)
              have e1' : decide (k < nv) = false := decide_eq_false hkn
              have HT : Hid (R = true) := HY.out ⟨by omega, by omega, by omega, by omega, fun q h => hq.out q h (by rw [Hnv.out] at h; omega)⟩
              go_wp2
              go_returns
              rw [HT.out]
              exact ⟨rfl, kb.out⟩
end Go.Proofs.Ytdphapjeohkbjaa
/- The chapter's examples; a network that comes in; what a law asks of it. -/
set_option maxRecDepth 100000
namespace Go.Proofs.Ytdphapjeohkbjaa
open Go.RowKit Go.ChangeShapes Go.WideShapes Go.Deep

section
variable {H : Type} {enc : TypeId × Value → H} {W : World} {b0 : Nat} {spare : Nat → Bool} {held : Bool} {w : World} {r : Reach} {base : Nat}
theorem slice_cap {t e : TypeId} {fuel : Nat} {A : Option Addr} {len cap : Nat} {x : DataW H × List MemPlace} (ht : Try.prog.underlying t = some (.slice e)) (h : DataW.trod enc Try.prog W b0 spare held fuel t [.slice A len cap] = some x) : len ≤ cap := by
  rcases open_slice ht h with ⟨hcs, _⟩ | ⟨a, len', cap', m, n, D, Pl, hcs, _, hl, _⟩
  · simp only [List.cons.injEq, Value.slice.injEq, and_true] at hcs
    omega
  · simp only [List.cons.injEq, Value.slice.injEq, and_true] at hcs
    omega
/-- No slice is longer than its room. -/
def Cx.Caps (c : Cx) : Prop := c.parts.length ≤ c.partsc ∧ c.wins.length ≤ c.winsc ∧ c.vls.length ≤ c.vlsc ∧ c.ports.length ≤ c.portsc
theorem Cx_caps {fuel : Nat} {c : Cx} {x : DataW H × List MemPlace} (h : DataW.trod enc Try.prog W b0 spare held fuel 27 c.enc = some x) : c.Caps := by
  have c3 : Try.prog.cellsOf 3 = 1 := by kernel_rfl
  have c22 : Try.prog.cellsOf 22 = 1 := by kernel_rfl
  have c23 : Try.prog.cellsOf 23 = 1 := by kernel_rfl
  have c24 : Try.prog.cellsOf 24 = 1 := by kernel_rfl
  have c25 : Try.prog.cellsOf 25 = 1 := by kernel_rfl
  obtain ⟨ys, n', _, _, hlen, hyl, hf⟩ := DataW.trod_struct Try.underlying27 h
  match ys, hyl with
  | [y0, y1, y2, y3, y4, y5], _ =>
    have f1 : DataW.trod enc Try.prog W b0 spare held n' 22 ((c.enc.drop 1).take (Try.prog.cellsOf 22)) = some y1 := hf 1 _ rfl
    rw [c22] at f1
    have f3 : DataW.trod enc Try.prog W b0 spare held n' 23 ((c.enc.drop 3).take (Try.prog.cellsOf 23)) = some y3 := hf 3 _ rfl
    rw [c23] at f3
    have f4 : DataW.trod enc Try.prog W b0 spare held n' 24 ((c.enc.drop 4).take (Try.prog.cellsOf 24)) = some y4 := hf 4 _ rfl
    rw [c24] at f4
    have f5 : DataW.trod enc Try.prog W b0 spare held n' 25 ((c.enc.drop 5).take (Try.prog.cellsOf 25)) = some y5 := hf 5 _ rfl
    rw [c25] at f5
    exact ⟨slice_cap Try.underlying22 f1, slice_cap Try.underlying23 f3, slice_cap Try.underlying24 f4, slice_cap Try.underlying25 f5⟩
theorem Cx_open2 {fuel : Nat} {v : Value} {x : DataW H × List MemPlace} (hok : Value.okWide Try.prog w r base 27 v) (h : DataW.trod enc Try.prog W b0 spare held fuel 27 v.cells.toList = some x) :
    ∃ o : Cx, ∃ (_ : o.Ok) (_ : o.Held W) (_ : o.Caps), v = o.val := by
  obtain ⟨o, rfl, h2, h3⟩ := Cx_open hok h
  exact ⟨o, h2, h3, Cx_caps (c := o) (by simpa [Value.cells] using h), rfl⟩
end
theorem few_sm {c : Cx} (co : c.Ok) (h : few c = true) : Sm c := by
  obtain ⟨h1, h2, h3, h4, h5⟩ := (few_iff c).1 h
  refine ⟨co, by omega, by omega, by omega, by omega, fun v hv => ?_⟩
  obtain ⟨i, hi, rfl⟩ := List.mem_iff_getElem.1 hv
  have := h5 i hi
  omega
abbrev cz : Cx := ⟨0, none, 0, [], 0, none, 0, [], none, 0, [], none, 0, []⟩
theorem sm_cz : Sm cz := ⟨⟨by decide, by simp, fun n h => by simp at h, by decide, by simp, fun n h => by simp at h, by simp, fun n h => by simp at h, by simp, fun n h => by simp at h⟩, by simp, by simp, by simp, by simp, fun v h => by simp at h⟩
theorem held_cz (w : World) : cz.Held w := ⟨fun h => absurd rfl h, fun h => absurd rfl h, fun h => absurd rfl h, fun h => absurd rfl h⟩
theorem zero27 (w : World) : (zeroValue 27).run Try.prog w = .ok (.agg #[.int .i64 0, .slice none 0 0, .int .i64 0, .slice none 0 0, .slice none 0 0, .slice none 0 0]) w := by kernel_rfl
end Go.Proofs.Ytdphapjeohkbjaa
