/- The law's Few: a network that is not too great (trial). -/
import Derived.Test.YtdgkanamceeheaaGreatM17
import Derived.Deep.RegionHeld3
import Derived.Deep.Cut
import Derived.Deep.CutBlock
import Derived.IntWalk
import Derived.Test.YtdgkanamceeheaaGreatM29
set_option linter.unusedVariables false
set_option maxRecDepth 100000
namespace Go.Proofs.YtdgkanamceeheaaGreat
open Go.RowKit

/-- Not too great for what the laws ask. -/
def few (c : Cx) : Bool := decide (c.parts.length ≤ 70) && decide (c.wins.length ≤ 260) && decide (c.vls.length ≤ 260) && decide (c.ports.length ≤ 520) && c.vls.all (fun v => decide (v.to.length ≤ 70))
theorem few_iff (c : Cx) : few c = true ↔ c.parts.length ≤ 70 ∧ c.wins.length ≤ 260 ∧ c.vls.length ≤ 260 ∧ c.ports.length ≤ 520 ∧ ∀ q (h : q < c.vls.length), c.vls[q].to.length ≤ 70 := by
  unfold few
  simp only [Bool.and_eq_true, decide_eq_true_eq, List.all_eq_true, and_assoc]
  constructor
  · rintro ⟨h1, h2, h3, h4, h5⟩; exact ⟨h1, h2, h3, h4, fun q h => h5 _ (List.getElem_mem _)⟩
  · rintro ⟨h1, h2, h3, h4, h5⟩
    refine ⟨h1, h2, h3, h4, fun v hv => ?_⟩
    obtain ⟨q, hq, rfl⟩ := List.mem_iff_getElem.1 hv
    exact h5 q hq
set_option maxHeartbeats 4000000 in
theorem few_any (c : Cx) (w : World) (hc : c.Held w) (hl : c.parts.length ≤ maxLen ∧ c.wins.length ≤ maxLen ∧ c.vls.length ≤ maxLen ∧ c.ports.length ≤ maxLen) : Calls Tryz.prog 11 #[c.val] w fun e w' => e = .returned (.bool (few c)) ∧ Below w.heap.size w w' := by
  unfold maxLen at hl
  have hfi := few_iff c
  obtain ⟨R, HR⟩ : ∃ R, Hid (few c = R) := ⟨_, rfl⟩
  rw [HR.out] at hfi ⊢
  have HV : Hid (VxsAt w c.vlsA c.vls) := hc.2.2.1
  clear hc
  obtain ⟨hosts, pA, pc, parts, major, wA, wk, wins, vA, vc, vls, qA, qc, ports⟩ := c
  simp only at HV hfi hl HR ⊢
  obtain ⟨np, Hnp⟩ : ∃ n, Hid (parts.length = n) := ⟨_, rfl⟩
  obtain ⟨nw, Hnw⟩ : ∃ n, Hid (wins.length = n) := ⟨_, rfl⟩
  obtain ⟨nv, Hnv⟩ : ∃ n, Hid (vls.length = n) := ⟨_, rfl⟩
  obtain ⟨nq, Hnq⟩ : ∃ n, Hid (ports.length = n) := ⟨_, rfl⟩
  show Calls Tryz.prog 11 #[.agg #[.int .i64 hosts, .slice pA parts.length pc, .int .i64 major, .slice wA wins.length wk, .slice vA vls.length vc, .slice qA ports.length qc]] w _
  have HF : Hid (70 < np ∨ 260 < nw ∨ 260 < nv ∨ 520 < nq → R = false) := by
    show _ → _
    intro h
    cases hR : R with
    | false => rfl
    | true =>
      obtain ⟨a1, a2, a3, a4, _⟩ := hfi.1 hR
      rw [Hnp.out] at a1; rw [Hnw.out] at a2; rw [Hnv.out] at a3; rw [Hnq.out] at a4
      omega
  have HG : Hid ((∃ q, ∃ h : q < vls.length, 70 < vls[q].to.length) → R = false) := by
    show _ → _
    rintro ⟨q, h, h2⟩
    cases hR : R with
    | false => rfl
    | true =>
      have := (hfi.1 hR).2.2.2.2 q h
      omega
  have HY : Hid (np ≤ 70 ∧ nw ≤ 260 ∧ nv ≤ 260 ∧ nq ≤ 520 ∧ (∀ q (h : q < vls.length), vls[q].to.length ≤ 70) → R = true) := by
    show _ → _
    rintro ⟨h1, h2, h3, h4, h5⟩
    exact hfi.2 ⟨by rw [Hnp.out]; exact h1, by rw [Hnw.out]; exact h2, by rw [Hnv.out]; exact h3, by rw [Hnq.out]; exact h4, h5⟩
  clear hfi
  rw [Hnp.out, Hnw.out, Hnv.out, Hnq.out] at hl ⊢
  have kb : Hid (Below w.heap.size w (w.alloc (.cells #[.int .i64 hosts, .slice pA np pc, .int .i64 major, .slice wA nw wk, .slice vA nv vc, .slice qA nq qc] 28))) := (Below.refl _ w).alloc (Nat.le_refl _) _
  obtain ⟨l1, l2, l3, l4⟩ := hl
  go_enter Tryz.func11, Tryz.ntmps11
  by_cases g0 : 70 < np
  · have f0 : decide (70 < (np : Int)) = true := decide_eq_true (by omega)
    have f0' : decide (70 < np) = true := decide_eq_true g0
    have HT : Hid (R = false) := HF.out (by omega)
    go_wp2
    go_returns
    rw [HT.out]
    exact ⟨rfl, kb.out⟩
  · have f0 : decide (70 < (np : Int)) = false := decide_eq_false (by omega)
    have f0' : decide (70 < np) = false := decide_eq_false g0
    by_cases g1 : 260 < nw
    · have f1 : decide (260 < (nw : Int)) = true := decide_eq_true (by omega)
      have f1' : decide (260 < nw) = true := decide_eq_true g1
      have HT : Hid (R = false) := HF.out (by omega)
      go_wp2
      go_returns
      rw [HT.out]
      exact ⟨rfl, kb.out⟩
    · have f1 : decide (260 < (nw : Int)) = false := decide_eq_false (by omega)
      have f1' : decide (260 < nw) = false := decide_eq_false g1
      by_cases g2 : 260 < nv
      · have f2 : decide (260 < (nv : Int)) = true := decide_eq_true (by omega)
        have f2' : decide (260 < nv) = true := decide_eq_true g2
        have HT : Hid (R = false) := HF.out (by omega)
        go_wp2
        go_returns
        rw [HT.out]
        exact ⟨rfl, kb.out⟩
      · have f2 : decide (260 < (nv : Int)) = false := decide_eq_false (by omega)
        have f2' : decide (260 < nv) = false := decide_eq_false g2
        by_cases g3 : 520 < nq
        · have f3 : decide (520 < (nq : Int)) = true := decide_eq_true (by omega)
          have f3' : decide (520 < nq) = true := decide_eq_true g3
          have HT : Hid (R = false) := HF.out (by omega)
          go_wp2
          go_returns
          rw [HT.out]
          exact ⟨rfl, kb.out⟩
        · have f3 : decide (520 < (nq : Int)) = false := decide_eq_false (by omega)
          have f3' : decide (520 < nq) = false := decide_eq_false g3
          go_wp2
          go_loop [3] (fun v3 => ∃ k : Nat, k ≤ nv ∧ v3 = .int .i64 k ∧ Hid (∀ q (h : q < vls.length), q < k → vls[q].to.length ≤ 70)) (fun v3 => nv - (intOf v3).toNat)
          case atStart => exact ⟨0, Nat.zero_le _, rfl, fun q h hq => by omega⟩
          case round =>
            obtain ⟨k, hk, rfl, hq⟩ := hrel
            by_cases hkn : k < nv
            · have hkl : k < vls.length := by rw [Hnv.out]; exact hkn
              have e1 : decide ((k : Int) < (nv : Int)) = true := decide_eq_true (by omega)
              have e1' : decide (k < nv) = true := decide_eq_true hkn
              obtain ⟨b, off, rfl, hb, hat, _⟩ := HV.out.get hkl
              have hat := hat.below kb.out hb
              obtain ⟨tl, Htl⟩ : ∃ tl, Hid (vls[k].to.length = tl) := ⟨vls[k].to.length, Lib.hid rfl⟩
              unfold VxAt at hat
              rw [Htl.out] at hat
              obtain ⟨a0, a1, a2, a3, a4, a5, a6, a7⟩ := hat
              by_cases ht : 70 < tl
              · have e2 : decide (70 < (tl : Int)) = true := decide_eq_true (by omega)
                have e2' : decide (70 < tl) = true := decide_eq_true ht
                have HT : Hid (R = false) := HG.out ⟨k, hkl, by rw [Htl.out]; exact ht⟩
                go_wp2
                go_returns
                rw [HT.out]
                exact ⟨rfl, kb.out⟩
              · have e2 : decide (70 < (tl : Int)) = false := decide_eq_false (by omega)
                have e2' : decide (70 < tl) = false := decide_eq_false ht
                have HN : Hid (∀ q (h : q < vls.length), q < k + 1 → vls[q].to.length ≤ 70) := by
                  show ∀ q (h : q < vls.length), q < k + 1 → vls[q].to.length ≤ 70
                  intro q h h2
                  by_cases e : q = k
                  · subst e; rw [Htl.out]; omega
                  · exact hq.out q h (by omega)
                go_wp2
                go_round
                case rel => exact ⟨k + 1, by omega, by go_num, HN⟩
                case measure => simp [intOf]; omega
            · have e1 : decide ((k : Int) < (nv : Int)) = false := decide_eq_false (by omega)
              have e1' : decide (k < nv) = false := decide_eq_false hkn
              have HT : Hid (R = true) := HY.out ⟨by omega, by omega, by omega, by omega, fun q h => hq.out q h (by rw [Hnv.out] at h; omega)⟩
              go_wp2
              go_returns
              rw [HT.out]
              exact ⟨rfl, kb.out⟩
end Go.Proofs.YtdgkanamceeheaaGreat
/- The chapter's examples; a network that comes in; what a law asks of it. -/
set_option maxRecDepth 100000
namespace Go.Proofs.YtdgkanamceeheaaGreat
open Go.RowKit Go.ChangeShapes Go.WideShapes Go.Deep

section
variable {H : Type} {enc : TypeId × Value → H} {W : World} {b0 : Nat} {spare : Nat → Bool} {held : Bool} {w : World} {r : Reach} {base : Nat}
theorem slice_cap {t e : TypeId} {fuel : Nat} {A : Option Addr} {len cap : Nat} {x : DataW H × List MemPlace} (ht : Tryz.prog.underlying t = some (.slice e)) (h : DataW.trod enc Tryz.prog W b0 spare held fuel t [.slice A len cap] = some x) : len ≤ cap := by
  rcases open_slice ht h with ⟨hcs, _⟩ | ⟨a, len', cap', m, n, D, Pl, hcs, _, hl, _⟩
  · simp only [List.cons.injEq, Value.slice.injEq, and_true] at hcs
    omega
  · simp only [List.cons.injEq, Value.slice.injEq, and_true] at hcs
    omega
/-- No slice is longer than its room. -/
def Cx.Caps (c : Cx) : Prop := c.parts.length ≤ c.partsc ∧ c.wins.length ≤ c.winsc ∧ c.vls.length ≤ c.vlsc ∧ c.ports.length ≤ c.portsc
theorem Cx_caps {fuel : Nat} {c : Cx} {x : DataW H × List MemPlace} (h : DataW.trod enc Tryz.prog W b0 spare held fuel 28 c.enc = some x) : c.Caps := by
  have c3 : Tryz.prog.cellsOf 3 = 1 := by kernel_rfl
  have c22 : Tryz.prog.cellsOf 23 = 1 := by kernel_rfl
  have c23 : Tryz.prog.cellsOf 24 = 1 := by kernel_rfl
  have c24 : Tryz.prog.cellsOf 25 = 1 := by kernel_rfl
  have c25 : Tryz.prog.cellsOf 26 = 1 := by kernel_rfl
  obtain ⟨ys, n', _, _, hlen, hyl, hf⟩ := DataW.trod_struct Tryz.underlying28 h
  match ys, hyl with
  | [y0, y1, y2, y3, y4, y5], _ =>
    have f1 : DataW.trod enc Tryz.prog W b0 spare held n' 23 ((c.enc.drop 1).take (Tryz.prog.cellsOf 23)) = some y1 := hf 1 _ rfl
    rw [c22] at f1
    have f3 : DataW.trod enc Tryz.prog W b0 spare held n' 24 ((c.enc.drop 3).take (Tryz.prog.cellsOf 24)) = some y3 := hf 3 _ rfl
    rw [c23] at f3
    have f4 : DataW.trod enc Tryz.prog W b0 spare held n' 25 ((c.enc.drop 4).take (Tryz.prog.cellsOf 25)) = some y4 := hf 4 _ rfl
    rw [c24] at f4
    have f5 : DataW.trod enc Tryz.prog W b0 spare held n' 26 ((c.enc.drop 5).take (Tryz.prog.cellsOf 26)) = some y5 := hf 5 _ rfl
    rw [c25] at f5
    exact ⟨slice_cap Tryz.underlying23 f1, slice_cap Tryz.underlying24 f3, slice_cap Tryz.underlying25 f4, slice_cap Tryz.underlying26 f5⟩
theorem Cx_open2 {fuel : Nat} {v : Value} {x : DataW H × List MemPlace} (hok : Value.okWide Tryz.prog w r base 28 v) (h : DataW.trod enc Tryz.prog W b0 spare held fuel 28 v.cells.toList = some x) :
    ∃ o : Cx, ∃ (_ : o.Ok) (_ : o.Held W) (_ : o.Caps), v = o.val := by
  obtain ⟨o, rfl, h2, h3⟩ := Cx_open hok h
  exact ⟨o, h2, h3, Cx_caps (c := o) (by simpa [Value.cells] using h), rfl⟩
end
theorem few_sm {c : Cx} (co : c.Ok) (h : few c = true) : Sm c := by
  obtain ⟨h1, h2, h3, h4, h5⟩ := (few_iff c).1 h
  refine ⟨co, by omega, by omega, by omega, by omega, fun v hv => ?_⟩
  obtain ⟨i, hi, rfl⟩ := List.mem_iff_getElem.1 hv
  have := h5 i hi
  omega
abbrev cz : Cx := ⟨0, none, 0, [], 0, none, 0, [], none, 0, [], none, 0, []⟩
end Go.Proofs.YtdgkanamceeheaaGreat
