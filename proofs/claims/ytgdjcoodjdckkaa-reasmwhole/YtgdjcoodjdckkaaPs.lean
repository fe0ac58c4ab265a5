/- Contract of Pass. -/
import Derived.Test.YtgdjcoodjdckkaaFo
import Derived.BigQuiet
import Derived.Deep.LoopGhost
set_option maxRecDepth 100000
namespace Go.Proofs.Ytgdjcoodjdckkaa
open Go.RowKit Go.Proofs.PitotIp Go.Maps
open Go.Proofs.PitotReasm (Bg Tb Fine passed passE keep)
open Go.Proofs.Ytgdjcoodjdckkaa.Bi (lies_lt lies_cell lies_frozen lies_alloc lies_set)

/-- What is so of every table. -/
structure Good (most : Nat) (t : Tb K UInt8) : Prop where
  fine : Fine t.l
  sorted : t.l.Pairwise fun a b => a.t0 ≤ b.t0
  times : ∀ b ∈ t.l, 0 ≤ b.t0 ∧ b.t0 ≤ t.now
  now0 : 0 ≤ t.now
  nowM : t.now ≤ 1125899906842624
  lens : ∀ b ∈ t.l, b.d.length ≤ 8200
  room : t.l.length ≤ most

theorem keep_rest {l : List (Bg K UInt8)} {wait n : Int} {j : Nat} (hj : ∀ b ∈ l.take j, ¬ n - b.t0 ≤ wait) : keep l wait n = keep (l.drop j) wait n := by
  conv => lhs; rw [← List.take_append_drop j l]
  unfold keep
  rw [List.filter_append, List.filter_eq_nil_iff.2 (fun b hb => by simpa using hj b hb), List.nil_append]
theorem passed_of {t : Tb K UInt8} {wait n : Int} {j : Nat} (hj : j ≤ t.l.length) (he : ∀ b ∈ t.l.take j, ¬ n - b.t0 ≤ wait) (hk : keep (t.l.drop j) wait n = t.l.drop j) : passed t wait n = ⟨t.l.drop j, n, t.dr + j⟩ := by
  unfold passed
  rw [keep_rest he, hk, List.length_drop, show t.l.length - (t.l.length - j) = j by omega]
theorem drop_head {c : Bg K UInt8} {r : List (Bg K UInt8)} (hn : ((c :: r).map (·.k)).Nodup) : drop (c :: r) c.k = r := by
  simp only [List.map_cons, List.nodup_cons] at hn
  rw [drop, PitotReasm.drop_cons, if_pos rfl, PitotReasm.drop_none]
  rw [PitotReasm.find, List.find?_eq_none]
  intro x hx hk
  exact hn.1 (List.mem_map.2 ⟨x, hx, by simpa using hk⟩)

theorem field0 (w : World) (x y : Value) : (Instr.field 73 (.agg #[x, y]) 0).run Try.prog w = .ok x w := by
  simp [Instr.field, run_underlying Try.underlying73, asAgg, part]
theorem zero73 (w : World) : (zeroValue 73).run Try.prog w = .ok bz w := by kernel_rfl
theorem look_one {w : World} {mb n : Nat} {D : DataW Value} {l : List (Bg K UInt8)} {dv : K → Value} (hm : w.ownsMap Try.prog 52 HE mb n D) (hr : Rep D l dv) (k : K) :
    (Instr.lookup 68 (.map (some mb)) k.val false).run Try.prog w = .ok (bval (find l k) (dv k)) w := by
  obtain ⟨v, ps, hrun, hv⟩ := hm.lookup law52 Try.underlying68 (zero73 w) (zd := .held bz) (zp := []) rfl (key_kl k)
  rw [(hr k).2] at hv
  simp only [HE, Option.some.injEq, Prod.mk.injEq, DataW.held.injEq] at hv
  rw [hrun, hv.1]
theorem look_two {w : World} {mb n : Nat} {D : DataW Value} {l : List (Bg K UInt8)} {dv : K → Value} (hm : w.ownsMap Try.prog 52 HE mb n D) (hr : Rep D l dv) (k : K) :
    (Instr.lookup 68 (.map (some mb)) k.val true).run Try.prog w = .ok (.tuple #[bval (find l k) (dv k), .bool (find l k).isSome]) w := by
  obtain ⟨v, ps, hrun, hv⟩ := hm.look_ok law52 Try.underlying68 (zero73 w) (zd := .held bz) (zp := []) rfl (key_kl k)
  rw [(hr k).2] at hv
  simp only [HE, Option.some.injEq, Prod.mk.injEq, DataW.held.injEq] at hv
  rw [hrun, hv.1, (hr k).1]

/-- A number of the table's own is stored. -/
theorem Tab.set {base : Nat} {w : World} {p : Nat} {most wait : Int} {t t' : Tb K UInt8} {mb n : Nat} {D : DataW Value} {ov : Value} {dv : K → Value} (h : Tab base w p most wait t mb n D ov dv) (i : Nat) (v : Value) (hl : t'.l = t.l)
    (hL : (w.setCell ⟨p, i, none⟩ v).heap[p]? = some (tabC most wait t'.now mb ov t'.dr)) : Tab base (w.setCell ⟨p, i, none⟩ v) p most wait t' mb n D ov dv ∧ Fr base w (w.setCell ⟨p, i, none⟩ v) := by
  have L := h.tab
  have hmp : mb ≠ p := fun e => by
    subst e
    obtain ⟨es, cl, hm, _⟩ := h.map
    rw [hm] at L; cases L
  refine ⟨⟨h.hp, h.hm, hL, h.map.setCell (a := ⟨p, i, none⟩) hmp _, hl ▸ h.rep, hl ▸ h.size, ?_, ?_, by rw [hl]; exact h.apart⟩, Fr.grown (Bi.grown_set p i _) h.hp h.lt.2.2 L (.inl rfl)⟩
  · rw [hl]
    refine h.row.kept (Bi.grown_set p i _) ?_
    rcases h.row.2 with ⟨e, _⟩ | ⟨g, cap, cur, e, _, hg, _⟩
    · left; rw [e]; rfl
    · right
      rw [e]
      intro e2
      simp [Value.ownBlock] at e2
      subst e2
      rw [L] at hg; injection hg with hg; injection hg with _ e2; exact absurd e2 (by decide)
  · rw [hl]
    intro c hc
    refine (h.bytes c hc).of_block fun g cs fz _ hb => ?_
    have n2 : g ≠ p := fun e => by subst e; rw [hb] at L; injection L with L; injection L with _ e2; exact absurd e2 (by decide)
    exact (Below.heap_setCell w _ _ g n2).trans hb

set_option maxHeartbeats 1000000 in
theorem pass_nil (w : World) (n : Int) : Calls Try.prog 12 #[.pointer none, .int .i64 n] w fun e w' => e = .returned (.int .i64 2) ∧ w' = w := by
  go_enter Try.func12, Try.ntmps12
  go_wp2
  go_returns
  exact ⟨rfl, rfl⟩

set_option maxHeartbeats 1000000 in
theorem pass_bad {base : Nat} {w : World} {p : Nat} {most wait : Int} {t : Tb K UInt8} (h : TabAt base w p most wait t) (n : Int) (hn : passE t n ≠ 0) : Calls Try.prog 12 #[.pointer (some ⟨p, 0, none⟩), .int .i64 n] w fun e w' => e = .returned (.int .i64 (passE t n)) ∧ w' = w := by
  obtain ⟨mb, m, D, ov, dv, h⟩ := h
  have hc : w.cell? ⟨p, 2, none⟩ = some (.int .i64 t.now) := lies_cell h.tab 2
  clear h
  obtain ⟨R, HR⟩ : ∃ R, Hid (R = passE t n) := ⟨_, rfl⟩
  rw [← HR.out]
  have hR := HR.out
  unfold passE at hR hn
  by_cases h1 : 1125899906842624 < n
  · rw [if_pos h1] at hR
    subst hR
    clear HR hn
    go_enter Try.func12, Try.ntmps12
    go_wp2
    go_returns
    exact ⟨rfl, rfl⟩
  · rw [if_neg h1] at hR hn
    by_cases h2 : n < t.now
    · rw [if_pos h2] at hR
      subst hR
      clear HR hn
      go_enter Try.func12, Try.ntmps12
      go_wp2
      go_returns
      exact ⟨rfl, rfl⟩
    · rw [if_neg h2] at hn
      exact absurd rfl hn

set_option maxHeartbeats 4000000 in
theorem pass_ok {base : Nat} {w : World} {p : Nat} {most : Nat} {wait : Int} {t : Tb K UInt8} (h : TabAt base w p most wait t) (hG : Good most t) (hmost : most ≤ 64) (hdr : t.dr ≤ 100000000000) (hw0 : 0 ≤ wait) (hw1 : wait ≤ 1125899906842624) (n : Int) (hn : passE t n = 0) :
    Calls Try.prog 12 #[.pointer (some ⟨p, 0, none⟩), .int .i64 n] w fun e w' => e = .returned (.int .i64 0) ∧ TabAt base w' p most wait (passed t wait n) ∧ Fr base w w' := by
  obtain ⟨mb, m, D, ov, dv, h⟩ := h
  have hc : w.cell? ⟨p, 2, none⟩ = some (.int .i64 t.now) := lies_cell h.tab 2
  have hf := lies_frozen h.tab 2
  have h1 : ¬ 1125899906842624 < n := by intro e; simp [passE, e] at hn
  have h2 : ¬ n < t.now := by intro e; simp [passE, h1, e] at hn
  obtain ⟨N0, HN0⟩ : ∃ x, Hid (x = t.now) := ⟨_, rfl⟩
  have hn0 : 0 ≤ n := by have := hG.now0; omega
  have T1 := h.set (t' := ⟨t.l, n, t.dr⟩) 2 (.int .i64 n) rfl (lies_set h.tab 2 _)
  have HT1 := Lib.hid T1; clear T1
  have HG := Lib.hid hG; clear hG
  have H2 := Lib.hid h2
  rw [← HN0.out] at hc h2
  clear h hn
  go_enter Try.func12, Try.ntmps12
  go_wp2
  go_loopg [] t.l.length (fun gg wr => ∃ j, j ≤ t.l.length ∧ t.l.length - j ≤ gg ∧ TabAt base wr p most wait ⟨t.l.drop j, n, t.dr + j⟩ ∧ (∀ b ∈ t.l.take j, ¬ n - b.t0 ≤ wait) ∧ Fr base w wr)
  case atStart => exact ⟨0, Nat.zero_le _, Nat.le_refl _, ⟨mb, m, D, ov, dv, by simpa using HT1.out.1⟩, by simp, HT1.out.2⟩
  case round =>
    obtain ⟨j, hj, hgg, hT, hexp, hF⟩ := hrel
    obtain ⟨mb1, m1, D1, ov1, dv1, hT⟩ := hT
    have hF := Lib.hid hF
    have hexp := Lib.hid hexp
    by_cases hlt : j < t.l.length
    · have hld : t.l.drop j = t.l[j] :: t.l.drop (j + 1) := List.drop_eq_getElem_cons hlt
      have hmem : t.l[j] ∈ t.l := List.getElem_mem hlt
      have htake : t.l.take (j + 1) = t.l.take j ++ [t.l[j]] := List.take_succ_eq_append_getElem hlt
      have hsort : ∀ b ∈ t.l.drop (j + 1), t.l[j].t0 ≤ b.t0 := by
        have := HG.out.sorted.sublist (List.drop_sublist j t.l)
        rw [hld] at this
        exact (List.pairwise_cons.1 this).1
      have hnod : ((t.l[j] :: t.l.drop (j + 1)).map (·.k)).Nodup := by rw [← hld]; exact (HG.out.fine.sub (List.drop_sublist j t.l)).once
      have hfine : Fine (t.l.drop j) := HG.out.fine.sub (List.drop_sublist j t.l)
      have htm := HG.out.times _ hmem
      have hroom := HG.out.room
      generalize t.l[j] = c at hld hmem htake hsort hnod htm
      have hrow := hT.row
      simp only [hld, List.map_cons, List.length_cons] at hrow
      obtain ⟨o, cap, rfl, hob, hon, hrow⟩ := RowK.of_own hrow (by omega)
      have hat := hrow.at 0 (by simp)
      simp only [Nat.zero_mul, List.getElem_cons_zero] at hat
      have hfind : find (t.l.drop j) c.k = some c := by rw [hld, find, PitotReasm.find_cons, if_pos rfl]
      have hlook : ∀ q, (Instr.lookup 68 (.map (some mb1)) c.k.val false).run Try.prog (wr.drewN q) = .ok (.agg #[.int .i64 c.t0, dv1 c.k]) (wr.drewN q) := fun q => by
        have := look_one (w := wr.drewN q) (hT.drewN q).map hT.rep c.k
        simp only [hfind, bval] at this
        exact this
      have hlook0 := hlook 0
      have hc4 : wr.cell? ⟨p, 4, none⟩ = some (.slice (some ⟨o, 0, none⟩) ((t.l.drop (j + 1)).length + 1) cap) := lies_cell hT.tab 4
      have hc3 : wr.cell? ⟨p, 3, none⟩ = some (.map (some mb1)) := lies_cell hT.tab 3
      have hc1 : wr.cell? ⟨p, 1, none⟩ = some (.int .i64 wait) := lies_cell hT.tab 1
      obtain ⟨M, HM⟩ : ∃ M, Hid (M = (t.l.drop (j + 1)).length) := ⟨_, rfl⟩
      rw [← HM.out] at hc4
      have hM1 : M ≤ 64 := by rw [HM.out, List.length_drop]; omega
      have Hat := Lib.hid hat
      obtain ⟨k0, k1, k2, k3, k4, k5, k6, k7, k8, k9⟩ := hat
      have HC := Lib.hid (And.intro hc4 (And.intro hc3 hc1))
      obtain ⟨T0, HT0⟩ : ∃ T0, Hid (T0 = c.t0) := ⟨_, rfl⟩
      rw [← HT0.out] at htm hlook hlook0
      have HN := Lib.hid (show T0 ≤ n by have := H2.out; omega)
      have htn := HN.out
      obtain ⟨V, HV⟩ : ∃ V, Hid (V = dv1 c.k) := ⟨_, rfl⟩
      rw [← HV.out] at hlook hlook0
      simp only [K.val] at hlook hlook0
      have hwr : wrap64 (n - T0) = n - T0 := by rw [wrap64]; omega
      have hfield := fun w => field0 w (.int .i64 T0) V
      by_cases hex : n - T0 ≤ wait
      · have hend2 : Hid (TabAt base wr p most wait (passed t wait n)) := by
          show TabAt _ _ _ _ _ _
          rw [passed_of hj hexp.out (PitotReasm.keep_all (by
            intro b hb
            rw [hld] at hb
            rcases List.mem_cons.1 hb with rfl | hb
            · rw [← HT0.out]; exact hex
            · have := hsort b hb; rw [← HT0.out] at this; omega))]
          exact ⟨_, _, _, _, _, hT⟩
        have hd : decide (wait < n - T0) = false := decide_eq_false (by omega)
        have HTT := Lib.hid hT; clear hT
        have HL := Lib.hid (And.intro hld (And.intro htake hsort)); clear hld htake hsort
        clear hnod hfine htm hmem hrow hfind
        go_upto_region 8 with (fail)
        go_quiet (fail)
        go_wp2
        go_returns
        obtain ⟨_, _, _, _, _, hh⟩ := hend2.out
        exact ⟨rfl, ⟨_, _, _, _, _, hh.drewN nq⟩, hF.out.drewN nq⟩
      · have hd : decide (wait < n - T0) = true := decide_eq_true (by omega)
        have hG2 : ∀ q, Calls Try.prog 23 #[.pointer (some ⟨p, 0, none⟩), c.k.val] (wr.drewN q) fun e w' => e = .returned (.tuple #[]) ∧ TabAt base w' p most wait ⟨t.l.drop (j + 1), n, t.dr + (j + 1)⟩ ∧ Fr base (wr.drewN q) w' := fun q => by
          have := giveUp_any ⟨_, _, _, _, _, hT.drewN q⟩ hfine (by simp only; omega) c.k c hfind
          simp only [hld, drop_head hnod] at this
          exact this
        have HTT := Lib.hid hT; clear hT
        have HL := Lib.hid (And.intro hld (And.intro htake hsort)); clear hld htake hsort
        clear hnod hfine htm hmem hrow hfind
        simp only [K.val] at hG2
        have HG2 := Lib.hid hG2; clear hG2
        go_upto_region 8 with (fail)
        go_quiet (fail)
        go_wp2_with (go_at_call 23; (with_reducible refine (HG2.out _).mono ?_); rintro e w2 ⟨rfl, hT2, hF2⟩)
        go_roundg (t.l.length - (j + 1))
        case measure => omega
        case rel =>
          refine ⟨j + 1, by omega, Nat.le_refl _, hT2, ?_, (hF.out.drewN nq).trans hF2⟩
          rw [HL.out.2.1]
          intro b hb
          rcases List.mem_append.1 hb with hb | hb
          · exact hexp.out b hb
          · simp only [List.mem_singleton] at hb
            subst hb
            rw [← HT0.out]; exact hex
    · have hend : t.l.drop j = [] := List.drop_of_length_le (by omega)
      have hrow := hT.row
      simp only [hend] at hrow
      obtain ⟨A, cap, rfl⟩ : ∃ A cap, ov1 = .slice A 0 cap := by
        rcases hrow.2 with ⟨e, _⟩ | ⟨g, cap, cur, e, _⟩
        · exact ⟨none, 0, e⟩
        · exact ⟨_, cap, e⟩
      have hc4 : wr.cell? ⟨p, 4, none⟩ = some (.slice A 0 cap) := lies_cell hT.tab 4
      have hend2 : Hid (TabAt base wr p most wait (passed t wait n)) := by
        show TabAt _ _ _ _ _ _
        rw [passed_of hj hexp.out (by rw [hend]; rfl)]
        exact ⟨_, _, _, _, _, hT⟩
      clear hrow
      have HTT := Lib.hid hT; clear hT
      go_upto_region 8 with (fail)
      go_quiet (fail)
      go_wp2
      go_returns
      obtain ⟨_, _, _, _, _, hh⟩ := hend2.out
      exact ⟨rfl, ⟨_, _, _, _, _, hh.drewN nq⟩, hF.out.drewN nq⟩
end Go.Proofs.Ytgdjcoodjdckkaa
