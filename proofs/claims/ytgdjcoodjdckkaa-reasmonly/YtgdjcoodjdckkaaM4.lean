/- Merged: Fo, Ps, Jr, Mo. -/
import Derived.Test.YtgdjcoodjdckkaaM3
import Derived.BigQuiet
import Derived.Deep.LoopGhost
set_option linter.unusedVariables false
/- Contracts of forget and giveUp. -/
set_option maxRecDepth 100000
namespace Go.Proofs.Ytgdjcoodjdckkaa
open Go.RowKit Go.Proofs.PitotIp Go.Maps
open Go.Proofs.PitotReasm (Bg Tb Fine)
open Go.Proofs.Ytgdjcoodjdckkaa.Bi (lies_lt lies_cell lies_frozen lies_alloc lies_set)

/-- Blocks of cells but the table's and the order's own are as they were. -/
def Fk (ov : Value) (w w' : World) : Prop := ∀ (kb : Nat) (cs : Array Value) (ty : TypeId) (fr : Nat × Nat), ty ≠ 70 → some kb ≠ ov.ownBlock → w.heap[kb]? = some (Obj.cells cs ty fr) → w'.heap[kb]? = some (Obj.cells cs ty fr)
theorem Fk.of {ov : Value} {w w' : World} (h : Below w.heap.size w w') : Fk ov w w' := fun k _ _ _ _ _ e => (h.block k (Array.getElem?_eq_some_iff.1 e).1).trans e
theorem Fk.trans {ov : Value} {w w1 w2 : World} (h : Fk ov w w1) (g : Fk ov w1 w2) : Fk ov w w2 := fun k cs ty fr ht hk e => g k cs ty fr ht hk (h k cs ty fr ht hk e)

/-- A Key is taken out of the map, and out of the order. -/
theorem Tab.gone {base : Nat} {V w1 w2 : World} {p : Nat} {most wait : Int} {t : Tb K UInt8} {mb n : Nat} {D : DataW Value} {o m cap : Nat} {dv : K → Value} {k : K} {b : Bg K UInt8} {l1 l2 : List K}
    (h : Tab base V p most wait t mb n D (.slice (some ⟨o, 0, none⟩) m cap) dv) (hob : base ≤ o) (hf : Fine t.l) (hk : find t.l k = some b) (he : (drop t.l k).map (·.k) = l1 ++ l2) (hR0 : RowK V o cap (l1 ++ k :: l2))
    (hT : V.mapTurned w1 mb) (hO : w1.ownsMap Try.prog 52 HE mb n (D.del (kl k))) (hg : w1.grownBy w2 (some o)) (hR : RowK w2 o cap (l1 ++ l2)) :
    Tab base (w2.setCell ⟨p, 4, none⟩ (.slice (some ⟨o, 0, none⟩) (l1 ++ l2).length cap)) p most wait ⟨drop t.l k, t.now, t.dr⟩ mb n (D.del (kl k)) (.slice (some ⟨o, 0, none⟩) (l1 ++ l2).length cap) dv ∧
      Fr base V (w2.setCell ⟨p, 4, none⟩ (.slice (some ⟨o, 0, none⟩) (l1 ++ l2).length cap)) ∧ Fk (.slice (some ⟨o, 0, none⟩) m cap) V (w2.setCell ⟨p, 4, none⟩ (.slice (some ⟨o, 0, none⟩) (l1 ++ l2).length cap)) := by
  have hlen : (l1 ++ l2).length = (drop t.l k).length := by rw [← he, List.length_map]
  obtain ⟨cur, hcur, _⟩ := hR0
  have L1 := map_other hT h.tab (by intro _ _ e; cases e)
  have C1 := map_other hT hcur (by intro _ _ e; cases e)
  have hpo : p ≠ o := fun e => by subst e; rw [L1] at C1; injection C1 with C1; injection C1 with _ e2; exact absurd e2 (by decide)
  have hmo : mb ≠ o := fun e => by
    subst e
    obtain ⟨es, cl, hm, _⟩ := hO
    rw [hm] at C1; cases C1
  have hmp : mb ≠ p := fun e => by
    subst e
    obtain ⟨es, cl, hm, _⟩ := hO
    rw [hm] at L1; cases L1
  have L2 : w2.heap[p]? = some (tabC most wait t.now mb (.slice (some ⟨o, 0, none⟩) m cap) t.dr) := (hg.block p (lies_lt L1) (by simpa using hpo)).trans L1
  have hbase := h.lt.2.2
  have hb1 : base ≤ w1.heap.size := by obtain ⟨es, cl, es', cl', hb', rfl⟩ := hT; simpa [ChangeMaps.setBlock] using hbase
  refine ⟨⟨h.hp, h.hm, lies_set L2 4 _, ?_, rep_del h.rep k, ?_, ?_, ?_, ?_⟩, ?_, ?_⟩
  · exact (hO.kept hg (by simpa using hmo)).setCell (a := ⟨p, 4, none⟩) hmp _
  · have h1 := size_del (k := kl k) (h.map.tidy law52)
    rw [(h.rep k).1, hk, Option.isSome_some, if_pos rfl] at h1
    have h2 : (drop t.l k).length + 1 = t.l.length := PitotReasm.drop_one hf.once hk
    have h3 := h.size
    show _ = (drop t.l k).length
    omega
  · have := (hR.own hob)
    rw [← hlen, he]
    exact this.kept (Bi.grown_set p 4 _) (.inr (by intro e; simp [Value.ownBlock] at e; exact hpo e.symm))
  · intro c hc
    have hc' : c ∈ t.l := drop_mem hc
    refine (h.bytes c hc').of_block fun g cs fz _ hb => ?_
    have B1 := map_other hT hb (by intro _ _ e; cases e)
    have n1 : g ≠ o := fun e => by subst e; rw [B1] at C1; injection C1 with C1; injection C1 with _ e2; exact absurd e2 (by decide)
    have n2 : g ≠ p := fun e => by subst e; rw [B1] at L1; injection L1 with L1; injection L1 with _ e2; exact absurd e2 (by decide)
    have B2 := (hg.block g (Array.getElem?_eq_some_iff.1 B1).1 (by simpa using n1)).trans B1
    exact (Below.heap_setCell w2 _ _ g n2).trans B2
  · intro c hc d hd hne
    exact h.apart c (drop_mem hc) d (drop_mem hd) hne
  · exact (Fr.turned hT h.hm).trans ((Fr.grown hg hob hb1 C1 (.inr (.inl rfl))).trans (Fr.grown (Bi.grown_set p 4 _) h.hp (Nat.le_trans hb1 hg.size) L2 (.inl rfl)))
  · intro kb cs ty fr hty hk e
    have B1 := map_other hT e (by intro _ _ e; cases e)
    have n1 : kb ≠ o := fun e1 => hk (by rw [e1]; rfl)
    have n2 : kb ≠ p := fun e1 => by subst e1; rw [B1] at L1; injection L1 with L1; injection L1 with _ e2; exact hty e2
    have B2 := (hg.block kb (Array.getElem?_eq_some_iff.1 B1).1 (by simpa using n1)).trans B1
    exact (Below.heap_setCell w2 _ _ kb n2).trans B2

set_option maxHeartbeats 4000000 in
theorem forget_tab {base : Nat} {w : World} {p : Nat} {most wait : Int} {t : Tb K UInt8} {mb n : Nat} {D : DataW Value} {ov : Value} {dv : K → Value} (h : Tab base w p most wait t mb n D ov dv) (hf : Fine t.l) (k : K) (b : Bg K UInt8) (hb : find t.l k = some b) :
    Calls Try.prog 37 #[.pointer (some ⟨p, 0, none⟩), k.val] w fun e w' => e = .returned (.tuple #[]) ∧ TabAt base w' p most wait ⟨drop t.l k, t.now, t.dr⟩ ∧ Fr base w w' ∧ Fk ov w w' := by
  obtain ⟨l1, l2, e1, hk1, hk2, e2⟩ := keys_split hf.once hb
  have hbase := h.lt.2.2
  have hlen : (l1 ++ k :: l2).length = t.l.length := by rw [← e1, List.length_map]
  have hrow := h.row
  rw [e1] at hrow
  obtain ⟨o, cap, rfl, hob, hon, hrow⟩ := RowK.of_own hrow (by rw [← hlen]; simp; omega)
  have H1 : Hid (Tab base (w.alloc k.obj) p most wait t mb n D (.slice (some ⟨o, 0, none⟩) t.l.length cap) dv) := h.below ((Below.refl _ w).alloc (Nat.le_refl _) _)
  have R1 : Hid (RowK (w.alloc k.obj) o cap (l1 ++ k :: l2)) := hrow.below ((Below.refl _ w).alloc (Nat.le_refl _) _) hrow.lt
  have C1 : Hid ((w.alloc k.obj).heap[w.heap.size]? = some k.obj) := heap_alloc_new w _
  have F1 : Hid (Fr base w (w.alloc k.obj)) := Fr.of ((Below.refl _ w).alloc (Nat.le_refl _) _) hbase
  have G1 : Hid (Fk (.slice (some ⟨o, 0, none⟩) t.l.length cap) w (w.alloc k.obj)) := Fk.of ((Below.refl _ w).alloc (Nat.le_refl _) _)
  obtain ⟨m, Hm⟩ : ∃ m, Hid (m = t.l.length) := ⟨_, rfl⟩
  have Hkey := Lib.hid (key_kl k)
  have hol := hrow.lt
  have hpl := h.lt.1
  have hbob := h.hp
  have hbmb := h.hm
  have HT := Lib.hid h
  clear h hrow
  have E1 := Lib.hid (And.intro e1 e2); clear e1 e2
  have E3 := Lib.hid (And.intro hk1 hk2); clear hk1 hk2
  have E4 := Lib.hid hlen; clear hlen
  have E5 := Lib.hid hon; clear hon
  rw [← Hm.out] at H1 G1 ⊢
  simp only [K.val]
  go_enter Try.func37, Try.ntmps37
  go_upto_region 1 with (fail)
  generalize hW : w.alloc k.obj = W at H1 R1 C1 F1 G1 ⊢
  have hWs : W.heap.size = w.heap.size + 1 := by rw [← hW]; simp
  clear hW
  have hc : W.cell? ⟨p, 3, none⟩ = some (.map (some mb)) := lies_cell H1.out.tab 3
  obtain ⟨c0, c1, c2, c3, c4, c5, c6, c7, c8, c9⟩ := cells10 C1.out
  simp only [Nat.zero_add] at c1 c2 c3 c4 c5 c6 c7 c8 c9
  go_still_tail 5, (by kernel_rfl)
  refine wpList_delete_own _ rfl _ _ 68 52 rfl 73 law52 Try.underlying68 HE mb n D rfl H1.out.map _ _ rfl Hkey.out ?_
  intro w1 hown1 hturn1
  have HO := Lib.hid hown1; clear hown1
  have HT1 := Lib.hid hturn1; clear hturn1
  clear hc c0 c1 c2 c3 c4 c5 c6 c7 c8 c9
  have HV : Hid (Tab base W.drew p most wait t mb n D (.slice (some ⟨o, 0, none⟩) m cap) dv) := H1.out.drewN 1
  have L1 : w1.heap[p]? = some (tabC most wait t.now mb (.slice (some ⟨o, 0, none⟩) m cap) t.dr) := map_other HT1.out HV.out.tab (by intro _ _ e; cases e)
  have hc : w1.cell? ⟨p, 4, none⟩ = some (.slice (some ⟨o, 0, none⟩) m cap) := lies_cell L1 4
  have K1 : w1.heap[w.heap.size]? = some k.obj := map_other HT1.out (o := k.obj) C1.out (by intro _ _ e; cases e)
  have RV : RowK W.drew o cap (l1 ++ k :: l2) := R1.out
  have RW : RowK w1 o cap (l1 ++ k :: l2) := by
    obtain ⟨cur, h1, h2⟩ := RV
    exact ⟨cur, map_other HT1.out h1 (by intro _ _ e; cases e), h2⟩
  have HD := Lib.hid (delete_any w1 o cap w.heap.size m k l1 l2 E3.out.1 E3.out.2 RW K1 (by omega) (by rw [Hm.out, E4.out]))
  have hpo : p ≠ o := fun e => by
    obtain ⟨cur, h1, _⟩ := RW
    subst e; rw [L1] at h1; injection h1 with h1; injection h1 with _ e2; exact absurd e2 (by decide)
  have LL := Lib.hid L1; clear L1
  clear K1 RV RW
  go_frame
  go_wp2_with (go_at_call 44; (with_reducible refine HD.out.mono ?_); rintro e w2 ⟨rfl, hR2, hg2⟩
               (have L2 := Lib.hid ((hg2.block p (lies_lt LL.out) (by simpa using hpo)).trans LL.out))
               (have hc2 := lies_cell L2.out 4)
               (have hf2 := lies_frozen L2.out 4)
               (replace hc2 : w2.cell? ⟨p, 4, none⟩ = some (.slice (some ⟨o, 0, none⟩) m cap) := hc2)
               (have HR2 := Lib.hid (And.intro hR2 hg2)))
  go_returns
  obtain ⟨g1, g2, g3⟩ := HV.out.gone hob hf hb E1.out.2 R1.out HT1.out HO.out HR2.out.2 HR2.out.1
  rw [List.length_append] at g1 g2 g3
  exact ⟨rfl, ⟨mb, n, _, _, dv, g1⟩, (F1.out.drew).trans g2, Fk.trans (w1 := W.drew) G1.out g3⟩
theorem forget_any {base : Nat} {w : World} {p : Nat} {most wait : Int} {t : Tb K UInt8} (h : TabAt base w p most wait t) (hf : Fine t.l) (k : K) (b : Bg K UInt8) (hb : find t.l k = some b) :
    Calls Try.prog 37 #[.pointer (some ⟨p, 0, none⟩), k.val] w fun e w' => e = .returned (.tuple #[]) ∧ TabAt base w' p most wait ⟨drop t.l k, t.now, t.dr⟩ ∧ Fr base w w' := by
  obtain ⟨mb, n, D, ov, dv, h⟩ := h
  exact (forget_tab h hf k b hb).mono fun e w' x => ⟨x.1, x.2.1, x.2.2.1⟩

set_option maxHeartbeats 4000000 in
theorem giveUp_tab {base : Nat} {w : World} {p : Nat} {most wait : Int} {t : Tb K UInt8} {mb0 n0 : Nat} {D0 : DataW Value} {ov0 : Value} {dv0 : K → Value} (h : Tab base w p most wait t mb0 n0 D0 ov0 dv0) (hf : Fine t.l) (hdr : t.dr ≤ 1000000000000) (k : K) (b : Bg K UInt8) (hb : find t.l k = some b) :
    Calls Try.prog 23 #[.pointer (some ⟨p, 0, none⟩), k.val] w fun e w' => e = .returned (.tuple #[]) ∧ TabAt base w' p most wait ⟨drop t.l k, t.now, t.dr + 1⟩ ∧ Fr base w w' ∧ Fk ov0 w w' := by
  have hbase := h.lt.2.2
  have HF := Lib.hid (forget_tab (h.below ((Below.refl _ w).alloc (Nat.le_refl _) k.obj)) hf k b hb)
  have F1 : Hid (Fr base w (w.alloc k.obj)) := Fr.of ((Below.refl _ w).alloc (Nat.le_refl _) _) hbase
  obtain ⟨dr, Hdr⟩ : ∃ dr, Hid (dr = t.dr) := ⟨_, rfl⟩
  rw [← Hdr.out] at hdr
  clear h
  simp only [K.val] at HF ⊢
  go_enter Try.func23, Try.ntmps23
  go_wp2_with (first
    | (go_at_call 37; (with_reducible refine HF.out.mono ?_); rintro e w2 ⟨rfl, hT2, hg2, hk2⟩
       (have HK2 := Lib.hid hk2; clear hk2)
       (obtain ⟨mb, n, D, ov, dv, h2⟩ := hT2)
       (have L2 := h2.tab)
       (simp only at L2)
       (rw [← Hdr.out] at L2)
       (have hc2 : w2.cell? ⟨p, 5, none⟩ = some (.int .i64 dr) := lies_cell L2 5)
       (have hf2 := lies_frozen L2 5)
       (have L2 := Lib.hid L2)
       (have H2 := Lib.hid h2; clear h2)))
  go_returns
  have hT := H2.out
  have L3 := lies_set L2.out 5 (.int .i64 (dr + 1))
  have hmp : mb ≠ p := fun e => by
    subst e
    obtain ⟨es, cl, hm, _⟩ := hT.map
    rw [hm] at L2; cases L2.out
  have hb2 := hT.lt.2.2
  refine ⟨rfl, ⟨mb, n, D, ov, dv, hT.hp, hT.hm, ?_, hT.map.setCell (a := ⟨p, 5, none⟩) hmp _, hT.rep, hT.size, ?_, ?_, hT.apart⟩, F1.out.trans (hg2.trans (Fr.grown (Bi.grown_set p 5 _) hT.hp hb2 L2.out (.inl rfl))), Fk.trans (Fk.of ((Below.refl _ w).alloc (Nat.le_refl _) _)) (Fk.trans HK2.out fun kb cs ty fr hty _ e => ?_)⟩
  · rw [← Hdr.out]
    exact L3
  · refine hT.row.kept (Bi.grown_set p 5 _) ?_
    rcases hT.row.2 with ⟨e, _⟩ | ⟨g, cap, cur, e, _, hg, _⟩
    · left; rw [e]; rfl
    · right
      rw [e]
      intro e2
      simp [Value.ownBlock] at e2
      subst e2
      rw [L2.out] at hg; injection hg with hg; injection hg with _ e2; exact absurd e2 (by decide)
  · intro c hc
    refine (hT.bytes c hc).of_block fun g cs fz _ hb => ?_
    have n2 : g ≠ p := fun e => by subst e; have := L2.out; rw [hb] at this; injection this with this; injection this with _ e2; exact absurd e2 (by decide)
    exact (Below.heap_setCell w2 _ _ g n2).trans hb
  · have n2 : kb ≠ p := fun e1 => by subst e1; have := L2.out; rw [e] at this; injection this with this; injection this with _ e2; exact hty e2
    exact (Below.heap_setCell w2 _ _ kb n2).trans e
theorem giveUp_any {base : Nat} {w : World} {p : Nat} {most wait : Int} {t : Tb K UInt8} (h : TabAt base w p most wait t) (hf : Fine t.l) (hdr : t.dr ≤ 1000000000000) (k : K) (b : Bg K UInt8) (hb : find t.l k = some b) :
    Calls Try.prog 23 #[.pointer (some ⟨p, 0, none⟩), k.val] w fun e w' => e = .returned (.tuple #[]) ∧ TabAt base w' p most wait ⟨drop t.l k, t.now, t.dr + 1⟩ ∧ Fr base w w' := by
  obtain ⟨mb, n, D, ov, dv, h⟩ := h
  exact (giveUp_tab h hf hdr k b hb).mono fun e w' x => ⟨x.1, x.2.1, x.2.2.1⟩
end Go.Proofs.Ytgdjcoodjdckkaa
/- Contract of Pass. -/
set_option maxRecDepth 100000
namespace Go.Proofs.Ytgdjcoodjdckkaa
open Go.RowKit Go.Proofs.PitotIp Go.Maps
open Go.Proofs.PitotReasm (Bg Tb Fine passed passE keep)
open Go.Proofs.Ytgdjcoodjdckkaa.Bi (lies_lt lies_cell lies_frozen lies_alloc lies_set)

/-- What is so of every table. -/
structure Good (most : Nat) (t : Tb K UInt8) : Prop where
  fine : Fine t.l
  sorted : t.l.Pairwise fun a b => a.t0 ≤ b.t0
  times : ∀ b ∈ t.l, 0 ≤ b.t0 ∧ b.t0 ≤ t.now
  now0 : 0 ≤ t.now
  nowM : t.now ≤ 1125899906842624
  lens : ∀ b ∈ t.l, b.d.length ≤ 8200
  room : t.l.length ≤ most

theorem keep_rest {l : List (Bg K UInt8)} {wait n : Int} {j : Nat} (hj : ∀ b ∈ l.take j, ¬ n - b.t0 ≤ wait) : keep l wait n = keep (l.drop j) wait n := by
  conv => lhs; rw [← List.take_append_drop j l]
  unfold keep
  rw [List.filter_append, List.filter_eq_nil_iff.2 (fun b hb => by simpa using hj b hb), List.nil_append]
theorem passed_of {t : Tb K UInt8} {wait n : Int} {j : Nat} (hj : j ≤ t.l.length) (he : ∀ b ∈ t.l.take j, ¬ n - b.t0 ≤ wait) (hk : keep (t.l.drop j) wait n = t.l.drop j) : passed t wait n = ⟨t.l.drop j, n, t.dr + j⟩ := by
  unfold passed
  rw [keep_rest he, hk, List.length_drop, show t.l.length - (t.l.length - j) = j by omega]
theorem drop_head {c : Bg K UInt8} {r : List (Bg K UInt8)} (hn : ((c :: r).map (·.k)).Nodup) : drop (c :: r) c.k = r := by
  simp only [List.map_cons, List.nodup_cons] at hn
  rw [drop, PitotReasm.drop_cons, if_pos rfl, PitotReasm.drop_none]
  rw [PitotReasm.find, List.find?_eq_none]
  intro x hx hk
  exact hn.1 (List.mem_map.2 ⟨x, hx, by simpa using hk⟩)

theorem field0 (w : World) (x y : Value) : (Instr.field 73 (.agg #[x, y]) 0).run Try.prog w = .ok x w := by
  simp [Instr.field, run_underlying Try.underlying73, asAgg, part]
theorem zero73 (w : World) : (zeroValue 73).run Try.prog w = .ok bz w := by kernel_rfl
theorem look_one {w : World} {mb n : Nat} {D : DataW Value} {l : List (Bg K UInt8)} {dv : K → Value} (hm : w.ownsMap Try.prog 52 HE mb n D) (hr : Rep D l dv) (k : K) :
    (Instr.lookup 68 (.map (some mb)) k.val false).run Try.prog w = .ok (bval (find l k) (dv k)) w := by
  obtain ⟨v, ps, hrun, hv⟩ := hm.lookup law52 Try.underlying68 (zero73 w) (zd := .held bz) (zp := []) rfl (key_kl k)
  rw [(hr k).2] at hv
  simp only [HE, Option.some.injEq, Prod.mk.injEq, DataW.held.injEq] at hv
  rw [hrun, hv.1]
theorem look_two {w : World} {mb n : Nat} {D : DataW Value} {l : List (Bg K UInt8)} {dv : K → Value} (hm : w.ownsMap Try.prog 52 HE mb n D) (hr : Rep D l dv) (k : K) :
    (Instr.lookup 68 (.map (some mb)) k.val true).run Try.prog w = .ok (.tuple #[bval (find l k) (dv k), .bool (find l k).isSome]) w := by
  obtain ⟨v, ps, hrun, hv⟩ := hm.look_ok law52 Try.underlying68 (zero73 w) (zd := .held bz) (zp := []) rfl (key_kl k)
  rw [(hr k).2] at hv
  simp only [HE, Option.some.injEq, Prod.mk.injEq, DataW.held.injEq] at hv
  rw [hrun, hv.1, (hr k).1]

/-- A number of the table's own is stored. -/
theorem Tab.set {base : Nat} {w : World} {p : Nat} {most wait : Int} {t t' : Tb K UInt8} {mb n : Nat} {D : DataW Value} {ov : Value} {dv : K → Value} (h : Tab base w p most wait t mb n D ov dv) (i : Nat) (v : Value) (hl : t'.l = t.l)
    (hL : (w.setCell ⟨p, i, none⟩ v).heap[p]? = some (tabC most wait t'.now mb ov t'.dr)) : Tab base (w.setCell ⟨p, i, none⟩ v) p most wait t' mb n D ov dv ∧ Fr base w (w.setCell ⟨p, i, none⟩ v) := by
  have L := h.tab
  have hmp : mb ≠ p := fun e => by
    subst e
    obtain ⟨es, cl, hm, _⟩ := h.map
    rw [hm] at L; cases L
  refine ⟨⟨h.hp, h.hm, hL, h.map.setCell (a := ⟨p, i, none⟩) hmp _, hl ▸ h.rep, hl ▸ h.size, ?_, ?_, by rw [hl]; exact h.apart⟩, Fr.grown (Bi.grown_set p i _) h.hp h.lt.2.2 L (.inl rfl)⟩
  · rw [hl]
    refine h.row.kept (Bi.grown_set p i _) ?_
    rcases h.row.2 with ⟨e, _⟩ | ⟨g, cap, cur, e, _, hg, _⟩
    · left; rw [e]; rfl
    · right
      rw [e]
      intro e2
      simp [Value.ownBlock] at e2
      subst e2
      rw [L] at hg; injection hg with hg; injection hg with _ e2; exact absurd e2 (by decide)
  · rw [hl]
    intro c hc
    refine (h.bytes c hc).of_block fun g cs fz _ hb => ?_
    have n2 : g ≠ p := fun e => by subst e; rw [hb] at L; injection L with L; injection L with _ e2; exact absurd e2 (by decide)
    exact (Below.heap_setCell w _ _ g n2).trans hb

set_option maxHeartbeats 1000000 in
theorem pass_nil (w : World) (n : Int) : Calls Try.prog 12 #[.pointer none, .int .i64 n] w fun e w' => e = .returned (.int .i64 2) ∧ w' = w := by
  go_enter Try.func12, Try.ntmps12
  go_wp2
  go_returns
  exact ⟨rfl, rfl⟩

set_option maxHeartbeats 1000000 in
theorem pass_bad {base : Nat} {w : World} {p : Nat} {most wait : Int} {t : Tb K UInt8} (h : TabAt base w p most wait t) (n : Int) (hn : passE t n ≠ 0) : Calls Try.prog 12 #[.pointer (some ⟨p, 0, none⟩), .int .i64 n] w fun e w' => e = .returned (.int .i64 (passE t n)) ∧ w' = w := by
  obtain ⟨mb, m, D, ov, dv, h⟩ := h
  have hc : w.cell? ⟨p, 2, none⟩ = some (.int .i64 t.now) := lies_cell h.tab 2
  clear h
  obtain ⟨R, HR⟩ : ∃ R, Hid (R = passE t n) := ⟨_, rfl⟩
  rw [← HR.out]
  have hR := HR.out
  unfold passE at hR hn
  by_cases h1 : 1125899906842624 < n
  · rw [if_pos h1] at hR
    subst hR
    clear HR hn
    go_enter Try.func12, Try.ntmps12
    go_wp2
    go_returns
    exact ⟨rfl, rfl⟩
  · rw [if_neg h1] at hR hn
    by_cases h2 : n < t.now
    · rw [if_pos h2] at hR
      subst hR
      clear HR hn
      go_enter Try.func12, Try.ntmps12
      go_wp2
      go_returns
      exact ⟨rfl, rfl⟩
    · rw [if_neg h2] at hn
      exact absurd rfl hn

set_option maxHeartbeats 4000000 in
theorem pass_ok {base : Nat} {w : World} {p : Nat} {most : Nat} {wait : Int} {t : Tb K UInt8} (h : TabAt base w p most wait t) (hG : Good most t) (hmost : most ≤ 64) (hdr : t.dr ≤ 100000000000) (hw0 : 0 ≤ wait) (hw1 : wait ≤ 1125899906842624) (n : Int) (hn : passE t n = 0) :
    Calls Try.prog 12 #[.pointer (some ⟨p, 0, none⟩), .int .i64 n] w fun e w' => e = .returned (.int .i64 0) ∧ TabAt base w' p most wait (passed t wait n) ∧ Fr base w w' := by
  obtain ⟨mb, m, D, ov, dv, h⟩ := h
  have hc : w.cell? ⟨p, 2, none⟩ = some (.int .i64 t.now) := lies_cell h.tab 2
  have hf := lies_frozen h.tab 2
  have h1 : ¬ 1125899906842624 < n := by intro e; simp [passE, e] at hn
  have h2 : ¬ n < t.now := by intro e; simp [passE, h1, e] at hn
  obtain ⟨N0, HN0⟩ : ∃ x, Hid (x = t.now) := ⟨_, rfl⟩
  have hn0 : 0 ≤ n := by have := hG.now0; omega
  have T1 := h.set (t' := ⟨t.l, n, t.dr⟩) 2 (.int .i64 n) rfl (lies_set h.tab 2 _)
  have HT1 := Lib.hid T1; clear T1
  have HG := Lib.hid hG; clear hG
  have H2 := Lib.hid h2
  rw [← HN0.out] at hc h2
  clear h hn
  go_enter Try.func12, Try.ntmps12
  go_wp2
  go_loopg [] t.l.length (fun gg wr => ∃ j, j ≤ t.l.length ∧ t.l.length - j ≤ gg ∧ TabAt base wr p most wait ⟨t.l.drop j, n, t.dr + j⟩ ∧ (∀ b ∈ t.l.take j, ¬ n - b.t0 ≤ wait) ∧ Fr base w wr)
  case atStart => exact ⟨0, Nat.zero_le _, Nat.le_refl _, ⟨mb, m, D, ov, dv, by simpa using HT1.out.1⟩, by simp, HT1.out.2⟩
  case round =>
    obtain ⟨j, hj, hgg, hT, hexp, hF⟩ := hrel
    obtain ⟨mb1, m1, D1, ov1, dv1, hT⟩ := hT
    have hF := Lib.hid hF
    have hexp := Lib.hid hexp
    by_cases hlt : j < t.l.length
    · have hld : t.l.drop j = t.l[j] :: t.l.drop (j + 1) := List.drop_eq_getElem_cons hlt
      have hmem : t.l[j] ∈ t.l := List.getElem_mem hlt
      have htake : t.l.take (j + 1) = t.l.take j ++ [t.l[j]] := List.take_succ_eq_append_getElem hlt
      have hsort : ∀ b ∈ t.l.drop (j + 1), t.l[j].t0 ≤ b.t0 := by
        have := HG.out.sorted.sublist (List.drop_sublist j t.l)
        rw [hld] at this
        exact (List.pairwise_cons.1 this).1
      have hnod : ((t.l[j] :: t.l.drop (j + 1)).map (·.k)).Nodup := by rw [← hld]; exact (HG.out.fine.sub (List.drop_sublist j t.l)).once
      have hfine : Fine (t.l.drop j) := HG.out.fine.sub (List.drop_sublist j t.l)
      have htm := HG.out.times _ hmem
      have hroom := HG.out.room
      generalize t.l[j] = c at hld hmem htake hsort hnod htm
      have hrow := hT.row
      simp only [hld, List.map_cons, List.length_cons] at hrow
      obtain ⟨o, cap, rfl, hob, hon, hrow⟩ := RowK.of_own hrow (by omega)
      have hat := hrow.at 0 (by simp)
      simp only [Nat.zero_mul, List.getElem_cons_zero] at hat
      have hfind : find (t.l.drop j) c.k = some c := by rw [hld, find, PitotReasm.find_cons, if_pos rfl]
      have hlook : ∀ q, (Instr.lookup 68 (.map (some mb1)) c.k.val false).run Try.prog (wr.drewN q) = .ok (.agg #[.int .i64 c.t0, dv1 c.k]) (wr.drewN q) := fun q => by
        have := look_one (w := wr.drewN q) (hT.drewN q).map hT.rep c.k
        simp only [hfind, bval] at this
        exact this
      have hlook0 := hlook 0
      have hc4 : wr.cell? ⟨p, 4, none⟩ = some (.slice (some ⟨o, 0, none⟩) ((t.l.drop (j + 1)).length + 1) cap) := lies_cell hT.tab 4
      have hc3 : wr.cell? ⟨p, 3, none⟩ = some (.map (some mb1)) := lies_cell hT.tab 3
      have hc1 : wr.cell? ⟨p, 1, none⟩ = some (.int .i64 wait) := lies_cell hT.tab 1
      obtain ⟨M, HM⟩ : ∃ M, Hid (M = (t.l.drop (j + 1)).length) := ⟨_, rfl⟩
      rw [← HM.out] at hc4
      have hM1 : M ≤ 64 := by rw [HM.out, List.length_drop]; omega
      have Hat := Lib.hid hat
      obtain ⟨k0, k1, k2, k3, k4, k5, k6, k7, k8, k9⟩ := hat
      have HC := Lib.hid (And.intro hc4 (And.intro hc3 hc1))
      obtain ⟨T0, HT0⟩ : ∃ T0, Hid (T0 = c.t0) := ⟨_, rfl⟩
      rw [← HT0.out] at htm hlook hlook0
      have HN := Lib.hid (show T0 ≤ n by have := H2.out; omega)
      have htn := HN.out
      obtain ⟨V, HV⟩ : ∃ V, Hid (V = dv1 c.k) := ⟨_, rfl⟩
      rw [← HV.out] at hlook hlook0
      simp only [K.val] at hlook hlook0
      have hwr : wrap64 (n - T0) = n - T0 := by rw [wrap64]; omega
      have hfield := fun w => field0 w (.int .i64 T0) V
      by_cases hex : n - T0 ≤ wait
      · have hend2 : Hid (TabAt base wr p most wait (passed t wait n)) := by
          show TabAt _ _ _ _ _ _
          rw [passed_of hj hexp.out (PitotReasm.keep_all (by
            intro b hb
            rw [hld] at hb
            rcases List.mem_cons.1 hb with rfl | hb
            · rw [← HT0.out]; exact hex
            · have := hsort b hb; rw [← HT0.out] at this; omega))]
          exact ⟨_, _, _, _, _, hT⟩
        have hd : decide (wait < n - T0) = false := decide_eq_false (by omega)
        have HTT := Lib.hid hT; clear hT
        have HL := Lib.hid (And.intro hld (And.intro htake hsort)); clear hld htake hsort
        clear hnod hfine htm hmem hrow hfind
        go_upto_region 8 with (fail)
        go_quiet (fail)
        go_wp2
        go_returns
        obtain ⟨_, _, _, _, _, hh⟩ := hend2.out
        exact ⟨rfl, ⟨_, _, _, _, _, hh.drewN nq⟩, hF.out.drewN nq⟩
      · have hd : decide (wait < n - T0) = true := decide_eq_true (by omega)
        have hG2 : ∀ q, Calls Try.prog 23 #[.pointer (some ⟨p, 0, none⟩), c.k.val] (wr.drewN q) fun e w' => e = .returned (.tuple #[]) ∧ TabAt base w' p most wait ⟨t.l.drop (j + 1), n, t.dr + (j + 1)⟩ ∧ Fr base (wr.drewN q) w' := fun q => by
          have := giveUp_any ⟨_, _, _, _, _, hT.drewN q⟩ hfine (by simp only; omega) c.k c hfind
          simp only [hld, drop_head hnod] at this
          exact this
        have HTT := Lib.hid hT; clear hT
        have HL := Lib.hid (And.intro hld (And.intro htake hsort)); clear hld htake hsort
        clear hnod hfine htm hmem hrow hfind
        simp only [K.val] at hG2
        have HG2 := Lib.hid hG2; clear hG2
        go_upto_region 8 with (fail)
        go_quiet (fail)
        go_wp2_with (go_at_call 23; (with_reducible refine (HG2.out _).mono ?_); rintro e w2 ⟨rfl, hT2, hF2⟩)
        go_roundg (t.l.length - (j + 1))
        case measure => omega
        case rel =>
          refine ⟨j + 1, by omega, Nat.le_refl _, hT2, ?_, (hF.out.drewN nq).trans hF2⟩
          rw [HL.out.2.1]
          intro b hb
          rcases List.mem_append.1 hb with hb | hb
          · exact hexp.out b hb
          · simp only [List.mem_singleton] at hb
            subst hb
            rw [← HT0.out]; exact hex
    · have hend : t.l.drop j = [] := List.drop_of_length_le (by omega)
      have hrow := hT.row
      simp only [hend] at hrow
      obtain ⟨A, cap, rfl⟩ : ∃ A cap, ov1 = .slice A 0 cap := by
        rcases hrow.2 with ⟨e, _⟩ | ⟨g, cap, cur, e, _⟩
        · exact ⟨none, 0, e⟩
        · exact ⟨_, cap, e⟩
      have hc4 : wr.cell? ⟨p, 4, none⟩ = some (.slice A 0 cap) := lies_cell hT.tab 4
      have hend2 : Hid (TabAt base wr p most wait (passed t wait n)) := by
        show TabAt _ _ _ _ _ _
        rw [passed_of hj hexp.out (by rw [hend]; rfl)]
        exact ⟨_, _, _, _, _, hT⟩
      clear hrow
      have HTT := Lib.hid hT; clear hT
      go_upto_region 8 with (fail)
      go_quiet (fail)
      go_wp2
      go_returns
      obtain ⟨_, _, _, _, _, hh⟩ := hend2.out
      exact ⟨rfl, ⟨_, _, _, _, _, hh.drewN nq⟩, hF.out.drewN nq⟩
end Go.Proofs.Ytgdjcoodjdckkaa
/- Contracts of judge and keyOf. -/
set_option maxRecDepth 100000
namespace Go.Proofs.Ytgdjcoodjdckkaa
open Go.RowKit Go.Proofs.PitotIp Go.Maps
open Go.Proofs.PitotReasm (Bg Tb Fine bad)
open Go.Proofs.Ytgdjcoodjdckkaa.Bi (lies_lt lies_cell lies_frozen lies_alloc lies_set)

/-- The Key of a packet. -/
structure Pk.Wf (p : Pk) : Prop where
  pr : (Lit.int .i64 p.pr).wf = true
  id : (Lit.int .i64 p.id).wf = true
def Pk.key (p : Pk) (h : p.Wf) : K := ⟨p.a, p.b, p.pr, p.id, h.pr, h.id⟩
abbrev Pk.d (p : Pk) : List UInt8 := p.s.data.toList
theorem Pk.d_length (p : Pk) : p.d.length = p.s.size := by rw [Pk.d, Array.length_toList]; rfl

set_option maxHeartbeats 1000000 in
theorem keyOf_any (p : Pk) (h : p.Wf) (w : World) : Calls Try.prog 38 #[p.val] w fun e w' => e = .returned (p.key h).val ∧ Below w.heap.size w w' := by
  have kb : Hid (Below w.heap.size w ((w.alloc p.obj).alloc (p.key h).obj)) := by
    have k1 := (Below.refl w.heap.size w).alloc (Nat.le_refl _) p.obj
    exact k1.alloc k1.size _
  obtain ⟨id, m, off, ttl, pr, a, b, s⟩ := p
  simp only [Pk.key]
  go_enter Try.func38, Try.ntmps38
  go_wp2
  (try simp only [Exit.inBlock, Exit.then])
  refine bodyPost_ret (by simp [results, Try.results38, go_sem]; try rfl) rfl ?_
  exact ⟨rfl, kb.out⟩

/-- What judge answers. -/
def jr (p : Pk) (ahead : Nat) : Int :=
  if p.off ≠ ((ahead / 8 : Nat) : Int) then 25 else if bad p.m p.d = true then 15 else if 8200 < ahead + p.s.size then 11 else 0

set_option maxHeartbeats 2000000 in
theorem judge_part (p : Pk) (ahead : Nat) (hs : p.s.size ≤ 1000000000) (hh : ahead ≤ 8200) (w : World) :
    Calls Try.prog 39 #[p.val, .int .i64 ahead] w fun e w' => e = .returned (.int .i64 (jr p ahead)) ∧ Below w.heap.size w w' := by
  obtain ⟨J, HJ⟩ : ∃ J, Hid (J = jr p ahead) := ⟨_, rfl⟩
  rw [← HJ.out]
  have hbad := HJ.out
  have hdl := p.d_length
  unfold jr at hbad
  simp only [bad, hdl] at hbad
  obtain ⟨id, m, off, ttl, pr, a, b, s⟩ := p
  simp only at hbad hs
  have kb : Hid (Below w.heap.size w (w.alloc (pkC id m off ttl pr a b s))) := (Below.refl _ w).alloc (Nat.le_refl _) _
  clear HJ hdl
  by_cases h1 : off = ((ahead / 8 : Nat) : Int)
  · rw [if_neg (by simpa using h1)] at hbad
    have h1' : off = (ahead : Int) / 8 := by omega
    subst h1'
    clear h1
    cases m
    · rw [if_neg (by simp)] at hbad
      by_cases h6 : 8200 < ahead + s.size
      · rw [if_pos h6] at hbad
        subst hbad
        have h7 : (8200 : Int) - ahead < s.size := by omega
        go_enter Try.func39, Try.ntmps39
        go_wp2
        go_returns
        exact ⟨rfl, kb.out⟩
      · rw [if_neg h6] at hbad
        subst hbad
        have h7 : ¬ (8200 : Int) - ahead < s.size := by omega
        go_enter Try.func39, Try.ntmps39
        go_wp2
        go_returns
        exact ⟨rfl, kb.out⟩
    · by_cases h2 : s.size = 0
      · rw [if_pos (by simp [h2])] at hbad
        subst hbad
        have h3 : (s.toList == []) = true := by
          have : s.toList = [] := by rw [ByteArray.toList_eq]; exact List.length_eq_zero_iff.1 (by simpa using h2)
          rw [this]; rfl
        go_enter Try.func39, Try.ntmps39
        go_wp2
        go_returns
        exact ⟨rfl, kb.out⟩
      · have h3 : (s.toList == []) = false := by
          have : s.toList ≠ [] := by rw [ByteArray.toList_eq]; intro e; apply h2; have := congrArg List.length e; simpa using this
          simpa using this
        by_cases h4 : s.size % 8 = 0
        · rw [if_neg (by simp [h2, h4])] at hbad
          have h5 : (s.size : Int) % 8 = 0 := by omega
          by_cases h6 : 8200 < ahead + s.size
          · rw [if_pos h6] at hbad
            subst hbad
            have h7 : (8200 : Int) - ahead < s.size := by omega
            go_enter Try.func39, Try.ntmps39
            go_wp2
            go_returns
            exact ⟨rfl, kb.out⟩
          · rw [if_neg h6] at hbad
            subst hbad
            have h7 : ¬ (8200 : Int) - ahead < s.size := by omega
            go_enter Try.func39, Try.ntmps39
            go_wp2
            go_returns
            exact ⟨rfl, kb.out⟩
        · rw [if_pos (by simp [h4])] at hbad
          subst hbad
          have h5 : ¬ (s.size : Int) % 8 = 0 := by omega
          go_enter Try.func39, Try.ntmps39
          go_wp2
          go_returns
          exact ⟨rfl, kb.out⟩
  · rw [if_pos (by simpa using h1)] at hbad
    subst hbad
    have h1' : ¬ off = (ahead : Int) / 8 := by omega
    go_enter Try.func39, Try.ntmps39
    go_wp2
    go_returns
    exact ⟨rfl, kb.out⟩
end Go.Proofs.Ytgdjcoodjdckkaa
/- A packet is begun: what becomes of a table. -/
set_option maxRecDepth 100000
namespace Go.Proofs.Ytgdjcoodjdckkaa
open Go.RowKit Go.Proofs.PitotIp Go.Maps
open Go.Proofs.PitotReasm (Bg Tb Fine bad first)
open Go.Proofs.Ytgdjcoodjdckkaa.Bi (lies_lt lies_cell lies_frozen lies_alloc lies_set)

def upd (dv : K → Value) (k : K) (v : Value) : K → Value := fun x => if x = k then v else dv x
theorem upd_same (dv : K → Value) (k : K) (v : Value) : upd dv k v k = v := if_pos rfl
theorem upd_other (dv : K → Value) {k x : K} (v : Value) (h : x ≠ k) : upd dv k v x = dv x := if_neg h

theorem rep_new {D : DataW Value} {l : List (Bg K UInt8)} {dv : K → Value} (hr : Rep D l dv) (hD : Maps.IsMap D) (k : K) (hk : find l k = none) (t0 : Int) (d : List UInt8) (v : Value) :
    Rep (D.put (kl k) (.held (.agg #[.int .i64 t0, v]))) (l ++ [⟨k, t0, d⟩]) (upd dv k v) := fun x => by
  have hs : find (l ++ [⟨k, t0, d⟩]) x = (find l x).or (if k = x then some ⟨k, t0, d⟩ else none) := PitotReasm.find_snoc l x _
  by_cases e : x = k
  · subst e
    rw [has_put_same hD (kl_key x), atKey_put_same hD (kl_key x), hs, hk, if_pos rfl, upd_same]
    exact ⟨rfl, rfl⟩
  · rw [has_put_other (fun h => e (kl_inj h)), atKey_put_other (fun h => e (kl_inj h)), hs, if_neg (fun h => e h.symm), Option.or_none, upd_other dv v e]
    exact hr x

theorem Fr.grown_own {base : Nat} {w w' : World} {ov : Value} {n : Nat} {xs : List Value} (h : w.grownBy w' ov.ownBlock) (ho : w.ownsRow base 52 10 ov n xs) (hb : base ≤ w.heap.size) : Fr base w w' := by
  rcases ho.2 with ⟨e, _⟩ | ⟨g, cap, cur, e, hg, hcur, _⟩
  · subst e
    exact Fr.of ⟨h.os, h.tape, h.output, h.size, fun k hk => h.block k hk (by simp [Value.ownBlock])⟩ hb
  · subst e
    exact Fr.grown h hg hb hcur (.inr (.inl rfl))

theorem Tab.more {base : Nat} {X w3 w4 wa w5 : World} {tp : Nat} {most wait : Int} {t : Tb K UInt8} {mb n : Nat} {D : DataW Value} {ov : Value} {dv : K → Value} {k : K} {v nv : Value} {d : List UInt8}
    (h : Tab base X tp most wait t mb n D ov dv) (hk : find t.l k = none) (hb3 : Below X.heap.size X w3) (hBy : BytesAt base w3 v d) (hvb : v.ownBlock = some X.heap.size)
    (hT : w3.mapTurned w4 mb) (hO : w4.ownsMap Try.prog 52 HE mb (n + 1) (D.put (kl k) (.held (.agg #[.int .i64 t.now, v])))) (hga : w4.grownBy wa none) (hg5 : wa.grownBy w5 ov.ownBlock)
    (hrow : w5.ownsRow base 52 10 nv (t.l.length + 1) (flatK (t.l.map (·.k)) ++ k.enc)) :
    Tab base (w5.setCell ⟨tp, 4, none⟩ nv) tp most wait ⟨t.l ++ [⟨k, t.now, d⟩], t.now, t.dr⟩ mb (n + 1) (D.put (kl k) (.held (.agg #[.int .i64 t.now, v]))) nv (upd dv k v) ∧ Fr base X (w5.setCell ⟨tp, 4, none⟩ nv) := by
  have hbase := h.lt.2.2
  have hb3s := hb3.size
  have hrowX : X.ownsRow base 52 10 ov t.l.length (flatK (t.l.map (·.k))) := h.row
  -- blocks of cells through the steps
  have c3 : ∀ g cs ty fr, X.heap[g]? = some (Obj.cells cs ty fr) → w3.heap[g]? = some (Obj.cells cs ty fr) := fun g cs ty fr e => (hb3.block g (Array.getElem?_eq_some_iff.1 e).1).trans e
  have ca : ∀ g cs ty fr, w3.heap[g]? = some (Obj.cells cs ty fr) → wa.heap[g]? = some (Obj.cells cs ty fr) := fun g cs ty fr e => by
    have e4 := map_other hT e (by intro _ _ e; cases e)
    exact (hga.block g (Array.getElem?_eq_some_iff.1 e4).1 (by simp)).trans e4
  have hrowa : wa.ownsRow base 52 10 ov t.l.length (flatK (t.l.map (·.k))) := by
    refine ⟨hrowX.1, ?_⟩
    rcases hrowX.2 with hn | ⟨g, cap, cur, e, hg, hcur, r⟩
    · exact .inl hn
    · exact .inr ⟨g, cap, cur, e, hg, ca _ _ _ _ (c3 _ _ _ _ hcur), r⟩
  have c5 : ∀ g cs ty fr, ty ≠ 52 → wa.heap[g]? = some (Obj.cells cs ty fr) → w5.heap[g]? = some (Obj.cells cs ty fr) := fun g cs ty fr hty e => by
    refine (hg5.block g (Array.getElem?_eq_some_iff.1 e).1 ?_).trans e
    rcases hrowa.2 with ⟨e1, _⟩ | ⟨g', cap, cur, e1, _, hcur, _⟩
    · rw [e1]; simp [Value.ownBlock]
    · rw [e1]
      intro e2
      simp [Value.ownBlock] at e2
      subst e2
      rw [e] at hcur; injection hcur with hcur; injection hcur with _ e3; exact hty e3
  have L5 := c5 _ _ _ _ (by decide) (ca _ _ _ _ (c3 _ _ _ _ h.tab))
  have c6 : ∀ g cs ty fr, ty ≠ 52 → ty ≠ 70 → w3.heap[g]? = some (Obj.cells cs ty fr) → (w5.setCell ⟨tp, 4, none⟩ nv).heap[g]? = some (Obj.cells cs ty fr) := fun g cs ty fr h1 h2 e => by
    have e5 := c5 _ _ _ _ h1 (ca _ _ _ _ e)
    have : g ≠ tp := fun e1 => by subst e1; rw [e5] at L5; injection L5 with L5; injection L5 with _ e3; exact h2 e3
    exact (Below.heap_setCell w5 _ _ g this).trans e5
  have hmo : mb ≠ tp ∧ some mb ≠ ov.ownBlock := by
    have hma := hO.kept hga (by simp)
    obtain ⟨es, cl, hm, _⟩ := hma
    refine ⟨fun e => ?_, fun e => ?_⟩
    · subst e
      rw [ca _ _ _ _ (c3 _ _ _ _ h.tab)] at hm; cases hm
    · rcases hrowa.2 with ⟨e1, _⟩ | ⟨g', cap, cur, e1, _, hcur, _⟩
      · rw [e1] at e; simp [Value.ownBlock] at e
      · rw [e1] at e
        simp [Value.ownBlock] at e
        subst e
        rw [hm] at hcur; cases hcur
  have hne : ∀ b ∈ t.l, b.k ≠ k := PitotReasm.find_none hk
  have hsz : Maps.size (D.put (kl k) (.held (.agg #[.int .i64 t.now, v]))) = t.l.length + 1 := by
    rw [size_put (h.map.tidy law52), (h.rep k).1, hk]
    simp [h.size]
  refine ⟨⟨h.hp, h.hm, lies_set L5 4 _, ?_, rep_new h.rep h.map.isMap k hk t.now d v, ?_, ?_, ?_, ?_⟩, ?_⟩
  · exact ((hO.kept hga (by simp)).kept hg5 (by simpa using hmo.2)).setCell (a := ⟨tp, 4, none⟩) hmo.1 _
  · rw [hsz]; simp
  · show World.ownsRow _ base 52 10 nv (t.l ++ [(⟨k, t.now, d⟩ : Bg K UInt8)]).length (flatK ((t.l ++ [(⟨k, t.now, d⟩ : Bg K UInt8)]).map (·.k)))
    rw [List.map_append, flatK_append, List.length_append]
    refine World.ownsRow.kept (w := w5) ?_ (Bi.grown_set tp 4 _) ?_
    · simpa [flatK] using hrow
    · rcases hrow.2 with ⟨_, e⟩ | ⟨g', cap, cur, e1, _, hcur, _⟩
      · omega
      · right
        rw [e1]
        intro e2
        simp [Value.ownBlock] at e2
        subst e2
        rw [L5] at hcur; injection hcur with hcur; injection hcur with _ e3; exact absurd e3 (by decide)
  · intro b hb
    rcases List.mem_append.1 hb with hb | hb
    · rw [upd_other dv v (hne b hb)]
      exact (h.bytes b hb).of_block fun g cs fz _ e => c6 _ _ _ _ (by decide) (by decide) (c3 _ _ _ _ e)
    · simp only [List.mem_singleton] at hb
      subst hb
      simp only [upd_same]
      exact hBy.of_block fun g cs fz _ e => c6 _ _ _ _ (by decide) (by decide) e
  · have old : ∀ b ∈ t.l, (dv b.k).ownBlock ≠ some X.heap.size := fun b hb e => by
      obtain ⟨g, cs, fz, e1, _, e2⟩ := (h.bytes b hb).block
      rw [e1] at e
      injection e with e
      have := (Array.getElem?_eq_some_iff.1 e2).1
      omega
    intro b hb c hc hbc
    rcases List.mem_append.1 hb with hb | hb <;> rcases List.mem_append.1 hc with hc | hc
    · rw [upd_other dv v (hne b hb), upd_other dv v (hne c hc)]; exact h.apart b hb c hc hbc
    · simp only [List.mem_singleton] at hc
      subst hc
      rw [upd_other dv v (hne b hb), upd_same, hvb]; exact old b hb
    · simp only [List.mem_singleton] at hb
      subst hb
      rw [upd_other dv v (hne c hc), upd_same, hvb]; exact fun e => old c hc e.symm
    · simp only [List.mem_singleton] at hb hc
      subst hb; subst hc; exact absurd rfl hbc
  · have ha : base ≤ w4.heap.size := by obtain ⟨es, cl, es', cl', hb', rfl⟩ := hT; simp [ChangeMaps.setBlock]; omega
    have haa : base ≤ wa.heap.size := Nat.le_trans ha hga.size
    have hF4 : Fr base w4 wa := Fr.of ⟨hga.os, hga.tape, hga.output, hga.size, fun k hk => hga.block k hk (by simp)⟩ ha
    exact (Fr.of hb3 hbase).trans ((Fr.turned hT h.hm).trans (hF4.trans ((Fr.grown_own hg5 hrowa haa).trans (Fr.grown (Bi.grown_set tp 4 _) h.hp (Nat.le_trans haa hg5.size) L5 (.inl rfl)))))
end Go.Proofs.Ytgdjcoodjdckkaa
