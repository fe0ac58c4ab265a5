/- Contracts of forget and giveUp. -/
import Derived.Test.YtgdjcoodjdckkaaTb
set_option maxRecDepth 100000
namespace Go.Proofs.Ytgdjcoodjdckkaa
open Go.RowKit Go.Proofs.PitotIp Go.Maps
open Go.Proofs.PitotReasm (Bg Tb Fine)
open Go.Proofs.Ytgdjcoodjdckkaa.Bi (lies_lt lies_cell lies_frozen lies_alloc lies_set)

/-- Blocks of cells but the table's and the order's own are as they were. -/
def Fk (ov : Value) (w w' : World) : Prop := ∀ (kb : Nat) (cs : Array Value) (ty : TypeId) (fr : Nat × Nat), ty ≠ 70 → some kb ≠ ov.ownBlock → w.heap[kb]? = some (Obj.cells cs ty fr) → w'.heap[kb]? = some (Obj.cells cs ty fr)
theorem Fk.of {ov : Value} {w w' : World} (h : Below w.heap.size w w') : Fk ov w w' := fun k _ _ _ _ _ e => (h.block k (Array.getElem?_eq_some_iff.1 e).1).trans e
theorem Fk.trans {ov : Value} {w w1 w2 : World} (h : Fk ov w w1) (g : Fk ov w1 w2) : Fk ov w w2 := fun k cs ty fr ht hk e => g k cs ty fr ht hk (h k cs ty fr ht hk e)

/-- A Key is taken out of the map, and out of the order. -/
theorem Tab.gone {base : Nat} {V w1 w2 : World} {p : Nat} {most wait : Int} {t : Tb K UInt8} {mb n : Nat} {D : DataW Value} {o m cap : Nat} {dv : K → Value} {k : K} {b : Bg K UInt8} {l1 l2 : List K}
    (h : Tab base V p most wait t mb n D (.slice (some ⟨o, 0, none⟩) m cap) dv) (hob : base ≤ o) (hf : Fine t.l) (hk : find t.l k = some b) (he : (drop t.l k).map (·.k) = l1 ++ l2) (hR0 : RowK V o cap (l1 ++ k :: l2))
    (hT : V.mapTurned w1 mb) (hO : w1.ownsMap Try.prog 52 HE mb n (D.del (kl k))) (hg : w1.grownBy w2 (some o)) (hR : RowK w2 o cap (l1 ++ l2)) :
    Tab base (w2.setCell ⟨p, 4, none⟩ (.slice (some ⟨o, 0, none⟩) (l1 ++ l2).length cap)) p most wait ⟨drop t.l k, t.now, t.dr⟩ mb n (D.del (kl k)) (.slice (some ⟨o, 0, none⟩) (l1 ++ l2).length cap) dv ∧
      Fr base V (w2.setCell ⟨p, 4, none⟩ (.slice (some ⟨o, 0, none⟩) (l1 ++ l2).length cap)) ∧ Fk (.slice (some ⟨o, 0, none⟩) m cap) V (w2.setCell ⟨p, 4, none⟩ (.slice (some ⟨o, 0, none⟩) (l1 ++ l2).length cap)) := by
  have hlen : (l1 ++ l2).length = (drop t.l k).length := by rw [← he, List.length_map]
  obtain ⟨cur, hcur, _⟩ := hR0
  have L1 := map_other hT h.tab (by intro _ _ e; cases e)
  have C1 := map_other hT hcur (by intro _ _ e; cases e)
  have hpo : p ≠ o := fun e => by subst e; rw [L1] at C1; injection C1 with C1; injection C1 with _ e2; exact absurd e2 (by decide)
  have hmo : mb ≠ o := fun e => by
    subst e
    obtain ⟨es, cl, hm, _⟩ := hO
    rw [hm] at C1; cases C1
  have hmp : mb ≠ p := fun e => by
    subst e
    obtain ⟨es, cl, hm, _⟩ := hO
    rw [hm] at L1; cases L1
  have L2 : w2.heap[p]? = some (tabC most wait t.now mb (.slice (some ⟨o, 0, none⟩) m cap) t.dr) := (hg.block p (lies_lt L1) (by simpa using hpo)).trans L1
  have hbase := h.lt.2.2
  have hb1 : base ≤ w1.heap.size := by obtain ⟨es, cl, es', cl', hb', rfl⟩ := hT; simpa [ChangeMaps.setBlock] using hbase
  refine ⟨⟨h.hp, h.hm, lies_set L2 4 _, ?_, rep_del h.rep k, ?_, ?_, ?_, ?_⟩, ?_, ?_⟩
  · exact (hO.kept hg (by simpa using hmo)).setCell (a := ⟨p, 4, none⟩) hmp _
  · have h1 := size_del (k := kl k) (h.map.tidy law52)
    rw [(h.rep k).1, hk, Option.isSome_some, if_pos rfl] at h1
    have h2 : (drop t.l k).length + 1 = t.l.length := PitotReasm.drop_one hf.once hk
    have h3 := h.size
    show _ = (drop t.l k).length
    omega
  · have := (hR.own hob)
    rw [← hlen, he]
    exact this.kept (Bi.grown_set p 4 _) (.inr (by intro e; simp [Value.ownBlock] at e; exact hpo e.symm))
  · intro c hc
    have hc' : c ∈ t.l := drop_mem hc
    refine (h.bytes c hc').of_block fun g cs fz _ hb => ?_
    have B1 := map_other hT hb (by intro _ _ e; cases e)
    have n1 : g ≠ o := fun e => by subst e; rw [B1] at C1; injection C1 with C1; injection C1 with _ e2; exact absurd e2 (by decide)
    have n2 : g ≠ p := fun e => by subst e; rw [B1] at L1; injection L1 with L1; injection L1 with _ e2; exact absurd e2 (by decide)
    have B2 := (hg.block g (Array.getElem?_eq_some_iff.1 B1).1 (by simpa using n1)).trans B1
    exact (Below.heap_setCell w2 _ _ g n2).trans B2
  · intro c hc d hd hne
    exact h.apart c (drop_mem hc) d (drop_mem hd) hne
  · exact (Fr.turned hT h.hm).trans ((Fr.grown hg hob hb1 C1 (.inr (.inl rfl))).trans (Fr.grown (Bi.grown_set p 4 _) h.hp (Nat.le_trans hb1 hg.size) L2 (.inl rfl)))
  · intro kb cs ty fr hty hk e
    have B1 := map_other hT e (by intro _ _ e; cases e)
    have n1 : kb ≠ o := fun e1 => hk (by rw [e1]; rfl)
    have n2 : kb ≠ p := fun e1 => by subst e1; rw [B1] at L1; injection L1 with L1; injection L1 with _ e2; exact hty e2
    have B2 := (hg.block kb (Array.getElem?_eq_some_iff.1 B1).1 (by simpa using n1)).trans B1
    exact (Below.heap_setCell w2 _ _ kb n2).trans B2

set_option maxHeartbeats 4000000 in
theorem forget_tab {base : Nat} {w : World} {p : Nat} {most wait : Int} {t : Tb K UInt8} {mb n : Nat} {D : DataW Value} {ov : Value} {dv : K → Value} (h : Tab base w p most wait t mb n D ov dv) (hf : Fine t.l) (k : K) (b : Bg K UInt8) (hb : find t.l k = some b) :
    Calls Try.prog 37 #[.pointer (some ⟨p, 0, none⟩), k.val] w fun e w' => e = .returned (.tuple #[]) ∧ TabAt base w' p most wait ⟨drop t.l k, t.now, t.dr⟩ ∧ Fr base w w' ∧ Fk ov w w' := by
  obtain ⟨l1, l2, e1, hk1, hk2, e2⟩ := keys_split hf.once hb
  have hbase := h.lt.2.2
  have hlen : (l1 ++ k :: l2).length = t.l.length := by rw [← e1, List.length_map]
  have hrow := h.row
  rw [e1] at hrow
  obtain ⟨o, cap, rfl, hob, hon, hrow⟩ := RowK.of_own hrow (by rw [← hlen]; simp; omega)
  have H1 : Hid (Tab base (w.alloc k.obj) p most wait t mb n D (.slice (some ⟨o, 0, none⟩) t.l.length cap) dv) := h.below ((Below.refl _ w).alloc (Nat.le_refl _) _)
  have R1 : Hid (RowK (w.alloc k.obj) o cap (l1 ++ k :: l2)) := hrow.below ((Below.refl _ w).alloc (Nat.le_refl _) _) hrow.lt
  have C1 : Hid ((w.alloc k.obj).heap[w.heap.size]? = some k.obj) := heap_alloc_new w _
  have F1 : Hid (Fr base w (w.alloc k.obj)) := Fr.of ((Below.refl _ w).alloc (Nat.le_refl _) _) hbase
  have G1 : Hid (Fk (.slice (some ⟨o, 0, none⟩) t.l.length cap) w (w.alloc k.obj)) := Fk.of ((Below.refl _ w).alloc (Nat.le_refl _) _)
  obtain ⟨m, Hm⟩ : ∃ m, Hid (m = t.l.length) := ⟨_, rfl⟩
  have Hkey := Lib.hid (key_kl k)
  have hol := hrow.lt
  have hpl := h.lt.1
  have hbob := h.hp
  have hbmb := h.hm
  have HT := Lib.hid h
  clear h hrow
  have E1 := Lib.hid (And.intro e1 e2); clear e1 e2
  have E3 := Lib.hid (And.intro hk1 hk2); clear hk1 hk2
  have E4 := Lib.hid hlen; clear hlen
  have E5 := Lib.hid hon; clear hon
  rw [← Hm.out] at H1 G1 ⊢
  simp only [K.val]
  go_enter Try.func37, Try.ntmps37
  go_upto_region 1 with (fail)
  generalize hW : w.alloc k.obj = W at H1 R1 C1 F1 G1 ⊢
  have hWs : W.heap.size = w.heap.size + 1 := by rw [← hW]; simp
  clear hW
  have hc : W.cell? ⟨p, 3, none⟩ = some (.map (some mb)) := lies_cell H1.out.tab 3
  obtain ⟨c0, c1, c2, c3, c4, c5, c6, c7, c8, c9⟩ := cells10 C1.out
  simp only [Nat.zero_add] at c1 c2 c3 c4 c5 c6 c7 c8 c9
  go_still_tail 5, (by kernel_rfl)
  refine wpList_delete_own _ rfl _ _ 68 52 rfl 73 law52 Try.underlying68 HE mb n D rfl H1.out.map _ _ rfl Hkey.out ?_
  intro w1 hown1 hturn1
  have HO := Lib.hid hown1; clear hown1
  have HT1 := Lib.hid hturn1; clear hturn1
  clear hc c0 c1 c2 c3 c4 c5 c6 c7 c8 c9
  have HV : Hid (Tab base W.drew p most wait t mb n D (.slice (some ⟨o, 0, none⟩) m cap) dv) := H1.out.drewN 1
  have L1 : w1.heap[p]? = some (tabC most wait t.now mb (.slice (some ⟨o, 0, none⟩) m cap) t.dr) := map_other HT1.out HV.out.tab (by intro _ _ e; cases e)
  have hc : w1.cell? ⟨p, 4, none⟩ = some (.slice (some ⟨o, 0, none⟩) m cap) := lies_cell L1 4
  have K1 : w1.heap[w.heap.size]? = some k.obj := map_other HT1.out (o := k.obj) C1.out (by intro _ _ e; cases e)
  have RV : RowK W.drew o cap (l1 ++ k :: l2) := R1.out
  have RW : RowK w1 o cap (l1 ++ k :: l2) := by
    obtain ⟨cur, h1, h2⟩ := RV
    exact ⟨cur, map_other HT1.out h1 (by intro _ _ e; cases e), h2⟩
  have HD := Lib.hid (delete_any w1 o cap w.heap.size m k l1 l2 E3.out.1 E3.out.2 RW K1 (by omega) (by rw [Hm.out, E4.out]))
  have hpo : p ≠ o := fun e => by
    obtain ⟨cur, h1, _⟩ := RW
    subst e; rw [L1] at h1; injection h1 with h1; injection h1 with _ e2; exact absurd e2 (by decide)
  have LL := Lib.hid L1; clear L1
  clear K1 RV RW
  go_frame
  go_wp2_with (go_at_call 44; (with_reducible refine HD.out.mono ?_); rintro e w2 ⟨rfl, hR2, hg2⟩
               (have L2 := Lib.hid ((hg2.block p (lies_lt LL.out) (by simpa using hpo)).trans LL.out))
               (have hc2 := lies_cell L2.out 4)
               (have hf2 := lies_frozen L2.out 4)
               (replace hc2 : w2.cell? ⟨p, 4, none⟩ = some (.slice (some ⟨o, 0, none⟩) m cap) := hc2)
               (have HR2 := Lib.hid (And.intro hR2 hg2)))
  go_returns
  obtain ⟨g1, g2, g3⟩ := HV.out.gone hob hf hb E1.out.2 R1.out HT1.out HO.out HR2.out.2 HR2.out.1
  rw [List.length_append] at g1 g2 g3
  exact ⟨rfl, ⟨mb, n, _, _, dv, g1⟩, (F1.out.drew).trans g2, Fk.trans (w1 := W.drew) G1.out g3⟩
theorem forget_any {base : Nat} {w : World} {p : Nat} {most wait : Int} {t : Tb K UInt8} (h : TabAt base w p most wait t) (hf : Fine t.l) (k : K) (b : Bg K UInt8) (hb : find t.l k = some b) :
    Calls Try.prog 37 #[.pointer (some ⟨p, 0, none⟩), k.val] w fun e w' => e = .returned (.tuple #[]) ∧ TabAt base w' p most wait ⟨drop t.l k, t.now, t.dr⟩ ∧ Fr base w w' := by
  obtain ⟨mb, n, D, ov, dv, h⟩ := h
  exact (forget_tab h hf k b hb).mono fun e w' x => ⟨x.1, x.2.1, x.2.2.1⟩

set_option maxHeartbeats 4000000 in
theorem giveUp_tab {base : Nat} {w : World} {p : Nat} {most wait : Int} {t : Tb K UInt8} {mb0 n0 : Nat} {D0 : DataW Value} {ov0 : Value} {dv0 : K → Value} (h : Tab base w p most wait t mb0 n0 D0 ov0 dv0) (hf : Fine t.l) (hdr : t.dr ≤ 1000000000000) (k : K) (b : Bg K UInt8) (hb : find t.l k = some b) :
    Calls Try.prog 23 #[.pointer (some ⟨p, 0, none⟩), k.val] w fun e w' => e = .returned (.tuple #[]) ∧ TabAt base w' p most wait ⟨drop t.l k, t.now, t.dr + 1⟩ ∧ Fr base w w' ∧ Fk ov0 w w' := by
  have hbase := h.lt.2.2
  have HF := Lib.hid (forget_tab (h.below ((Below.refl _ w).alloc (Nat.le_refl _) k.obj)) hf k b hb)
  have F1 : Hid (Fr base w (w.alloc k.obj)) := Fr.of ((Below.refl _ w).alloc (Nat.le_refl _) _) hbase
  obtain ⟨dr, Hdr⟩ : ∃ dr, Hid (dr = t.dr) := ⟨_, rfl⟩
  rw [← Hdr.out] at hdr
  clear h
  simp only [K.val] at HF ⊢
  go_enter Try.func23, Try.ntmps23
  go_wp2_with (first
    | (go_at_call 37; (with_reducible refine HF.out.mono ?_); rintro e w2 ⟨rfl, hT2, hg2, hk2⟩
       (have HK2 := Lib.hid hk2; clear hk2)
       (obtain ⟨mb, n, D, ov, dv, h2⟩ := hT2)
       (have L2 := h2.tab)
       (simp only at L2)
       (rw [← Hdr.out] at L2)
       (have hc2 : w2.cell? ⟨p, 5, none⟩ = some (.int .i64 dr) := lies_cell L2 5)
       (have hf2 := lies_frozen L2 5)
       (have L2 := Lib.hid L2)
       (have H2 := Lib.hid h2; clear h2)))
  go_returns
  have hT := H2.out
  have L3 := lies_set L2.out 5 (.int .i64 (dr + 1))
  have hmp : mb ≠ p := fun e => by
    subst e
    obtain ⟨es, cl, hm, _⟩ := hT.map
    rw [hm] at L2; cases L2.out
  have hb2 := hT.lt.2.2
  refine ⟨rfl, ⟨mb, n, D, ov, dv, hT.hp, hT.hm, ?_, hT.map.setCell (a := ⟨p, 5, none⟩) hmp _, hT.rep, hT.size, ?_, ?_, hT.apart⟩, F1.out.trans (hg2.trans (Fr.grown (Bi.grown_set p 5 _) hT.hp hb2 L2.out (.inl rfl))), Fk.trans (Fk.of ((Below.refl _ w).alloc (Nat.le_refl _) _)) (Fk.trans HK2.out fun kb cs ty fr hty _ e => ?_)⟩
  · rw [← Hdr.out]
    exact L3
  · refine hT.row.kept (Bi.grown_set p 5 _) ?_
    rcases hT.row.2 with ⟨e, _⟩ | ⟨g, cap, cur, e, _, hg, _⟩
    · left; rw [e]; rfl
    · right
      rw [e]
      intro e2
      simp [Value.ownBlock] at e2
      subst e2
      rw [L2.out] at hg; injection hg with hg; injection hg with _ e2; exact absurd e2 (by decide)
  · intro c hc
    refine (hT.bytes c hc).of_block fun g cs fz _ hb => ?_
    have n2 : g ≠ p := fun e => by subst e; have := L2.out; rw [hb] at this; injection this with this; injection this with _ e2; exact absurd e2 (by decide)
    exact (Below.heap_setCell w2 _ _ g n2).trans hb
  · have n2 : kb ≠ p := fun e1 => by subst e1; have := L2.out; rw [e] at this; injection this with this; injection this with _ e2; exact hty e2
    exact (Below.heap_setCell w2 _ _ kb n2).trans e
theorem giveUp_any {base : Nat} {w : World} {p : Nat} {most wait : Int} {t : Tb K UInt8} (h : TabAt base w p most wait t) (hf : Fine t.l) (hdr : t.dr ≤ 1000000000000) (k : K) (b : Bg K UInt8) (hb : find t.l k = some b) :
    Calls Try.prog 23 #[.pointer (some ⟨p, 0, none⟩), k.val] w fun e w' => e = .returned (.tuple #[]) ∧ TabAt base w' p most wait ⟨drop t.l k, t.now, t.dr + 1⟩ ∧ Fr base w w' := by
  obtain ⟨mb, n, D, ov, dv, h⟩ := h
  exact (giveUp_tab h hf hdr k b hb).mono fun e w' x => ⟨x.1, x.2.1, x.2.2.1⟩
end Go.Proofs.Ytgdjcoodjdckkaa
