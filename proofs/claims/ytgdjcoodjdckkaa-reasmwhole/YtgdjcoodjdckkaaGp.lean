/- What goOn does to a table: bytes are put behind those of a Key. -/
import Derived.Test.YtgdjcoodjdckkaaGo
set_option maxRecDepth 100000
namespace Go.Proofs.Ytgdjcoodjdckkaa
open Go.RowKit Go.Proofs.PitotIp Go.Maps
open Go.Proofs.PitotReasm (Bg Tb Fine bad first next more)
open Go.Proofs.Ytgdjcoodjdckkaa.Bi (lies_lt lies_cell lies_frozen lies_alloc lies_set)

theorem wpList_bytes_more {base : Nat} {w : World} {ops : Array Oper} {rest : List Oper} {o : Oper} {a : Act} {Q : Exit → Act → World → Prop} (hgd : o.guard = none) (s x : Operand)
    (ho : o.op = .call { callee := .builtin .append, args := #[s, x], argTypes := #[71, 9] }) (v : Value) (l : List UInt8) (str : ByteArray) (hs : a.eval s = v) (hx : a.eval x = .string str)
    (hB : BytesAt base w v l) (hb : base ≤ w.heap.size) (hn : l.length + str.size ≤ 1000000)
    (h : ∀ v' w', BytesAt base w' v' (l ++ str.data.toList) → BytesAt base w' v l → w.grownBy w' v.ownBlock → (v'.ownBlock = v.ownBlock ∨ v'.ownBlock = some w.heap.size) → wpList Try.prog ops Q rest (a.put o.dst v') w') : wpList Try.prog ops Q (o :: rest) a w :=
  wpList_plain hgd fun _ hK => by
    obtain ⟨v', w', hr, h1, h2, h3, h4⟩ := bytes_more hB str o.type hb hn
    unfold Oper.wp execOp
    simp only [ho, resolve, invoke, builtin, Sem.run_bind, Sem.run_pure, Result.andThen_ok, List.map_toArray, List.map_cons, List.map_nil, hs, hx, hr]
    exact hK _ _ (h v' w' h1 h2 h3 h4)

theorem find_self {l : List (Bg K UInt8)} {c : Bg K UInt8} (hn : (l.map (·.k)).Nodup) (hc : c ∈ l) : find l c.k = some c := by
  induction l with
  | nil => cases hc
  | cons d r ih =>
    rw [List.map_cons, List.nodup_cons] at hn
    rw [find, PitotReasm.find_cons]
    rcases List.mem_cons.1 hc with h | h
    · subst h; rw [if_pos rfl]
    · rw [if_neg (fun e => hn.1 (List.mem_map.2 ⟨c, h, e.symm⟩))]
      exact ih hn.2 h

theorem Tab.grow {base : Nat} {w w' : World} {p : Nat} {most wait : Int} {t : Tb K UInt8} {mb n : Nat} {D : DataW Value} {ov : Value} {dv : K → Value} (h : Tab base w p most wait t mb n D ov dv) (hf : Fine t.l) {k : K} {b : Bg K UInt8} (hb : find t.l k = some b)
    (hB : BytesAt base w' (dv k) b.d) (hg : w.grownBy w' (dv k).ownBlock) : Tab base w' p most wait t mb n D ov dv ∧ Fr base w w' := by
  have hbb := h.bytes b (find_mem hb).1
  rw [(find_mem hb).2] at hbb
  obtain ⟨g, cs, fz, e, hbg, hk⟩ := hbb.block
  rw [e] at hg
  refine ⟨⟨h.hp, h.hm, (hg.block p h.lt.1 ?_).trans h.tab, h.map.kept hg ?_, h.rep, h.size, h.row.kept hg ?_, fun c hc => ?_, h.apart⟩, Fr.grown hg hbg h.lt.2.2 hk (.inr (.inr rfl))⟩
  · intro e; injection e with e; subst e
    have := h.tab; rw [hk] at this; injection this with this; injection this with _ e2; exact absurd e2 (by decide)
  · intro e; injection e with e; subst e
    obtain ⟨es, cl, hm, _⟩ := h.map
    rw [hk] at hm; cases hm
  · rcases h.row.2 with ⟨e, _⟩ | ⟨g', cap, cur, e, _, hcur, _⟩
    · left; rw [e]; rfl
    · right
      rw [e]
      intro e2
      simp [Value.ownBlock] at e2
      subst e2
      rw [hk] at hcur; injection hcur with hcur; injection hcur with _ e2; exact absurd e2 (by decide)
  · by_cases ek : c.k = k
    · have hc2 := find_self hf.once hc
      rw [ek, hb] at hc2
      injection hc2 with hc2
      subst hc2
      rw [ek]; exact hB
    · refine (h.bytes c hc).kept hg ?_
      have := h.apart c hc b (find_mem hb).1 (by rw [(find_mem hb).2]; exact ek)
      rw [(find_mem hb).2, e] at this
      exact this

theorem find_more (l : List (Bg K UInt8)) (k x : K) (d : List UInt8) (b : Bg K UInt8) (hb : find l k = some b) : find (more l k d) x = if x = k then some { b with d := b.d ++ d } else find l x := by
  by_cases e : x = k
  · subst e; rw [if_pos rfl]; exact PitotReasm.find_more_self hb d
  · rw [if_neg e]; exact PitotReasm.find_more_other l (fun h => e h.symm) d

theorem Tab.on {base : Nat} {V w4 : World} {p : Nat} {most wait : Int} {t : Tb K UInt8} {mb n : Nat} {D : DataW Value} {ov v' : Value} {dv : K → Value} {k : K} {b : Bg K UInt8} {d : List UInt8} (h : Tab base V p most wait t mb n D ov dv) (hf : Fine t.l) (hb : find t.l k = some b)
    (hB : BytesAt base V v' (b.d ++ d)) (hv : v'.ownBlock = (dv k).ownBlock ∨ ∀ c ∈ t.l, (dv c.k).ownBlock ≠ v'.ownBlock) (hT : V.mapTurned w4 mb) (hO : w4.ownsMap Try.prog 52 HE mb (n + 1) (D.put (kl k) (.held (.agg #[.int .i64 b.t0, v'])))) :
    Tab base w4 p most wait ⟨PitotReasm.more t.l k d, t.now, t.dr⟩ mb (n + 1) (D.put (kl k) (.held (.agg #[.int .i64 b.t0, v']))) ov (upd dv k v') ∧ Fr base V w4 := by
  have hlen : (PitotReasm.more t.l k d).length = t.l.length := by unfold PitotReasm.more; rw [List.length_map]
  have hsplit : ∀ c' ∈ PitotReasm.more t.l k d, (∃ c ∈ t.l, c.k = k ∧ c' = { c with d := c.d ++ d }) ∨ (c' ∈ t.l ∧ c'.k ≠ k) := fun c' hc' => by
    unfold PitotReasm.more at hc'
    obtain ⟨c, hc, rfl⟩ := List.mem_map.1 hc'
    by_cases e : c.k = k
    · left; exact ⟨c, hc, e, by rw [if_pos e]⟩
    · right; rw [if_neg e]; exact ⟨hc, e⟩
  refine ⟨⟨h.hp, h.hm, map_other hT h.tab (by intro _ _ e; cases e), hO, fun x => ?_, ?_, ?_, fun c' hc' => ?_, fun c1 h1 c2 h2 hne => ?_⟩, Fr.turned hT h.hm⟩
  · show Maps.has _ (kl x) = (find (PitotReasm.more t.l k d) x).isSome ∧ _ = DataW.held (bval (find (PitotReasm.more t.l k d) x) _)
    rw [find_more t.l k x d b hb]
    by_cases e : x = k
    · subst e
      rw [has_put_same h.map.isMap (kl_key x), atKey_put_same h.map.isMap (kl_key x), if_pos rfl, upd_same]
      exact ⟨rfl, rfl⟩
    · rw [has_put_other (fun h => e (kl_inj h)), atKey_put_other (fun h => e (kl_inj h)), if_neg e, upd_other dv v' e]
      exact h.rep x
  · show _ = (PitotReasm.more t.l k d).length
    rw [hlen, size_put (h.map.tidy law52), (h.rep k).1, hb]
    simp [h.size]
  · show World.ownsRow _ base 52 10 ov (PitotReasm.more t.l k d).length (flatK ((PitotReasm.more t.l k d).map (·.k)))
    rw [hlen, show (PitotReasm.more t.l k d).map (·.k) = t.l.map (·.k) from PitotReasm.more_keys t.l k d]
    exact row_kept h.row (Below.refl _ V) hT (grown_below (Below.refl _ w4) none)
  · rcases hsplit c' hc' with ⟨c, hc, ek, rfl⟩ | ⟨hc, ek⟩
    · simp only [ek, upd_same]
      have hc2 := find_self hf.once hc
      rw [ek, hb] at hc2
      injection hc2 with hc2
      subst hc2
      exact hB.of_block fun g cs fz _ e => map_other hT e (by intro _ _ e; cases e)
    · rw [upd_other dv v' ek]
      exact (h.bytes c' hc).of_block fun g cs fz _ e => map_other hT e (by intro _ _ e; cases e)
  · have key : ∀ c ∈ t.l, c.k ≠ k → (dv c.k).ownBlock ≠ v'.ownBlock := fun c hc ek => by
      rcases hv with hv | hv
      · rw [hv]
        have := h.apart c hc b (find_mem hb).1 (by rw [(find_mem hb).2]; exact ek)
        rwa [(find_mem hb).2] at this
      · exact hv c hc
    rcases hsplit c1 h1 with ⟨c, hc, ek, rfl⟩ | ⟨hc, ek⟩ <;> rcases hsplit c2 h2 with ⟨c', hc', ek', rfl⟩ | ⟨hc', ek'⟩
    · exact absurd (ek.trans ek'.symm) hne
    · simp only [ek, upd_same]
      rw [upd_other dv v' ek']
      exact fun e => key c2 hc' ek' e.symm
    · simp only [ek', upd_same]
      rw [upd_other dv v' ek]
      exact key c1 hc ek
    · rw [upd_other dv v' ek, upd_other dv v' ek']
      exact h.apart c1 hc c2 hc' hne
end Go.Proofs.Ytgdjcoodjdckkaa
