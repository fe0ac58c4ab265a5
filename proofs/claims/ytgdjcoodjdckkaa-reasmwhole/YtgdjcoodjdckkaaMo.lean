/- A packet is begun: what becomes of a table. -/
import Derived.Test.YtgdjcoodjdckkaaJr
set_option maxRecDepth 100000
namespace Go.Proofs.Ytgdjcoodjdckkaa
open Go.RowKit Go.Proofs.PitotIp Go.Maps
open Go.Proofs.PitotReasm (Bg Tb Fine bad first)
open Go.Proofs.Ytgdjcoodjdckkaa.Bi (lies_lt lies_cell lies_frozen lies_alloc lies_set)

def upd (dv : K → Value) (k : K) (v : Value) : K → Value := fun x => if x = k then v else dv x
theorem upd_same (dv : K → Value) (k : K) (v : Value) : upd dv k v k = v := if_pos rfl
theorem upd_other (dv : K → Value) {k x : K} (v : Value) (h : x ≠ k) : upd dv k v x = dv x := if_neg h

theorem rep_new {D : DataW Value} {l : List (Bg K UInt8)} {dv : K → Value} (hr : Rep D l dv) (hD : Maps.IsMap D) (k : K) (hk : find l k = none) (t0 : Int) (d : List UInt8) (v : Value) :
    Rep (D.put (kl k) (.held (.agg #[.int .i64 t0, v]))) (l ++ [⟨k, t0, d⟩]) (upd dv k v) := fun x => by
  have hs : find (l ++ [⟨k, t0, d⟩]) x = (find l x).or (if k = x then some ⟨k, t0, d⟩ else none) := PitotReasm.find_snoc l x _
  by_cases e : x = k
  · subst e
    rw [has_put_same hD (kl_key x), atKey_put_same hD (kl_key x), hs, hk, if_pos rfl, upd_same]
    exact ⟨rfl, rfl⟩
  · rw [has_put_other (fun h => e (kl_inj h)), atKey_put_other (fun h => e (kl_inj h)), hs, if_neg (fun h => e h.symm), Option.or_none, upd_other dv v e]
    exact hr x

theorem Fr.grown_own {base : Nat} {w w' : World} {ov : Value} {n : Nat} {xs : List Value} (h : w.grownBy w' ov.ownBlock) (ho : w.ownsRow base 52 10 ov n xs) (hb : base ≤ w.heap.size) : Fr base w w' := by
  rcases ho.2 with ⟨e, _⟩ | ⟨g, cap, cur, e, hg, hcur, _⟩
  · subst e
    exact Fr.of ⟨h.os, h.tape, h.output, h.size, fun k hk => h.block k hk (by simp [Value.ownBlock])⟩ hb
  · subst e
    exact Fr.grown h hg hb hcur (.inr (.inl rfl))

theorem Tab.more {base : Nat} {X w3 w4 wa w5 : World} {tp : Nat} {most wait : Int} {t : Tb K UInt8} {mb n : Nat} {D : DataW Value} {ov : Value} {dv : K → Value} {k : K} {v nv : Value} {d : List UInt8}
    (h : Tab base X tp most wait t mb n D ov dv) (hk : find t.l k = none) (hb3 : Below X.heap.size X w3) (hBy : BytesAt base w3 v d) (hvb : v.ownBlock = some X.heap.size)
    (hT : w3.mapTurned w4 mb) (hO : w4.ownsMap Try.prog 52 HE mb (n + 1) (D.put (kl k) (.held (.agg #[.int .i64 t.now, v])))) (hga : w4.grownBy wa none) (hg5 : wa.grownBy w5 ov.ownBlock)
    (hrow : w5.ownsRow base 52 10 nv (t.l.length + 1) (flatK (t.l.map (·.k)) ++ k.enc)) :
    Tab base (w5.setCell ⟨tp, 4, none⟩ nv) tp most wait ⟨t.l ++ [⟨k, t.now, d⟩], t.now, t.dr⟩ mb (n + 1) (D.put (kl k) (.held (.agg #[.int .i64 t.now, v]))) nv (upd dv k v) ∧ Fr base X (w5.setCell ⟨tp, 4, none⟩ nv) := by
  have hbase := h.lt.2.2
  have hb3s := hb3.size
  have hrowX : X.ownsRow base 52 10 ov t.l.length (flatK (t.l.map (·.k))) := h.row
  -- blocks of cells through the steps
  have c3 : ∀ g cs ty fr, X.heap[g]? = some (Obj.cells cs ty fr) → w3.heap[g]? = some (Obj.cells cs ty fr) := fun g cs ty fr e => (hb3.block g (Array.getElem?_eq_some_iff.1 e).1).trans e
  have ca : ∀ g cs ty fr, w3.heap[g]? = some (Obj.cells cs ty fr) → wa.heap[g]? = some (Obj.cells cs ty fr) := fun g cs ty fr e => by
    have e4 := map_other hT e (by intro _ _ e; cases e)
    exact (hga.block g (Array.getElem?_eq_some_iff.1 e4).1 (by simp)).trans e4
  have hrowa : wa.ownsRow base 52 10 ov t.l.length (flatK (t.l.map (·.k))) := by
    refine ⟨hrowX.1, ?_⟩
    rcases hrowX.2 with hn | ⟨g, cap, cur, e, hg, hcur, r⟩
    · exact .inl hn
    · exact .inr ⟨g, cap, cur, e, hg, ca _ _ _ _ (c3 _ _ _ _ hcur), r⟩
  have c5 : ∀ g cs ty fr, ty ≠ 52 → wa.heap[g]? = some (Obj.cells cs ty fr) → w5.heap[g]? = some (Obj.cells cs ty fr) := fun g cs ty fr hty e => by
    refine (hg5.block g (Array.getElem?_eq_some_iff.1 e).1 ?_).trans e
    rcases hrowa.2 with ⟨e1, _⟩ | ⟨g', cap, cur, e1, _, hcur, _⟩
    · rw [e1]; simp [Value.ownBlock]
    · rw [e1]
      intro e2
      simp [Value.ownBlock] at e2
      subst e2
      rw [e] at hcur; injection hcur with hcur; injection hcur with _ e3; exact hty e3
  have L5 := c5 _ _ _ _ (by decide) (ca _ _ _ _ (c3 _ _ _ _ h.tab))
  have c6 : ∀ g cs ty fr, ty ≠ 52 → ty ≠ 70 → w3.heap[g]? = some (Obj.cells cs ty fr) → (w5.setCell ⟨tp, 4, none⟩ nv).heap[g]? = some (Obj.cells cs ty fr) := fun g cs ty fr h1 h2 e => by
    have e5 := c5 _ _ _ _ h1 (ca _ _ _ _ e)
    have : g ≠ tp := fun e1 => by subst e1; rw [e5] at L5; injection L5 with L5; injection L5 with _ e3; exact h2 e3
    exact (Below.heap_setCell w5 _ _ g this).trans e5
  have hmo : mb ≠ tp ∧ some mb ≠ ov.ownBlock := by
    have hma := hO.kept hga (by simp)
    obtain ⟨es, cl, hm, _⟩ := hma
    refine ⟨fun e => ?_, fun e => ?_⟩
    · subst e
      rw [ca _ _ _ _ (c3 _ _ _ _ h.tab)] at hm; cases hm
    · rcases hrowa.2 with ⟨e1, _⟩ | ⟨g', cap, cur, e1, _, hcur, _⟩
      · rw [e1] at e; simp [Value.ownBlock] at e
      · rw [e1] at e
        simp [Value.ownBlock] at e
        subst e
        rw [hm] at hcur; cases hcur
  have hne : ∀ b ∈ t.l, b.k ≠ k := PitotReasm.find_none hk
  have hsz : Maps.size (D.put (kl k) (.held (.agg #[.int .i64 t.now, v]))) = t.l.length + 1 := by
    rw [size_put (h.map.tidy law52), (h.rep k).1, hk]
    simp [h.size]
  refine ⟨⟨h.hp, h.hm, lies_set L5 4 _, ?_, rep_new h.rep h.map.isMap k hk t.now d v, ?_, ?_, ?_, ?_⟩, ?_⟩
  · exact ((hO.kept hga (by simp)).kept hg5 (by simpa using hmo.2)).setCell (a := ⟨tp, 4, none⟩) hmo.1 _
  · rw [hsz]; simp
  · show World.ownsRow _ base 52 10 nv (t.l ++ [(⟨k, t.now, d⟩ : Bg K UInt8)]).length (flatK ((t.l ++ [(⟨k, t.now, d⟩ : Bg K UInt8)]).map (·.k)))
    rw [List.map_append, flatK_append, List.length_append]
    refine World.ownsRow.kept (w := w5) ?_ (Bi.grown_set tp 4 _) ?_
    · simpa [flatK] using hrow
    · rcases hrow.2 with ⟨_, e⟩ | ⟨g', cap, cur, e1, _, hcur, _⟩
      · omega
      · right
        rw [e1]
        intro e2
        simp [Value.ownBlock] at e2
        subst e2
        rw [L5] at hcur; injection hcur with hcur; injection hcur with _ e3; exact absurd e3 (by decide)
  · intro b hb
    rcases List.mem_append.1 hb with hb | hb
    · rw [upd_other dv v (hne b hb)]
      exact (h.bytes b hb).of_block fun g cs fz _ e => c6 _ _ _ _ (by decide) (by decide) (c3 _ _ _ _ e)
    · simp only [List.mem_singleton] at hb
      subst hb
      simp only [upd_same]
      exact hBy.of_block fun g cs fz _ e => c6 _ _ _ _ (by decide) (by decide) e
  · have old : ∀ b ∈ t.l, (dv b.k).ownBlock ≠ some X.heap.size := fun b hb e => by
      obtain ⟨g, cs, fz, e1, _, e2⟩ := (h.bytes b hb).block
      rw [e1] at e
      injection e with e
      have := (Array.getElem?_eq_some_iff.1 e2).1
      omega
    intro b hb c hc hbc
    rcases List.mem_append.1 hb with hb | hb <;> rcases List.mem_append.1 hc with hc | hc
    · rw [upd_other dv v (hne b hb), upd_other dv v (hne c hc)]; exact h.apart b hb c hc hbc
    · simp only [List.mem_singleton] at hc
      subst hc
      rw [upd_other dv v (hne b hb), upd_same, hvb]; exact old b hb
    · simp only [List.mem_singleton] at hb
      subst hb
      rw [upd_other dv v (hne c hc), upd_same, hvb]; exact fun e => old c hc e.symm
    · simp only [List.mem_singleton] at hb hc
      subst hb; subst hc; exact absurd rfl hbc
  · have ha : base ≤ w4.heap.size := by obtain ⟨es, cl, es', cl', hb', rfl⟩ := hT; simp [ChangeMaps.setBlock]; omega
    have haa : base ≤ wa.heap.size := Nat.le_trans ha hga.size
    have hF4 : Fr base w4 wa := Fr.of ⟨hga.os, hga.tape, hga.output, hga.size, fun k hk => hga.block k hk (by simp)⟩ ha
    exact (Fr.of hb3 hbase).trans ((Fr.turned hT h.hm).trans (hF4.trans ((Fr.grown_own hg5 hrowa haa).trans (Fr.grown (Bi.grown_set tp 4 _) h.hp (Nat.le_trans haa hg5.size) L5 (.inl rfl)))))
end Go.Proofs.Ytgdjcoodjdckkaa
