/- Merged: Rpm, Rp1, Rp2, Rpk, Rp3, Rp4. -/
import Derived.Test.YtgdjcoodjdckkaaM10
import Derived.Test.YtgdjcoodjdckkaaM11
import Derived.Test.YtgdjcoodjdckkaaM12
set_option linter.unusedVariables false
/- The document's Put: plain facts. -/
set_option maxRecDepth 100000
namespace Go.Proofs.Ytgdjcoodjdckkaa
open Go.RowKit Go.Proofs.PitotIp Go.Maps
open Go.Proofs.PitotReasm (Bg Tb Fine bad first next passed passE put keep)
open Go.Proofs.Ytgdjcoodjdckkaa.Bi (lies_lt lies_cell lies_frozen lies_alloc lies_set)

/-- The document's table, plain. -/
def tbl (L : List Rb) (now : Int) (d : Nat) : Tb K UInt8 := ⟨L.map Rb.bg, now, d⟩
/-- What the document's Put answers. -/
def refans (p : Pk) (o : Option (List UInt8)) (e : Int) : Value := .tuple #[match o with | none => rp0 | some x => (whole p x).rv, .bool o.isSome, .int .i64 e]
theorem tbl_passed (L : List Rb) (now : Int) (d : Nat) (wait n : Int) : passed (tbl L now d) wait n = tbl (keepB L wait n) n (d + (L.length - (keepB L wait n).length)) := by
  have e : keep (L.map Rb.bg) wait n = (keepB L wait n).map Rb.bg := by
    unfold keep keepB
    rw [List.filter_map]
    rfl
  unfold passed tbl
  simp only [e, List.length_map]
theorem tbl_none {L : List Rb} {k : K} (h : ∀ c ∈ L, c.k ≠ k) : find (L.map Rb.bg) k = none := by
  rw [find, PitotReasm.find, List.find?_eq_none]
  intro x hx
  obtain ⟨c, hc, rfl⟩ := List.mem_map.1 hx
  have := h c hc
  show ¬ decide (c.k = k) = true
  simpa using this
theorem tbl_some {l1 l2 : List Rb} {b : Rb} {k : K} (h : ∀ c ∈ l1, c.k ≠ k) (hb : b.k = k) : find ((l1 ++ b :: l2).map Rb.bg) k = some b.bg := by
  induction l1 with
  | nil => rw [List.nil_append, List.map_cons, find, PitotReasm.find_cons, if_pos (show b.bg.k = k from hb)]
  | cons c r ih =>
    rw [List.cons_append, List.map_cons, find, PitotReasm.find_cons, if_neg (show ¬ c.bg.k = k from h c (List.mem_cons_self ..))]
    exact ih fun x hx => h x (List.mem_cons_of_mem _ hx)
theorem tbl_drop {l1 l2 : List Rb} {b : Rb} {k : K} (h : ∀ c ∈ l1, c.k ≠ k) (hb : b.k = k) (h2 : ∀ c ∈ l2, c.k ≠ k) : drop ((l1 ++ b :: l2).map Rb.bg) k = (l1 ++ l2).map Rb.bg := by
  have key : ∀ l : List Rb, (∀ c ∈ l, c.k ≠ k) → drop (l.map Rb.bg) k = l.map Rb.bg := fun l hl => PitotReasm.drop_none (tbl_none hl)
  induction l1 with
  | nil => rw [List.nil_append, List.map_cons, drop, PitotReasm.drop_cons, if_pos (show b.bg.k = k from hb)]; exact key l2 h2
  | cons c r ih =>
    rw [List.cons_append, List.map_cons, drop, PitotReasm.drop_cons, if_neg (show ¬ c.bg.k = k from h c (List.mem_cons_self ..)), List.cons_append, List.map_cons]
    congr 1
    exact ih fun x hx => h x (List.mem_cons_of_mem _ hx)
def Rb.add (b : Rb) (d : List UInt8) : Rb := { b with d := b.d ++ d }
theorem tbl_more {l1 l2 : List Rb} {b : Rb} {k : K} (h : ∀ c ∈ l1, c.k ≠ k) (hb : b.k = k) (h2 : ∀ c ∈ l2, c.k ≠ k) (d : List UInt8) : PitotReasm.more ((l1 ++ b :: l2).map Rb.bg) k d = (l1 ++ b.add d :: l2).map Rb.bg := by
  have key : ∀ l : List Rb, (∀ c ∈ l, c.k ≠ k) → PitotReasm.more (l.map Rb.bg) k d = l.map Rb.bg := fun l hl => by
    unfold PitotReasm.more
    rw [List.map_map]
    refine List.map_congr_left fun c hc => ?_
    show (if c.bg.k = k then _ else c.bg) = c.bg
    rw [if_neg (show ¬ c.bg.k = k from hl c hc)]
  have e : PitotReasm.more ((l1 ++ b :: l2).map Rb.bg) k d = PitotReasm.more (l1.map Rb.bg) k d ++ ((if b.bg.k = k then { b.bg with d := b.bg.d ++ d } else b.bg) :: PitotReasm.more (l2.map Rb.bg) k d) := by
    unfold PitotReasm.more
    rw [List.map_append, List.map_append, List.map_cons, List.map_cons]
  rw [e, key l1 h, key l2 h2, if_pos (show b.bg.k = k from hb), List.map_append, List.map_cons]
  rfl
/-- Where a Key stands, if it does. -/
theorem place (L : List Rb) (k : K) : (∀ c ∈ L, c.k ≠ k) ∨ ∃ l1 b l2, L = l1 ++ b :: l2 ∧ b.k = k ∧ ∀ c ∈ l1, c.k ≠ k := by
  induction L with
  | nil => left; intro c hc; cases hc
  | cons c r ih =>
    by_cases e : c.k = k
    · right; exact ⟨[], c, r, rfl, e, fun x hx => by cases hx⟩
    · rcases ih with h | ⟨l1, b, l2, h1, h2, h3⟩
      · left
        intro x hx
        rcases List.mem_cons.1 hx with rfl | hx
        · exact e
        · exact h x hx
      · right
        refine ⟨c :: l1, b, l2, by rw [h1]; rfl, h2, fun x hx => ?_⟩
        rcases List.mem_cons.1 hx with rfl | hx
        · exact e
        · exact h3 x hx
theorem place_rest {l1 l2 : List Rb} {b : Rb} {k : K} (hf : Fine ((l1 ++ b :: l2).map Rb.bg)) (hb : b.k = k) : ∀ c ∈ l2, c.k ≠ k := fun c hc e => by
  have h := hf.once
  rw [List.map_map, List.map_append, List.map_cons] at h
  have h2 := (List.nodup_append.1 h).2.1
  rw [List.nodup_cons] at h2
  exact h2.1 (List.mem_map.2 ⟨c, hc, show c.k = b.k by rw [e, hb]⟩)
theorem stored_8 {base : Nat} {w X : World} {rp g : Nat} {most wait : Int} {L : List Rb} {now : Int} {d : Nat} (h : RefAt base X rp most wait L now d) (hF : Fq base w X) (hb : base ≤ w.heap.size) (hg : w.heap.size ≤ g) {cs : Array Value} {fr : Nat × Nat} (hk : X.heap[g]? = some (Obj.cells cs 41 fr)) (y0 y1 y2 y3 y4 y5 y6 y7 : Value) :
    RefAt base ((((((((X.setCell ⟨g, 0, none⟩ y0).setCell ⟨g, 1, none⟩ y1).setCell ⟨g, 2, none⟩ y2).setCell ⟨g, 3, none⟩ y3).setCell ⟨g, 4, none⟩ y4).setCell ⟨g, 5, none⟩ y5).setCell ⟨g, 6, none⟩ y6).setCell ⟨g, 7, none⟩ y7) rp most wait L now d ∧ Fq base w ((((((((X.setCell ⟨g, 0, none⟩ y0).setCell ⟨g, 1, none⟩ y1).setCell ⟨g, 2, none⟩ y2).setCell ⟨g, 3, none⟩ y3).setCell ⟨g, 4, none⟩ y4).setCell ⟨g, 5, none⟩ y5).setCell ⟨g, 6, none⟩ y6).setCell ⟨g, 7, none⟩ y7) := by
  obtain ⟨lv, h⟩ := h
  have G : X.grownBy ((((((((X.setCell ⟨g, 0, none⟩ y0).setCell ⟨g, 1, none⟩ y1).setCell ⟨g, 2, none⟩ y2).setCell ⟨g, 3, none⟩ y3).setCell ⟨g, 4, none⟩ y4).setCell ⟨g, 5, none⟩ y5).setCell ⟨g, 6, none⟩ y6).setCell ⟨g, 7, none⟩ y7) (some g) := grown_cells g [y0, y1, y2, y3, y4, y5, y6, y7] 0 X
  exact ⟨⟨lv, h.away G hk (by decide) (by decide)⟩, hF.fresh G hb hg⟩
theorem fq_41 {base : Nat} {V V' : World} {g : Nat} {cs : Array Value} (h : V.heap[g]? = some (Obj.cells cs 41)) (hF : Fq base V V') : V'.heap[g]? = some (Obj.cells cs 41) := hF.kind _ _ _ _ (by decide) (by decide) h
end Go.Proofs.Ytgdjcoodjdckkaa
/- The document's Put: what is wrong at once, what is whole at once. -/
set_option maxRecDepth 100000
namespace Go.Proofs.Ytgdjcoodjdckkaa
open Go.RowKit Go.Proofs.PitotIp Go.Maps
open Go.Proofs.PitotReasm (Bg Tb Fine bad first next passed passE put keep)
open Go.Proofs.Ytgdjcoodjdckkaa.Bi (lies_lt lies_cell lies_frozen lies_alloc lies_set)

set_option maxHeartbeats 4000000 in
theorem rput_bad {base : Nat} {w : World} {rp : Nat} {most : Nat} {wait : Int} {L : List Rb} {now : Int} {d : Nat} (h : RefAt base w rp most wait L now d) (hG : Good most (tbl L now d)) (hmost : most ≤ 64) (hdr : d ≤ 10000000000) (hw0 : 0 ≤ wait) (hw1 : wait ≤ 1125899906842624) (n : Int) (p : Pk) (hw : p.Wf) (hs : p.s.size ≤ 1000000000) (hp : rE now n ≠ 0) : Calls Try.prog 15 #[.pointer (some ⟨rp, 0, none⟩), .int .i64 n, p.rv] w fun e w' => e = .returned (refans p none (rE now n)) ∧ RefAt base w' rp most wait L now d ∧ Fq base w w' := by
  have hb0 : base ≤ w.heap.size := by obtain ⟨lv, h⟩ := h; exact h.lt.2
  have k1 := ((Below.refl w.heap.size w).alloc (Nat.le_refl _) p.rvC)
  have k2 := k1.alloc k1.size rpz
  have H1 : Hid (RefAt base ((w.alloc p.rvC).alloc rpz) rp most wait L now d) := h.below k2
  have P1 : Hid (((w.alloc p.rvC).alloc rpz).heap[w.heap.size]? = some p.rvC) := lies_alloc (heap_alloc_new w _) _
  have R1 : Hid (((w.alloc p.rvC).alloc rpz).heap[w.heap.size + 1]? = some rpz) := by
    have e := heap_alloc_new (w.alloc p.rvC) rpz
    rw [World.size_alloc] at e
    exact e
  have F1 : Hid (Fq base w ((w.alloc p.rvC).alloc rpz)) := Fq.of k2 hb0
  have Hb : Hid (base ≤ w.heap.size) := hb0
  clear h k1 k2 hb0
  have HP := Lib.hid (refPass_bad H1.out n hp)
  obtain ⟨E, HE⟩ : ∃ E, Hid (E = rE now n) := ⟨_, rfl⟩
  rw [← HE.out] at HP hp ⊢
  have hE0 : (E != 0) = true := by simpa using hp
  have Hp := Lib.hid hp; clear hp
  go_enter Try.func15, Try.ntmps15
  go_upto_region 3 with (first
    | (go_at_call 13; (with_reducible refine (HP.out).mono ?_); rintro e V2 ⟨rfl, hV⟩
       (have HV := Lib.hid hV; clear hV)))
  have H2 : Hid (RefAt base V2 rp most wait L now d) := by show RefAt _ _ _ _ _ _ _ _; rw [HV.out]; exact H1.out
  have F2 : Hid (Fq base w V2) := by show Fq _ _ _; rw [HV.out]; exact F1.out
  have LX : Hid (V2.heap[w.heap.size + 1]? = some rpz) := by show _ = _; rw [HV.out]; exact R1.out
  clear HP
  obtain ⟨r0, r1, r2, r3, r4, r5, r6, r7⟩ := cells8 LX.out
  have f0 := lies_frozen LX.out 0
  have f1 := lies_frozen LX.out 1
  have f2 := lies_frozen LX.out 2
  have f3 := lies_frozen LX.out 3
  have f4 := lies_frozen LX.out 4
  have f5 := lies_frozen LX.out 5
  have f6 := lies_frozen LX.out 6
  have f7 := lies_frozen LX.out 7
  go_wp2
  (try simp only [Exit.inBlock, Exit.then])
  obtain ⟨k0, k1, k2, k3, k4, k5, k6, k7, _⟩ := read_8 (y0 := .int .i64 0) (y1 := .bool false) (y2 := .int .i64 0) (y3 := .int .i64 0) (y4 := .int .i64 0) (y5 := .string ⟨#[]⟩) (y6 := .string ⟨#[]⟩) (y7 := .string ⟨#[]⟩) LX.out
  refine bodyPost_ret (by simp [results, Try.results15, go_sem, k0, k1, k2, k3, k4, k5, k6, k7]; try rfl) rfl ?_
  exact ⟨rfl, stored_8 H2.out F2.out Hb.out (by omega) LX.out _ _ _ _ _ _ _ _⟩

set_option maxHeartbeats 4000000 in
theorem rput_whole {base : Nat} {w : World} {rp : Nat} {most : Nat} {wait : Int} {L : List Rb} {now : Int} {d : Nat} (h : RefAt base w rp most wait L now d) (hG : Good most (tbl L now d)) (hmost : most ≤ 64) (hdr : d ≤ 10000000000) (hw0 : 0 ≤ wait) (hw1 : wait ≤ 1125899906842624) (n : Int) (p : Pk) (hw : p.Wf) (hs : p.s.size ≤ 1000000000) (hp : rE now n = 0) (ho : p.off = 0) (hm : p.m = false) : Calls Try.prog 15 #[.pointer (some ⟨rp, 0, none⟩), .int .i64 n, p.rv] w fun e w' => e = .returned (refans p (some p.d) 0) ∧ RefAt base w' rp most wait (keepB L wait n) n (d + (L.length - (keepB L wait n).length)) ∧ Fq base w w' := by
  have hb0 : base ≤ w.heap.size := by obtain ⟨lv, h⟩ := h; exact h.lt.2
  have k1 := ((Below.refl w.heap.size w).alloc (Nat.le_refl _) p.rvC)
  have k2 := k1.alloc k1.size rpz
  have H1 : Hid (RefAt base ((w.alloc p.rvC).alloc rpz) rp most wait L now d) := h.below k2
  have P1 : Hid (((w.alloc p.rvC).alloc rpz).heap[w.heap.size]? = some p.rvC) := lies_alloc (heap_alloc_new w _) _
  have R1 : Hid (((w.alloc p.rvC).alloc rpz).heap[w.heap.size + 1]? = some rpz) := by
    have e := heap_alloc_new (w.alloc p.rvC) rpz
    rw [World.size_alloc] at e
    exact e
  have F1 : Hid (Fq base w ((w.alloc p.rvC).alloc rpz)) := Fq.of k2 hb0
  have Hb : Hid (base ≤ w.heap.size) := hb0
  clear h k1 k2 hb0
  have hlen : L.length ≤ most := by have := hG.room; simpa [tbl] using this
  have htm : ∀ b ∈ L, 0 ≤ b.at_ ∧ b.at_ ≤ now := fun b hb => hG.times b.bg (List.mem_map.2 ⟨b, hb, rfl⟩)
  have HP := Lib.hid (refPass_ok H1.out (by omega) n hp hw0 hw1 hG.now0 htm (by omega))
  have HA : Hid (refans p (some p.d) 0 = .tuple #[p.rv, .bool true, .int .i64 0]) := by
    show _ = _
    rw [refans, whole_self p ho]; rfl
  have Ho := Lib.hid ho; clear ho
  have Hm := Lib.hid hm; clear hm
  generalize (keepB L wait n) = L2 at HP ⊢
  generalize (d + (L.length - L2.length)) = D2 at HP ⊢
  clear hG htm hlen hp
  go_enter Try.func15, Try.ntmps15
  go_upto_region 4 with (first
    | (go_at_call 13; (with_reducible refine (HP.out).mono ?_); rintro e V2 ⟨rfl, hT2, hF2⟩
       (have P2 : Hid (V2.heap[w.heap.size]? = some p.rvC) := fq_41 P1.out hF2)
       (have R2 : Hid (V2.heap[w.heap.size + 1]? = some rpz) := fq_41 R1.out hF2)
       (have F2 : Hid (Fq base w V2) := F1.out.trans hF2)
       (have H2 := Lib.hid hT2)
       (clear hT2 hF2)))
  have x2 : V2.cell? ⟨w.heap.size, 2, none⟩ = some (.int .i64 0) := by rw [← Ho.out]; exact lies_cell P2.out 2
  have x1 : V2.cell? ⟨w.heap.size, 1, none⟩ = some (.bool false) := by rw [← Hm.out]; exact lies_cell P2.out 1
  go_upto_region 5 with (fail)
  clear x1 x2
  obtain ⟨q0, q1, q2, q3, q4, q5, q6, q7⟩ := cells8 P2.out
  have LX := R2
  obtain ⟨r0, r1, r2, r3, r4, r5, r6, r7⟩ := cells8 LX.out
  have f0 := lies_frozen LX.out 0
  have f1 := lies_frozen LX.out 1
  have f2 := lies_frozen LX.out 2
  have f3 := lies_frozen LX.out 3
  have f4 := lies_frozen LX.out 4
  have f5 := lies_frozen LX.out 5
  have f6 := lies_frozen LX.out 6
  have f7 := lies_frozen LX.out 7
  go_wp2
  (try simp only [Exit.inBlock, Exit.then])
  obtain ⟨k0, k1, k2, k3, k4, k5, k6, k7, _⟩ := read_8 (y0 := .int .i64 p.id) (y1 := .bool p.m) (y2 := .int .i64 p.off) (y3 := .int .i64 p.ttl) (y4 := .int .i64 p.pr) (y5 := .string (ipB p.a)) (y6 := .string (ipB p.b)) (y7 := .string p.s) LX.out
  refine bodyPost_ret (by simp [results, Try.results15, go_sem, k0, k1, k2, k3, k4, k5, k6, k7]; try rfl) rfl ?_
  exact ⟨by rw [HA.out], stored_8 H2.out F2.out Hb.out (by omega) LX.out _ _ _ _ _ _ _ _⟩
end Go.Proofs.Ytgdjcoodjdckkaa
/- The document's Put: a part that is not the first, of which none is begun. -/
set_option maxRecDepth 100000
namespace Go.Proofs.Ytgdjcoodjdckkaa
open Go.RowKit Go.Proofs.PitotIp Go.Maps
open Go.Proofs.PitotReasm (Bg Tb Fine bad first next passed passE put keep)
open Go.Proofs.Ytgdjcoodjdckkaa.Bi (lies_lt lies_cell lies_frozen lies_alloc lies_set)

set_option maxHeartbeats 4000000 in
theorem rput_none {base : Nat} {w : World} {rp : Nat} {most : Nat} {wait : Int} {L : List Rb} {now : Int} {d : Nat} (h : RefAt base w rp most wait L now d) (hG : Good most (tbl L now d)) (hmost : most ≤ 64) (hdr : d ≤ 10000000000) (hw0 : 0 ≤ wait) (hw1 : wait ≤ 1125899906842624) (n : Int) (p : Pk) (hw : p.Wf) (hs : p.s.size ≤ 1000000000) (hp : rE now n = 0) (ho : p.off ≠ 0) (hnone : ∀ c ∈ (keepB L wait n), c.k ≠ p.key hw) : Calls Try.prog 15 #[.pointer (some ⟨rp, 0, none⟩), .int .i64 n, p.rv] w fun e w' => e = .returned (refans p none 25) ∧ RefAt base w' rp most wait (keepB L wait n) n (d + (L.length - (keepB L wait n).length)) ∧ Fq base w w' := by
  have hb0 : base ≤ w.heap.size := by obtain ⟨lv, h⟩ := h; exact h.lt.2
  have k1 := ((Below.refl w.heap.size w).alloc (Nat.le_refl _) p.rvC)
  have k2 := k1.alloc k1.size rpz
  have H1 : Hid (RefAt base ((w.alloc p.rvC).alloc rpz) rp most wait L now d) := h.below k2
  have P1 : Hid (((w.alloc p.rvC).alloc rpz).heap[w.heap.size]? = some p.rvC) := lies_alloc (heap_alloc_new w _) _
  have R1 : Hid (((w.alloc p.rvC).alloc rpz).heap[w.heap.size + 1]? = some rpz) := by
    have e := heap_alloc_new (w.alloc p.rvC) rpz
    rw [World.size_alloc] at e
    exact e
  have F1 : Hid (Fq base w ((w.alloc p.rvC).alloc rpz)) := Fq.of k2 hb0
  have Hb : Hid (base ≤ w.heap.size) := hb0
  clear h k1 k2 hb0
  have hlen : L.length ≤ most := by have := hG.room; simpa [tbl] using this
  have htm : ∀ b ∈ L, 0 ≤ b.at_ ∧ b.at_ ≤ now := fun b hb => hG.times b.bg (List.mem_map.2 ⟨b, hb, rfl⟩)
  have HP := Lib.hid (refPass_ok H1.out (by omega) n hp hw0 hw1 hG.now0 htm (by omega))
  have hkl := keepB_len L wait n
  generalize hL2g : (keepB L wait n) = L2 at HP hkl hnone ⊢
  generalize hD2g : (d + (L.length - L2.length)) = D2 at HP ⊢
  have hD2 : D2 ≤ 10000000064 := by omega
  have hL64 : L2.length ≤ 64 := by omega
  clear hG htm hp hL2g hD2g
  have HFI : Hid (∀ V, RefAt base V rp most wait L2 n D2 → Calls Try.prog 26 #[.pointer (some ⟨rp, 0, none⟩), p.rv] V fun e w' => e = .returned (.int .i64 (-1)) ∧ Below V.heap.size V w') := fun V h => by
    obtain ⟨lv, h⟩ := h
    have := refFind_any h (by omega) p hw L2.length (Nat.le_refl _) (fun i hi hl => hnone _ (List.getElem_mem hl)) (fun hl => absurd hl (by omega))
    rw [if_neg (by omega)] at this
    exact this
  have ho2 : (p.off == 0) = false := by simpa using ho
  have Ho := Lib.hid ho; clear ho
  have Hn := Lib.hid hnone; clear hnone
  go_enter Try.func15, Try.ntmps15
  go_upto_region 4 with (first
    | (go_at_call 13; (with_reducible refine (HP.out).mono ?_); rintro e V2 ⟨rfl, hT2, hF2⟩
       (have P2 : Hid (V2.heap[w.heap.size]? = some p.rvC) := fq_41 P1.out hF2)
       (have R2 : Hid (V2.heap[w.heap.size + 1]? = some rpz) := fq_41 R1.out hF2)
       (have F2 : Hid (Fq base w V2) := F1.out.trans hF2)
       (have H2 := Lib.hid hT2)
       (clear hT2 hF2)))
  have x2 : V2.cell? ⟨w.heap.size, 2, none⟩ = some (.int .i64 p.off) := lies_cell P2.out 2
  have x1 : V2.cell? ⟨w.heap.size, 1, none⟩ = some (.bool p.m) := lies_cell P2.out 1
  cases hm : p.m
  all_goals
    rw [hm] at x1
    have Hm := Lib.hid hm; clear hm
    go_upto_region 6 with (fail)
    clear x1 x2
    obtain ⟨q0, q1, q2, q3, q4, q5, q6, q7⟩ := cells8 P2.out
    go_upto_region 20 with (first
      | (go_at_call 26; (with_reducible refine (HFI.out _ H2.out).mono ?_); rintro e V3 ⟨rfl, hb3⟩
         (have P3 : Hid (V3.heap[w.heap.size]? = some p.rvC) := lies_below P2.out hb3 (lies_lt P2.out))
         (have R3 : Hid (V3.heap[w.heap.size + 1]? = some rpz) := lies_below R2.out hb3 (lies_lt R2.out))
         (have F3 : Hid (Fq base w V3) := F2.out.trans (Fq.of hb3 (by obtain ⟨lv, h⟩ := H2.out; exact h.lt.2)))
         (have H3 : Hid (RefAt base V3 rp most wait L2 n D2) := H2.out.below hb3)
         (clear hb3 q0 q1 q2 q3 q4 q5 q6 q7)
         (have x2 : V3.cell? ⟨w.heap.size, 2, none⟩ = some (.int .i64 p.off) := lies_cell P3.out 2)))
    clear x2
    have LX := R3
    obtain ⟨r0, r1, r2, r3, r4, r5, r6, r7⟩ := cells8 LX.out
    have f0 := lies_frozen LX.out 0
    have f1 := lies_frozen LX.out 1
    have f2 := lies_frozen LX.out 2
    have f3 := lies_frozen LX.out 3
    have f4 := lies_frozen LX.out 4
    have f5 := lies_frozen LX.out 5
    have f6 := lies_frozen LX.out 6
    have f7 := lies_frozen LX.out 7
    go_wp2
    (try simp only [Exit.inBlock, Exit.then])
    obtain ⟨k0, k1, k2, k3, k4, k5, k6, k7, _⟩ := read_8 (y0 := .int .i64 0) (y1 := .bool false) (y2 := .int .i64 0) (y3 := .int .i64 0) (y4 := .int .i64 0) (y5 := .string ⟨#[]⟩) (y6 := .string ⟨#[]⟩) (y7 := .string ⟨#[]⟩) LX.out
    refine bodyPost_ret (by simp [results, Try.results15, go_sem, k0, k1, k2, k3, k4, k5, k6, k7]; try rfl) rfl ?_
    exact ⟨rfl, stored_8 H3.out F3.out Hb.out (by omega) LX.out _ _ _ _ _ _ _ _⟩
end Go.Proofs.Ytgdjcoodjdckkaa
/- The document's Put: small facts. -/
set_option maxRecDepth 100000
namespace Go.Proofs.Ytgdjcoodjdckkaa
open Go.RowKit Go.Proofs.PitotIp Go.Maps
open Go.Proofs.PitotReasm (Bg Tb Fine bad first next passed passE put keep)
open Go.Proofs.Ytgdjcoodjdckkaa.Bi (lies_lt lies_cell lies_frozen lies_alloc lies_set)

theorem ref_open {base : Nat} {w : World} {rp : Nat} {most wait : Int} {L : List Rb} {now : Int} {d : Nat} (h : RefAt base w rp most wait L now d) (h0 : 0 < L.length) : ∃ o cap, w.heap[rp]? = some (refC (.slice (some ⟨o, 0, none⟩) L.length cap) most wait now d) ∧ RowB w o cap L ∧ base ≤ o ∧ base ≤ rp := by
  obtain ⟨lv, h⟩ := h
  rcases h.row.2 with ⟨_, e⟩ | ⟨g, cap, cur, e, hb, hg, k1, k2, k3, k4⟩
  · omega
  · have ht := h.tab
    rw [e] at ht
    exact ⟨g, cap, ht, ⟨cur, hg, k3, k1, k2, k4⟩, hb, h.hp⟩
theorem ref_shut {base : Nat} {w : World} {rp o cap : Nat} {most wait : Int} {L : List Rb} {now : Int} {d : Nat} (hp : base ≤ rp) (hb : base ≤ o) (ht : w.heap[rp]? = some (refC (.slice (some ⟨o, 0, none⟩) L.length cap) most wait now d)) (hr : RowB w o cap L) : RefAt base w rp most wait L now d := by
  obtain ⟨cur, h1, h2, h3, h4, h5⟩ := hr
  exact ⟨_, hp, ht, flatB_length L, .inr ⟨o, cap, cur, rfl, hb, h1, h3, h4, h2, h5⟩⟩
theorem bl_add (l : List UInt8) (s : ByteArray) : bl l ++ s = bl (l ++ s.data.toList) := by
  apply ByteArray.ext
  rw [ByteArray.data_append]
  simp [bl]
theorem at_place {L l1 l2 : List Rb} {b : Rb} {i : Nat} (h : L = l1 ++ b :: l2) (hi : l1.length = i) (hl : i < L.length) : L[i] = b := by
  subst h; subst hi
  rw [List.getElem_append_right (Nat.le_refl _)]
  simp
/-- The bytes of one of a row are stored. -/
theorem RowB.set9 {w : World} {o cap : Nat} {l1 l2 : List Rb} {b : Rb} (h : RowB w o cap (l1 ++ b :: l2)) (d : List UInt8) : RowB (w.setCell ⟨o, l1.length * 10 + 9, none⟩ (.string (bl (b.d ++ d)))) o cap (l1 ++ b.add d :: l2) := by
  obtain ⟨cur, h1, h2, h3, h4, h5⟩ := h
  have hs : cur.size = cap * 10 := h2
  have hlen : (l1 ++ b :: l2).length = l1.length + 1 + l2.length := by simp; omega
  have hlen2 : (l1 ++ b.add d :: l2).length = l1.length + 1 + l2.length := by simp; omega
  refine ⟨cur.setIfInBounds (l1.length * 10 + 9) (.string (bl (b.d ++ d))), ?_, by simpa using h2, by rw [hlen2]; omega, h4, ?_⟩
  · rw [setCell_eq_setRow w o (l1.length * 10 + 9) cur 55 (0, 0) _ h1]
    exact setRow_heap w o cur _ 55 (0, 0) h1
  · have e0 : flatB (l1 ++ b :: l2) = flatB l1 ++ (b.enc ++ flatB l2) := by rw [flatB_append, flatB_cons]
    have e1 : flatB (l1 ++ b.add d :: l2) = flatB l1 ++ ((b.add d).enc ++ flatB l2) := by rw [flatB_append, flatB_cons]
    have e2 : (b.add d).enc = b.enc.set 9 (.string (bl (b.d ++ d))) := rfl
    rw [Array.toList_setIfInBounds, List.take_set, hlen2, ← hlen, h5, e0, e1, e2, List.set_append_right _ _ (by rw [flatB_length]; omega), flatB_length, show l1.length * 10 + 9 - l1.length * 10 = 9 by omega, List.set_append_left _ _ (by rw [Rb.enc_length]; omega)]
end Go.Proofs.Ytgdjcoodjdckkaa
/- The document's Put: a part that is out of order. -/
set_option maxRecDepth 100000
namespace Go.Proofs.Ytgdjcoodjdckkaa
open Go.RowKit Go.Proofs.PitotIp Go.Maps
open Go.Proofs.PitotReasm (Bg Tb Fine bad first next passed passE put keep)
open Go.Proofs.Ytgdjcoodjdckkaa.Bi (lies_lt lies_cell lies_frozen lies_alloc lies_set)

set_option maxHeartbeats 4000000 in
theorem rput_off_true {base : Nat} {w : World} {rp : Nat} {most : Nat} {wait : Int} {L : List Rb} {now : Int} {d : Nat} (h : RefAt base w rp most wait L now d) (hG : Good most (tbl L now d)) (hmost : most ≤ 64) (hdr : d ≤ 10000000000) (hw0 : 0 ≤ wait) (hw1 : wait ≤ 1125899906842624) (n : Int) (p : Pk) (hw : p.Wf) (hs : p.s.size ≤ 1000000000) (hp : rE now n = 0) (ho : p.off ≠ 0) {l1 l2 : List Rb} {b : Rb} (hL2 : keepB L wait n = l1 ++ b :: l2) (hbk : b.k = p.key hw) (hl1 : ∀ c ∈ l1, c.k ≠ p.key hw) (hj : p.off ≠ ((b.d.length / 8 : Nat) : Int)) (hm : p.m = true) : Calls Try.prog 15 #[.pointer (some ⟨rp, 0, none⟩), .int .i64 n, p.rv] w fun e w' => e = .returned (refans p none 25) ∧ RefAt base w' rp most wait (l1 ++ l2) n (d + (L.length - (keepB L wait n).length) + 1) ∧ Fq base w w' := by
  have hb8 : b.d.length % 8 = 0 ∧ b.d.length ≤ 8200 ∧ ∀ c ∈ l2, c.k ≠ p.key hw := by
    have hf := passed_good hG (wait := wait) (show passE (tbl L now d) n = 0 from hp)
    rw [tbl_passed, hL2] at hf
    have hm : b.bg ∈ (tbl (l1 ++ b :: l2) n (d + (L.length - (l1 ++ b :: l2).length))).l := List.mem_map.2 ⟨b, by simp, rfl⟩
    exact ⟨hf.fine.eight _ hm, hf.lens _ hm, place_rest hf.fine hbk⟩
  have hb0 : base ≤ w.heap.size := by obtain ⟨lv, h⟩ := h; exact h.lt.2
  have k1 := ((Below.refl w.heap.size w).alloc (Nat.le_refl _) p.rvC)
  have k2 := k1.alloc k1.size rpz
  have H1 : Hid (RefAt base ((w.alloc p.rvC).alloc rpz) rp most wait L now d) := h.below k2
  have P1 : Hid (((w.alloc p.rvC).alloc rpz).heap[w.heap.size]? = some p.rvC) := lies_alloc (heap_alloc_new w _) _
  have R1 : Hid (((w.alloc p.rvC).alloc rpz).heap[w.heap.size + 1]? = some rpz) := by
    have e := heap_alloc_new (w.alloc p.rvC) rpz
    rw [World.size_alloc] at e
    exact e
  have F1 : Hid (Fq base w ((w.alloc p.rvC).alloc rpz)) := Fq.of k2 hb0
  have Hb : Hid (base ≤ w.heap.size) := hb0
  clear h k1 k2 hb0
  have hlen : L.length ≤ most := by have := hG.room; simpa [tbl] using this
  have htm : ∀ b ∈ L, 0 ≤ b.at_ ∧ b.at_ ≤ now := fun b hb => hG.times b.bg (List.mem_map.2 ⟨b, hb, rfl⟩)
  have HP := Lib.hid (refPass_ok H1.out (by omega) n hp hw0 hw1 hG.now0 htm (by omega))
  have hkl := keepB_len L wait n
  generalize hL2g : (keepB L wait n) = L2 at HP hkl hL2 ⊢
  generalize hD2g : (d + (L.length - L2.length)) = D2 at HP ⊢
  have hD2 : D2 ≤ 10000000064 := by omega
  have hL64 : L2.length ≤ 64 := by omega
  clear hG htm hp hL2g hD2g
  have HFI : Hid (∀ V, RefAt base V rp most wait L2 n D2 → Calls Try.prog 26 #[.pointer (some ⟨rp, 0, none⟩), p.rv] V fun e w' => e = .returned (.int .i64 l1.length) ∧ Below V.heap.size V w') := fun V h => by
    obtain ⟨lv, h⟩ := h
    have := refFind_any h (by omega) p hw l1.length (by rw [hL2]; simp) (fun i hi hl => by
      have e : L2[i] = l1[i] := by simp only [hL2]; rw [List.getElem_append_left hi]
      rw [e]; exact hl1 _ (List.getElem_mem hi)) (fun hl => by
      have e : L2[l1.length] = b := by simp only [hL2]; rw [List.getElem_append_right (Nat.le_refl _)]; simp
      rw [e]; exact hbk)
    rw [if_pos (by rw [hL2]; simp)] at this
    exact this
  obtain ⟨i, Hi⟩ : ∃ i, Hid (l1.length = i) := ⟨_, rfl⟩
  rw [Hi.out] at HFI
  obtain ⟨Z, HZ⟩ : ∃ Z, Hid (Z = b.d.length) := ⟨_, rfl⟩
  obtain ⟨had, Hh⟩ : ∃ x, Hid (x = bl b.d) := ⟨bl b.d, Lib.hid rfl⟩
  have hhs : had.size = Z := by rw [Hh.out, bl_size, HZ.out]
  obtain ⟨nl, Hnl⟩ : ∃ x, Hid (L2.length = x) := ⟨_, rfl⟩
  have hin : i < nl := by rw [← Hnl.out, hL2, ← Hi.out]; simp
  have iInt : (i : Int) < nl := by omega
  have hz8 : Z % 8 = 0 := by rw [HZ.out]; exact hb8.1
  have hz82 : Z ≤ 8200 := by rw [HZ.out]; exact hb8.2.1
  have e80 : ((Z : Int) % 8 != 0) = false := by simp; omega
  have HL2 := Lib.hid hL2
  have HDR : Hid (∀ V, RefAt base V rp most wait L2 n D2 → Calls Try.prog 27 #[.pointer (some ⟨rp, 0, none⟩), .int .i64 i] V fun e w' => e = .returned (.tuple #[]) ∧ RefAt base w' rp most wait (l1 ++ l2) n D2 ∧ Fq base V w') := fun V h => by
    have h2 := h
    rw [HL2.out] at h2
    have := drop_any h2 (by rw [← HL2.out]; exact hL64)
    rw [Hi.out] at this
    exact this
  have HWR := Lib.hid (fun w => wrong_any p w hs)
  obtain ⟨dI, HdI⟩ : ∃ x : Int, Hid (((D2 : Nat) : Int) = x) := ⟨_, rfl⟩
  have hdI : 0 ≤ dI ∧ dI ≤ 10000000064 := by rw [← HdI.out]; omega
  have hnl64 : nl ≤ 64 := by rw [← Hnl.out]; exact hL64
  have HK := Lib.hid (And.intro hbk (And.intro hl1 hb8))
  have ho2 : (p.off == 0) = false := by simpa using ho
  have Ho := Lib.hid ho; clear ho
  clear hbk hl1 hb8 hL2 hz8 hlen
  have eo : (p.off != (Z : Int) / 8) = true := by have := HZ.out; simp; omega
  have Hj := Lib.hid hj; clear hj
  have Hm := Lib.hid hm; clear hm
  go_enter Try.func15, Try.ntmps15
  go_upto_region 4 with (first
    | (go_at_call 13; (with_reducible refine (HP.out).mono ?_); rintro e V2 ⟨rfl, hT2, hF2⟩
       (have P2 : Hid (V2.heap[w.heap.size]? = some p.rvC) := fq_41 P1.out hF2)
       (have R2 : Hid (V2.heap[w.heap.size + 1]? = some rpz) := fq_41 R1.out hF2)
       (have F2 : Hid (Fq base w V2) := F1.out.trans hF2)
       (have H2 := Lib.hid hT2)
       (clear hT2 hF2)))
  have x2 : V2.cell? ⟨w.heap.size, 2, none⟩ = some (.int .i64 p.off) := lies_cell P2.out 2
  have x1 : V2.cell? ⟨w.heap.size, 1, none⟩ = some (.bool true) := by rw [← Hm.out]; exact lies_cell P2.out 1
  go_upto_region 6 with (fail)
  clear x1 x2
  obtain ⟨q0, q1, q2, q3, q4, q5, q6, q7⟩ := cells8 P2.out
  go_upto_region 23 with (first
    | (go_at_call 26; (with_reducible refine (HFI.out _ H2.out).mono ?_); rintro e V3 ⟨rfl, hb3⟩
       (have P3 : Hid (V3.heap[w.heap.size]? = some p.rvC) := lies_below P2.out hb3 (lies_lt P2.out))
       (have R3 : Hid (V3.heap[w.heap.size + 1]? = some rpz) := lies_below R2.out hb3 (lies_lt R2.out))
       (have F3 : Hid (Fq base w V3) := F2.out.trans (Fq.of hb3 (by obtain ⟨lv, h⟩ := H2.out; exact h.lt.2)))
       (have H3 : Hid (RefAt base V3 rp most wait L2 n D2) := H2.out.below hb3)
       (clear hb3 q0 q1 q2 q3 q4 q5 q6 q7)
       (have x2 : V3.cell? ⟨w.heap.size, 2, none⟩ = some (.int .i64 p.off) := lies_cell P3.out 2)
       (obtain ⟨o, cap, hT, hR, hbo, hbr⟩ := ref_open H3.out (by rw [Hnl.out]; omega))
       (rw [Hnl.out, HdI.out] at hT)
       (have T3 := Lib.hid hT)
       (have RW3 := Lib.hid hR)
       (have HBO := Lib.hid (And.intro hbo hbr))
       (have hat := hR.at i (by rw [Hnl.out]; exact hin))
       (have hxb : L2[i]'(by rw [Hnl.out]; exact hin) = b := at_place HL2.out Hi.out _)
       (rw [hxb] at hat)
       (obtain ⟨b0, b1, b2, b3, b4, b5, b6, b7, b8, b9⟩ := hat)
       (rw [← Hh.out] at b9)
       (have t0 : V3.cell? ⟨rp, 0, none⟩ = some (.slice (some ⟨o, 0, none⟩) nl cap) := lies_cell hT 0)
       (clear hT hR hbo hbr hxb)))
  clear b0 b1 b2 b3 b4 b5 b6 b7 b8 b9 t0
  obtain ⟨q0, q1, q2, q3, q4, q5, q6, q7⟩ := cells8 P3.out
  go_upto_region 32 with (first
    | (go_at_call 28; (with_reducible refine (HWR.out _).mono ?_); rintro e V4 ⟨rfl, hb4⟩
       (have P4 : Hid (V4.heap[w.heap.size]? = some p.rvC) := lies_below P3.out hb4 (lies_lt P3.out))
       (have R4 : Hid (V4.heap[w.heap.size + 1]? = some rpz) := lies_below R3.out hb4 (lies_lt R3.out))
       (have F4 : Hid (Fq base w V4) := F3.out.trans (Fq.of hb4 (by obtain ⟨lv, h⟩ := H3.out; exact h.lt.2)))
       (have H4 : Hid (RefAt base V4 rp most wait L2 n D2) := H3.out.below hb4)
       (have z7 : V4.cell? ⟨w.heap.size, 7, none⟩ = some (.string p.s) := lies_cell P4.out 7)
       (clear hb4))
    | (go_at_call 27; (with_reducible refine (HDR.out _ H3.out).mono ?_); rintro e V5 ⟨rfl, hT5, hF5⟩
       (have R5 : Hid (V5.heap[w.heap.size + 1]? = some rpz) := fq_41 R3.out hF5)
       (have P5 : Hid (V5.heap[w.heap.size]? = some p.rvC) := fq_41 P3.out hF5)
       (have F5 : Hid (Fq base w V5) := F3.out.trans hF5)
       (obtain ⟨lv5, hT5⟩ := hT5)
       (have H5 := Lib.hid hT5)
       (clear hT5 hF5)
       (have t4 : V5.cell? ⟨rp, 4, none⟩ = some (.int .i64 dI) := by rw [← HdI.out]; exact lies_cell H5.out.tab 4)
       (have f4 := lies_frozen H5.out.tab 4)))
  have H6 : Hid (Ref base (V5.setCell ⟨rp, 4, none⟩ (.int .i64 (dI + 1))) rp most wait (l1 ++ l2) n (D2 + 1) lv5 ∧ Fq base V5 (V5.setCell ⟨rp, 4, none⟩ (.int .i64 (dI + 1)))) := H5.out.set 4 _ (by
    have := lies_set H5.out.tab 4 (.int .i64 (dI + 1))
    rw [this, ← HdI.out]
    rfl)
  have F6 : Hid (Fq base w (V5.setCell ⟨rp, 4, none⟩ (.int .i64 (dI + 1)))) := F5.out.trans H6.out.2
  have LX : Hid ((V5.setCell ⟨rp, 4, none⟩ (.int .i64 (dI + 1))).heap[w.heap.size + 1]? = some rpz) := fq_41 R5.out H6.out.2
  have H6 := Lib.hid H6.out.1
  clear t4 f4
  generalize V5.setCell ⟨rp, 4, none⟩ (.int .i64 (dI + 1)) = V6 at H6 F6 LX ⊢
  obtain ⟨r0, r1, r2, r3, r4, r5, r6, r7⟩ := cells8 LX.out
  have f0 := lies_frozen LX.out 0
  have f1 := lies_frozen LX.out 1
  have f2 := lies_frozen LX.out 2
  have f3 := lies_frozen LX.out 3
  have f4 := lies_frozen LX.out 4
  have f5 := lies_frozen LX.out 5
  have f6 := lies_frozen LX.out 6
  have f7 := lies_frozen LX.out 7
  go_wp2
  (try simp only [Exit.inBlock, Exit.then])
  obtain ⟨k0, k1, k2, k3, k4, k5, k6, k7, _⟩ := read_8 (y0 := .int .i64 0) (y1 := .bool false) (y2 := .int .i64 0) (y3 := .int .i64 0) (y4 := .int .i64 0) (y5 := .string ⟨#[]⟩) (y6 := .string ⟨#[]⟩) (y7 := .string ⟨#[]⟩) LX.out
  refine bodyPost_ret (by simp [results, Try.results15, go_sem, k0, k1, k2, k3, k4, k5, k6, k7]; try rfl) rfl ?_
  exact ⟨rfl, stored_8 ⟨_, H6.out⟩ F6.out Hb.out (by omega) LX.out _ _ _ _ _ _ _ _⟩
set_option maxHeartbeats 4000000 in
theorem rput_off_false {base : Nat} {w : World} {rp : Nat} {most : Nat} {wait : Int} {L : List Rb} {now : Int} {d : Nat} (h : RefAt base w rp most wait L now d) (hG : Good most (tbl L now d)) (hmost : most ≤ 64) (hdr : d ≤ 10000000000) (hw0 : 0 ≤ wait) (hw1 : wait ≤ 1125899906842624) (n : Int) (p : Pk) (hw : p.Wf) (hs : p.s.size ≤ 1000000000) (hp : rE now n = 0) (ho : p.off ≠ 0) {l1 l2 : List Rb} {b : Rb} (hL2 : keepB L wait n = l1 ++ b :: l2) (hbk : b.k = p.key hw) (hl1 : ∀ c ∈ l1, c.k ≠ p.key hw) (hj : p.off ≠ ((b.d.length / 8 : Nat) : Int)) (hm : p.m = false) : Calls Try.prog 15 #[.pointer (some ⟨rp, 0, none⟩), .int .i64 n, p.rv] w fun e w' => e = .returned (refans p none 25) ∧ RefAt base w' rp most wait (l1 ++ l2) n (d + (L.length - (keepB L wait n).length) + 1) ∧ Fq base w w' := by
  have hb8 : b.d.length % 8 = 0 ∧ b.d.length ≤ 8200 ∧ ∀ c ∈ l2, c.k ≠ p.key hw := by
    have hf := passed_good hG (wait := wait) (show passE (tbl L now d) n = 0 from hp)
    rw [tbl_passed, hL2] at hf
    have hm : b.bg ∈ (tbl (l1 ++ b :: l2) n (d + (L.length - (l1 ++ b :: l2).length))).l := List.mem_map.2 ⟨b, by simp, rfl⟩
    exact ⟨hf.fine.eight _ hm, hf.lens _ hm, place_rest hf.fine hbk⟩
  have hb0 : base ≤ w.heap.size := by obtain ⟨lv, h⟩ := h; exact h.lt.2
  have k1 := ((Below.refl w.heap.size w).alloc (Nat.le_refl _) p.rvC)
  have k2 := k1.alloc k1.size rpz
  have H1 : Hid (RefAt base ((w.alloc p.rvC).alloc rpz) rp most wait L now d) := h.below k2
  have P1 : Hid (((w.alloc p.rvC).alloc rpz).heap[w.heap.size]? = some p.rvC) := lies_alloc (heap_alloc_new w _) _
  have R1 : Hid (((w.alloc p.rvC).alloc rpz).heap[w.heap.size + 1]? = some rpz) := by
    have e := heap_alloc_new (w.alloc p.rvC) rpz
    rw [World.size_alloc] at e
    exact e
  have F1 : Hid (Fq base w ((w.alloc p.rvC).alloc rpz)) := Fq.of k2 hb0
  have Hb : Hid (base ≤ w.heap.size) := hb0
  clear h k1 k2 hb0
  have hlen : L.length ≤ most := by have := hG.room; simpa [tbl] using this
  have htm : ∀ b ∈ L, 0 ≤ b.at_ ∧ b.at_ ≤ now := fun b hb => hG.times b.bg (List.mem_map.2 ⟨b, hb, rfl⟩)
  have HP := Lib.hid (refPass_ok H1.out (by omega) n hp hw0 hw1 hG.now0 htm (by omega))
  have hkl := keepB_len L wait n
  generalize hL2g : (keepB L wait n) = L2 at HP hkl hL2 ⊢
  generalize hD2g : (d + (L.length - L2.length)) = D2 at HP ⊢
  have hD2 : D2 ≤ 10000000064 := by omega
  have hL64 : L2.length ≤ 64 := by omega
  clear hG htm hp hL2g hD2g
  have HFI : Hid (∀ V, RefAt base V rp most wait L2 n D2 → Calls Try.prog 26 #[.pointer (some ⟨rp, 0, none⟩), p.rv] V fun e w' => e = .returned (.int .i64 l1.length) ∧ Below V.heap.size V w') := fun V h => by
    obtain ⟨lv, h⟩ := h
    have := refFind_any h (by omega) p hw l1.length (by rw [hL2]; simp) (fun i hi hl => by
      have e : L2[i] = l1[i] := by simp only [hL2]; rw [List.getElem_append_left hi]
      rw [e]; exact hl1 _ (List.getElem_mem hi)) (fun hl => by
      have e : L2[l1.length] = b := by simp only [hL2]; rw [List.getElem_append_right (Nat.le_refl _)]; simp
      rw [e]; exact hbk)
    rw [if_pos (by rw [hL2]; simp)] at this
    exact this
  obtain ⟨i, Hi⟩ : ∃ i, Hid (l1.length = i) := ⟨_, rfl⟩
  rw [Hi.out] at HFI
  obtain ⟨Z, HZ⟩ : ∃ Z, Hid (Z = b.d.length) := ⟨_, rfl⟩
  obtain ⟨had, Hh⟩ : ∃ x, Hid (x = bl b.d) := ⟨bl b.d, Lib.hid rfl⟩
  have hhs : had.size = Z := by rw [Hh.out, bl_size, HZ.out]
  obtain ⟨nl, Hnl⟩ : ∃ x, Hid (L2.length = x) := ⟨_, rfl⟩
  have hin : i < nl := by rw [← Hnl.out, hL2, ← Hi.out]; simp
  have iInt : (i : Int) < nl := by omega
  have hz8 : Z % 8 = 0 := by rw [HZ.out]; exact hb8.1
  have hz82 : Z ≤ 8200 := by rw [HZ.out]; exact hb8.2.1
  have e80 : ((Z : Int) % 8 != 0) = false := by simp; omega
  have HL2 := Lib.hid hL2
  have HDR : Hid (∀ V, RefAt base V rp most wait L2 n D2 → Calls Try.prog 27 #[.pointer (some ⟨rp, 0, none⟩), .int .i64 i] V fun e w' => e = .returned (.tuple #[]) ∧ RefAt base w' rp most wait (l1 ++ l2) n D2 ∧ Fq base V w') := fun V h => by
    have h2 := h
    rw [HL2.out] at h2
    have := drop_any h2 (by rw [← HL2.out]; exact hL64)
    rw [Hi.out] at this
    exact this
  have HWR := Lib.hid (fun w => wrong_any p w hs)
  obtain ⟨dI, HdI⟩ : ∃ x : Int, Hid (((D2 : Nat) : Int) = x) := ⟨_, rfl⟩
  have hdI : 0 ≤ dI ∧ dI ≤ 10000000064 := by rw [← HdI.out]; omega
  have hnl64 : nl ≤ 64 := by rw [← Hnl.out]; exact hL64
  have HK := Lib.hid (And.intro hbk (And.intro hl1 hb8))
  have ho2 : (p.off == 0) = false := by simpa using ho
  have Ho := Lib.hid ho; clear ho
  clear hbk hl1 hb8 hL2 hz8 hlen
  have eo : (p.off != (Z : Int) / 8) = true := by have := HZ.out; simp; omega
  have Hj := Lib.hid hj; clear hj
  have Hm := Lib.hid hm; clear hm
  go_enter Try.func15, Try.ntmps15
  go_upto_region 4 with (first
    | (go_at_call 13; (with_reducible refine (HP.out).mono ?_); rintro e V2 ⟨rfl, hT2, hF2⟩
       (have P2 : Hid (V2.heap[w.heap.size]? = some p.rvC) := fq_41 P1.out hF2)
       (have R2 : Hid (V2.heap[w.heap.size + 1]? = some rpz) := fq_41 R1.out hF2)
       (have F2 : Hid (Fq base w V2) := F1.out.trans hF2)
       (have H2 := Lib.hid hT2)
       (clear hT2 hF2)))
  have x2 : V2.cell? ⟨w.heap.size, 2, none⟩ = some (.int .i64 p.off) := lies_cell P2.out 2
  have x1 : V2.cell? ⟨w.heap.size, 1, none⟩ = some (.bool false) := by rw [← Hm.out]; exact lies_cell P2.out 1
  go_upto_region 6 with (fail)
  clear x1 x2
  obtain ⟨q0, q1, q2, q3, q4, q5, q6, q7⟩ := cells8 P2.out
  go_upto_region 23 with (first
    | (go_at_call 26; (with_reducible refine (HFI.out _ H2.out).mono ?_); rintro e V3 ⟨rfl, hb3⟩
       (have P3 : Hid (V3.heap[w.heap.size]? = some p.rvC) := lies_below P2.out hb3 (lies_lt P2.out))
       (have R3 : Hid (V3.heap[w.heap.size + 1]? = some rpz) := lies_below R2.out hb3 (lies_lt R2.out))
       (have F3 : Hid (Fq base w V3) := F2.out.trans (Fq.of hb3 (by obtain ⟨lv, h⟩ := H2.out; exact h.lt.2)))
       (have H3 : Hid (RefAt base V3 rp most wait L2 n D2) := H2.out.below hb3)
       (clear hb3 q0 q1 q2 q3 q4 q5 q6 q7)
       (have x2 : V3.cell? ⟨w.heap.size, 2, none⟩ = some (.int .i64 p.off) := lies_cell P3.out 2)
       (obtain ⟨o, cap, hT, hR, hbo, hbr⟩ := ref_open H3.out (by rw [Hnl.out]; omega))
       (rw [Hnl.out, HdI.out] at hT)
       (have T3 := Lib.hid hT)
       (have RW3 := Lib.hid hR)
       (have HBO := Lib.hid (And.intro hbo hbr))
       (have hat := hR.at i (by rw [Hnl.out]; exact hin))
       (have hxb : L2[i]'(by rw [Hnl.out]; exact hin) = b := at_place HL2.out Hi.out _)
       (rw [hxb] at hat)
       (obtain ⟨b0, b1, b2, b3, b4, b5, b6, b7, b8, b9⟩ := hat)
       (rw [← Hh.out] at b9)
       (have t0 : V3.cell? ⟨rp, 0, none⟩ = some (.slice (some ⟨o, 0, none⟩) nl cap) := lies_cell hT 0)
       (clear hT hR hbo hbr hxb)))
  clear b0 b1 b2 b3 b4 b5 b6 b7 b8 b9 t0
  obtain ⟨q0, q1, q2, q3, q4, q5, q6, q7⟩ := cells8 P3.out
  go_upto_region 32 with (first
    | (go_at_call 28; (with_reducible refine (HWR.out _).mono ?_); rintro e V4 ⟨rfl, hb4⟩
       (have P4 : Hid (V4.heap[w.heap.size]? = some p.rvC) := lies_below P3.out hb4 (lies_lt P3.out))
       (have R4 : Hid (V4.heap[w.heap.size + 1]? = some rpz) := lies_below R3.out hb4 (lies_lt R3.out))
       (have F4 : Hid (Fq base w V4) := F3.out.trans (Fq.of hb4 (by obtain ⟨lv, h⟩ := H3.out; exact h.lt.2)))
       (have H4 : Hid (RefAt base V4 rp most wait L2 n D2) := H3.out.below hb4)
       (have z7 : V4.cell? ⟨w.heap.size, 7, none⟩ = some (.string p.s) := lies_cell P4.out 7)
       (clear hb4))
    | (go_at_call 27; (with_reducible refine (HDR.out _ H3.out).mono ?_); rintro e V5 ⟨rfl, hT5, hF5⟩
       (have R5 : Hid (V5.heap[w.heap.size + 1]? = some rpz) := fq_41 R3.out hF5)
       (have P5 : Hid (V5.heap[w.heap.size]? = some p.rvC) := fq_41 P3.out hF5)
       (have F5 : Hid (Fq base w V5) := F3.out.trans hF5)
       (obtain ⟨lv5, hT5⟩ := hT5)
       (have H5 := Lib.hid hT5)
       (clear hT5 hF5)
       (have t4 : V5.cell? ⟨rp, 4, none⟩ = some (.int .i64 dI) := by rw [← HdI.out]; exact lies_cell H5.out.tab 4)
       (have f4 := lies_frozen H5.out.tab 4)))
  have H6 : Hid (Ref base (V5.setCell ⟨rp, 4, none⟩ (.int .i64 (dI + 1))) rp most wait (l1 ++ l2) n (D2 + 1) lv5 ∧ Fq base V5 (V5.setCell ⟨rp, 4, none⟩ (.int .i64 (dI + 1)))) := H5.out.set 4 _ (by
    have := lies_set H5.out.tab 4 (.int .i64 (dI + 1))
    rw [this, ← HdI.out]
    rfl)
  have F6 : Hid (Fq base w (V5.setCell ⟨rp, 4, none⟩ (.int .i64 (dI + 1)))) := F5.out.trans H6.out.2
  have LX : Hid ((V5.setCell ⟨rp, 4, none⟩ (.int .i64 (dI + 1))).heap[w.heap.size + 1]? = some rpz) := fq_41 R5.out H6.out.2
  have H6 := Lib.hid H6.out.1
  clear t4 f4
  generalize V5.setCell ⟨rp, 4, none⟩ (.int .i64 (dI + 1)) = V6 at H6 F6 LX ⊢
  obtain ⟨r0, r1, r2, r3, r4, r5, r6, r7⟩ := cells8 LX.out
  have f0 := lies_frozen LX.out 0
  have f1 := lies_frozen LX.out 1
  have f2 := lies_frozen LX.out 2
  have f3 := lies_frozen LX.out 3
  have f4 := lies_frozen LX.out 4
  have f5 := lies_frozen LX.out 5
  have f6 := lies_frozen LX.out 6
  have f7 := lies_frozen LX.out 7
  go_wp2
  (try simp only [Exit.inBlock, Exit.then])
  obtain ⟨k0, k1, k2, k3, k4, k5, k6, k7, _⟩ := read_8 (y0 := .int .i64 0) (y1 := .bool false) (y2 := .int .i64 0) (y3 := .int .i64 0) (y4 := .int .i64 0) (y5 := .string ⟨#[]⟩) (y6 := .string ⟨#[]⟩) (y7 := .string ⟨#[]⟩) LX.out
  refine bodyPost_ret (by simp [results, Try.results15, go_sem, k0, k1, k2, k3, k4, k5, k6, k7]; try rfl) rfl ?_
  exact ⟨rfl, stored_8 ⟨_, H6.out⟩ F6.out Hb.out (by omega) LX.out _ _ _ _ _ _ _ _⟩
end Go.Proofs.Ytgdjcoodjdckkaa
/- The document's Put: a part that is wrong. -/
set_option maxRecDepth 100000
namespace Go.Proofs.Ytgdjcoodjdckkaa
open Go.RowKit Go.Proofs.PitotIp Go.Maps
open Go.Proofs.PitotReasm (Bg Tb Fine bad first next passed passE put keep)
open Go.Proofs.Ytgdjcoodjdckkaa.Bi (lies_lt lies_cell lies_frozen lies_alloc lies_set)

set_option maxHeartbeats 4000000 in
theorem rput_field {base : Nat} {w : World} {rp : Nat} {most : Nat} {wait : Int} {L : List Rb} {now : Int} {d : Nat} (h : RefAt base w rp most wait L now d) (hG : Good most (tbl L now d)) (hmost : most ≤ 64) (hdr : d ≤ 10000000000) (hw0 : 0 ≤ wait) (hw1 : wait ≤ 1125899906842624) (n : Int) (p : Pk) (hw : p.Wf) (hs : p.s.size ≤ 1000000000) (hp : rE now n = 0) (ho : p.off ≠ 0) {l1 l2 : List Rb} {b : Rb} (hL2 : keepB L wait n = l1 ++ b :: l2) (hbk : b.k = p.key hw) (hl1 : ∀ c ∈ l1, c.k ≠ p.key hw) (hj : p.off = ((b.d.length / 8 : Nat) : Int)) (hm : p.m = true) (hbd : bad p.m p.d = true) : Calls Try.prog 15 #[.pointer (some ⟨rp, 0, none⟩), .int .i64 n, p.rv] w fun e w' => e = .returned (refans p none 15) ∧ RefAt base w' rp most wait (l1 ++ l2) n (d + (L.length - (keepB L wait n).length) + 1) ∧ Fq base w w' := by
  have hb8 : b.d.length % 8 = 0 ∧ b.d.length ≤ 8200 ∧ ∀ c ∈ l2, c.k ≠ p.key hw := by
    have hf := passed_good hG (wait := wait) (show passE (tbl L now d) n = 0 from hp)
    rw [tbl_passed, hL2] at hf
    have hm : b.bg ∈ (tbl (l1 ++ b :: l2) n (d + (L.length - (l1 ++ b :: l2).length))).l := List.mem_map.2 ⟨b, by simp, rfl⟩
    exact ⟨hf.fine.eight _ hm, hf.lens _ hm, place_rest hf.fine hbk⟩
  have hb0 : base ≤ w.heap.size := by obtain ⟨lv, h⟩ := h; exact h.lt.2
  have k1 := ((Below.refl w.heap.size w).alloc (Nat.le_refl _) p.rvC)
  have k2 := k1.alloc k1.size rpz
  have H1 : Hid (RefAt base ((w.alloc p.rvC).alloc rpz) rp most wait L now d) := h.below k2
  have P1 : Hid (((w.alloc p.rvC).alloc rpz).heap[w.heap.size]? = some p.rvC) := lies_alloc (heap_alloc_new w _) _
  have R1 : Hid (((w.alloc p.rvC).alloc rpz).heap[w.heap.size + 1]? = some rpz) := by
    have e := heap_alloc_new (w.alloc p.rvC) rpz
    rw [World.size_alloc] at e
    exact e
  have F1 : Hid (Fq base w ((w.alloc p.rvC).alloc rpz)) := Fq.of k2 hb0
  have Hb : Hid (base ≤ w.heap.size) := hb0
  clear h k1 k2 hb0
  have hlen : L.length ≤ most := by have := hG.room; simpa [tbl] using this
  have htm : ∀ b ∈ L, 0 ≤ b.at_ ∧ b.at_ ≤ now := fun b hb => hG.times b.bg (List.mem_map.2 ⟨b, hb, rfl⟩)
  have HP := Lib.hid (refPass_ok H1.out (by omega) n hp hw0 hw1 hG.now0 htm (by omega))
  have hkl := keepB_len L wait n
  generalize hL2g : (keepB L wait n) = L2 at HP hkl hL2 ⊢
  generalize hD2g : (d + (L.length - L2.length)) = D2 at HP ⊢
  have hD2 : D2 ≤ 10000000064 := by omega
  have hL64 : L2.length ≤ 64 := by omega
  clear hG htm hp hL2g hD2g
  have HFI : Hid (∀ V, RefAt base V rp most wait L2 n D2 → Calls Try.prog 26 #[.pointer (some ⟨rp, 0, none⟩), p.rv] V fun e w' => e = .returned (.int .i64 l1.length) ∧ Below V.heap.size V w') := fun V h => by
    obtain ⟨lv, h⟩ := h
    have := refFind_any h (by omega) p hw l1.length (by rw [hL2]; simp) (fun i hi hl => by
      have e : L2[i] = l1[i] := by simp only [hL2]; rw [List.getElem_append_left hi]
      rw [e]; exact hl1 _ (List.getElem_mem hi)) (fun hl => by
      have e : L2[l1.length] = b := by simp only [hL2]; rw [List.getElem_append_right (Nat.le_refl _)]; simp
      rw [e]; exact hbk)
    rw [if_pos (by rw [hL2]; simp)] at this
    exact this
  obtain ⟨i, Hi⟩ : ∃ i, Hid (l1.length = i) := ⟨_, rfl⟩
  rw [Hi.out] at HFI
  obtain ⟨Z, HZ⟩ : ∃ Z, Hid (Z = b.d.length) := ⟨_, rfl⟩
  obtain ⟨had, Hh⟩ : ∃ x, Hid (x = bl b.d) := ⟨bl b.d, Lib.hid rfl⟩
  have hhs : had.size = Z := by rw [Hh.out, bl_size, HZ.out]
  obtain ⟨nl, Hnl⟩ : ∃ x, Hid (L2.length = x) := ⟨_, rfl⟩
  have hin : i < nl := by rw [← Hnl.out, hL2, ← Hi.out]; simp
  have iInt : (i : Int) < nl := by omega
  have hz8 : Z % 8 = 0 := by rw [HZ.out]; exact hb8.1
  have hz82 : Z ≤ 8200 := by rw [HZ.out]; exact hb8.2.1
  have e80 : ((Z : Int) % 8 != 0) = false := by simp; omega
  have HL2 := Lib.hid hL2
  have HDR : Hid (∀ V, RefAt base V rp most wait L2 n D2 → Calls Try.prog 27 #[.pointer (some ⟨rp, 0, none⟩), .int .i64 i] V fun e w' => e = .returned (.tuple #[]) ∧ RefAt base w' rp most wait (l1 ++ l2) n D2 ∧ Fq base V w') := fun V h => by
    have h2 := h
    rw [HL2.out] at h2
    have := drop_any h2 (by rw [← HL2.out]; exact hL64)
    rw [Hi.out] at this
    exact this
  have HWR := Lib.hid (fun w => wrong_any p w hs)
  obtain ⟨dI, HdI⟩ : ∃ x : Int, Hid (((D2 : Nat) : Int) = x) := ⟨_, rfl⟩
  have hdI : 0 ≤ dI ∧ dI ≤ 10000000064 := by rw [← HdI.out]; omega
  have hnl64 : nl ≤ 64 := by rw [← Hnl.out]; exact hL64
  have HK := Lib.hid (And.intro hbk (And.intro hl1 hb8))
  have ho2 : (p.off == 0) = false := by simpa using ho
  have Ho := Lib.hid ho; clear ho
  clear hbk hl1 hb8 hL2 hz8 hlen
  have eo : (p.off != (Z : Int) / 8) = false := by have := HZ.out; simp; omega
  rw [hbd] at HWR
  have Hj := Lib.hid hj; clear hj
  have Hm := Lib.hid hm; clear hm
  have Hbd := Lib.hid hbd; clear hbd
  go_enter Try.func15, Try.ntmps15
  go_upto_region 4 with (first
    | (go_at_call 13; (with_reducible refine (HP.out).mono ?_); rintro e V2 ⟨rfl, hT2, hF2⟩
       (have P2 : Hid (V2.heap[w.heap.size]? = some p.rvC) := fq_41 P1.out hF2)
       (have R2 : Hid (V2.heap[w.heap.size + 1]? = some rpz) := fq_41 R1.out hF2)
       (have F2 : Hid (Fq base w V2) := F1.out.trans hF2)
       (have H2 := Lib.hid hT2)
       (clear hT2 hF2)))
  have x2 : V2.cell? ⟨w.heap.size, 2, none⟩ = some (.int .i64 p.off) := lies_cell P2.out 2
  have x1 : V2.cell? ⟨w.heap.size, 1, none⟩ = some (.bool true) := by rw [← Hm.out]; exact lies_cell P2.out 1
  go_upto_region 6 with (fail)
  clear x1 x2
  obtain ⟨q0, q1, q2, q3, q4, q5, q6, q7⟩ := cells8 P2.out
  go_upto_region 23 with (first
    | (go_at_call 26; (with_reducible refine (HFI.out _ H2.out).mono ?_); rintro e V3 ⟨rfl, hb3⟩
       (have P3 : Hid (V3.heap[w.heap.size]? = some p.rvC) := lies_below P2.out hb3 (lies_lt P2.out))
       (have R3 : Hid (V3.heap[w.heap.size + 1]? = some rpz) := lies_below R2.out hb3 (lies_lt R2.out))
       (have F3 : Hid (Fq base w V3) := F2.out.trans (Fq.of hb3 (by obtain ⟨lv, h⟩ := H2.out; exact h.lt.2)))
       (have H3 : Hid (RefAt base V3 rp most wait L2 n D2) := H2.out.below hb3)
       (clear hb3 q0 q1 q2 q3 q4 q5 q6 q7)
       (have x2 : V3.cell? ⟨w.heap.size, 2, none⟩ = some (.int .i64 p.off) := lies_cell P3.out 2)
       (obtain ⟨o, cap, hT, hR, hbo, hbr⟩ := ref_open H3.out (by rw [Hnl.out]; omega))
       (rw [Hnl.out, HdI.out] at hT)
       (have T3 := Lib.hid hT)
       (have RW3 := Lib.hid hR)
       (have HBO := Lib.hid (And.intro hbo hbr))
       (have hat := hR.at i (by rw [Hnl.out]; exact hin))
       (have hxb : L2[i]'(by rw [Hnl.out]; exact hin) = b := at_place HL2.out Hi.out _)
       (rw [hxb] at hat)
       (obtain ⟨b0, b1, b2, b3, b4, b5, b6, b7, b8, b9⟩ := hat)
       (rw [← Hh.out] at b9)
       (have t0 : V3.cell? ⟨rp, 0, none⟩ = some (.slice (some ⟨o, 0, none⟩) nl cap) := lies_cell hT 0)
       (clear hT hR hbo hbr hxb)))
  clear b0 b1 b2 b3 b4 b5 b6 b7 b8 b9 t0
  obtain ⟨q0, q1, q2, q3, q4, q5, q6, q7⟩ := cells8 P3.out
  go_upto_region 32 with (first
    | (go_at_call 28; (with_reducible refine (HWR.out _).mono ?_); rintro e V4 ⟨rfl, hb4⟩
       (have P4 : Hid (V4.heap[w.heap.size]? = some p.rvC) := lies_below P3.out hb4 (lies_lt P3.out))
       (have R4 : Hid (V4.heap[w.heap.size + 1]? = some rpz) := lies_below R3.out hb4 (lies_lt R3.out))
       (have F4 : Hid (Fq base w V4) := F3.out.trans (Fq.of hb4 (by obtain ⟨lv, h⟩ := H3.out; exact h.lt.2)))
       (have H4 : Hid (RefAt base V4 rp most wait L2 n D2) := H3.out.below hb4)
       (have z7 : V4.cell? ⟨w.heap.size, 7, none⟩ = some (.string p.s) := lies_cell P4.out 7)
       (clear hb4))
    | (go_at_call 27; (with_reducible refine (HDR.out _ H4.out).mono ?_); rintro e V5 ⟨rfl, hT5, hF5⟩
       (have R5 : Hid (V5.heap[w.heap.size + 1]? = some rpz) := fq_41 R4.out hF5)
       (have P5 : Hid (V5.heap[w.heap.size]? = some p.rvC) := fq_41 P4.out hF5)
       (have F5 : Hid (Fq base w V5) := F4.out.trans hF5)
       (obtain ⟨lv5, hT5⟩ := hT5)
       (have H5 := Lib.hid hT5)
       (clear hT5 hF5)
       (have t4 : V5.cell? ⟨rp, 4, none⟩ = some (.int .i64 dI) := by rw [← HdI.out]; exact lies_cell H5.out.tab 4)
       (have f4 := lies_frozen H5.out.tab 4)))
  have H6 : Hid (Ref base (V5.setCell ⟨rp, 4, none⟩ (.int .i64 (dI + 1))) rp most wait (l1 ++ l2) n (D2 + 1) lv5 ∧ Fq base V5 (V5.setCell ⟨rp, 4, none⟩ (.int .i64 (dI + 1)))) := H5.out.set 4 _ (by
    have := lies_set H5.out.tab 4 (.int .i64 (dI + 1))
    rw [this, ← HdI.out]
    rfl)
  have F6 : Hid (Fq base w (V5.setCell ⟨rp, 4, none⟩ (.int .i64 (dI + 1)))) := F5.out.trans H6.out.2
  have LX : Hid ((V5.setCell ⟨rp, 4, none⟩ (.int .i64 (dI + 1))).heap[w.heap.size + 1]? = some rpz) := fq_41 R5.out H6.out.2
  have H6 := Lib.hid H6.out.1
  clear t4 f4
  generalize V5.setCell ⟨rp, 4, none⟩ (.int .i64 (dI + 1)) = V6 at H6 F6 LX ⊢
  obtain ⟨r0, r1, r2, r3, r4, r5, r6, r7⟩ := cells8 LX.out
  have f0 := lies_frozen LX.out 0
  have f1 := lies_frozen LX.out 1
  have f2 := lies_frozen LX.out 2
  have f3 := lies_frozen LX.out 3
  have f4 := lies_frozen LX.out 4
  have f5 := lies_frozen LX.out 5
  have f6 := lies_frozen LX.out 6
  have f7 := lies_frozen LX.out 7
  go_wp2
  (try simp only [Exit.inBlock, Exit.then])
  obtain ⟨k0, k1, k2, k3, k4, k5, k6, k7, _⟩ := read_8 (y0 := .int .i64 0) (y1 := .bool false) (y2 := .int .i64 0) (y3 := .int .i64 0) (y4 := .int .i64 0) (y5 := .string ⟨#[]⟩) (y6 := .string ⟨#[]⟩) (y7 := .string ⟨#[]⟩) LX.out
  refine bodyPost_ret (by simp [results, Try.results15, go_sem, k0, k1, k2, k3, k4, k5, k6, k7]; try rfl) rfl ?_
  exact ⟨rfl, stored_8 ⟨_, H6.out⟩ F6.out Hb.out (by omega) LX.out _ _ _ _ _ _ _ _⟩
end Go.Proofs.Ytgdjcoodjdckkaa
