/- Merged: Pt, Su, Sn. -/
import Derived.Test.YthicfgcnhefinaaM8
import Derived.Shelf.Small.Bits
import Derived.Shelf.Strconv.Itoa0
import Derived.Shelf.Sort.Plain
import Derived.Shelf.Slices.Turned
import Derived.Ground.Names2Prog
import Derived.Shelf.Slices.Clone
import Derived.Shelf.Slices.CompactI
import Derived.Shelf.Slices.SearchI
import Derived.Shelf.Slices.Cells
import Derived.Shelf.Slices.In.SortNone
import Derived.Ground.SlgnProg
import Derived.Shelf.SlicesE.Clone
import Derived.Test.YthicfgcnhefinaaProg
import Derived.Lib.OwnBridge
import Derived.Sort.OwnSortedInts
import Derived.Lib.RowBridge
import Derived.Lib.SlicesCompact
import Derived.Deep.AppendLies
import Derived.Deep.AppendSrc
set_option linter.unusedVariables false
/- The program finds a port; a link as it is found. -/
set_option maxRecDepth 100000
namespace Go.Proofs.Ythicfgcnhefinaa
open Go.RowKit

theorem isPid_any (qid qhost qpart qkind qvl qsub qudp qsize qdepth qfresh : Int) (qout : Bool) (ib : Nat) (id : Int) (W : World) (hI : W.heap[ib]? = some (.cells #[.int .i64 id] 3)) : Calls Try.prog 40 #[.agg #[.int .i64 qid, .int .i64 qhost, .int .i64 qpart, .int .i64 qkind, .bool qout, .int .i64 qvl, .int .i64 qsub, .int .i64 qudp, .int .i64 qsize, .int .i64 qdepth, .int .i64 qfresh], .pointer (some ⟨ib, 0, none⟩)] W fun e w' => e = .returned (.bool (decide (qid = id))) ∧ Below W.heap.size W w' := by
  have kb : Hid (Below W.heap.size W (W.alloc (.cells #[.int .i64 qid, .int .i64 qhost, .int .i64 qpart, .int .i64 qkind, .bool qout, .int .i64 qvl, .int .i64 qsub, .int .i64 qudp, .int .i64 qsize, .int .i64 qdepth, .int .i64 qfresh] 42))) := (Below.refl _ W).alloc (Nat.le_refl _) _
  have hi := lies_cell hI 0
  have hlt := lies_lt hI
  have hi2 : (W.alloc (.cells #[.int .i64 qid, .int .i64 qhost, .int .i64 qpart, .int .i64 qkind, .bool qout, .int .i64 qvl, .int .i64 qsub, .int .i64 qudp, .int .i64 qsize, .int .i64 qdepth, .int .i64 qfresh] 42)).cell? ⟨ib, 0, none⟩ = some (.int .i64 id) := (kb.out.cell hlt).trans hi
  obtain ⟨E, hE⟩ : ∃ E, decide (qid = id) = E := ⟨_, rfl⟩
  have hE' : (qid == id) = E := by rw [← hE]; rfl
  rw [hE]
  clear hi hI
  go_enter Try.func40, Try.ntmps40
  go_wp2
  go_returns
  exact ⟨rfl, kb.out⟩
def FoundP (l : List Px) (id : Int) (r : Int) : Prop := (r = -1 ∧ findPx l id = none) ∨ ∃ k, ∃ h : k < l.length, r = k ∧ findPx l id = some l[k]
set_option maxHeartbeats 2000000 in
theorem findP_any (qA : Option Addr) (m qc ib : Nat) (ports : List Px) (id : Int) (W : World) (hV : PxsAt W qA ports) (hm : ports.length = m) (hl : m ≤ maxLen) (hI : W.heap[ib]? = some (.cells #[.int .i64 id] 3)) : Calls Try.prog 39 #[.slice qA m qc, .func (.func 40) #[] #[.pointer (some ⟨ib, 0, none⟩)]] W fun e w' => (∃ r : Int, e = .returned (.int .i64 r) ∧ FoundP ports id r) ∧ Below W.heap.size W w' := by
  unfold maxLen at hl
  have HQ : Hid (∀ (qid qhost qpart qkind qvl qsub qudp qsize qdepth qfresh : Int) (qout : Bool) (w' : World), Below W.heap.size W w' → Calls Try.prog 40 #[.agg #[.int .i64 qid, .int .i64 qhost, .int .i64 qpart, .int .i64 qkind, .bool qout, .int .i64 qvl, .int .i64 qsub, .int .i64 qudp, .int .i64 qsize, .int .i64 qdepth, .int .i64 qfresh], .pointer (some ⟨ib, 0, none⟩)] w' fun e w'' => e = .returned (.bool (decide (qid = id))) ∧ Below w'.heap.size w' w'') := fun qid qhost qpart qkind qvl qsub qudp qsize qdepth qfresh qout w' hb => isPid_any qid qhost qpart qkind qvl qsub qudp qsize qdepth qfresh qout ib id w' (lies_below hI hb (lies_lt hI))
  have HV := Lib.hid hV
  have Hm := Lib.hid hm
  clear hI hV hm
  go_enter Try.func39, Try.ntmps39
  go_wp2
  go_loopw [8] (fun v8 wr => ∃ k : Nat, k ≤ m ∧ v8 = .int .i64 k ∧ Hid (findPx ports id = findPx (ports.drop k) id) ∧ Below W.heap.size W wr) (fun v8 _ => m - (intOf v8).toNat)
  case atStart => exact ⟨0, Nat.zero_le _, rfl, rfl, Below.refl _ _⟩
  case round =>
    obtain ⟨k, hk, rfl, ht, hB⟩ := hrel
    have HB := Lib.hid hB; clear hB
    by_cases hkm : k < m
    · have hkl : k < ports.length := by rw [Hm.out]; exact hkm
      have e1 : decide ((k : Int) < (m : Int)) = true := decide_eq_true (by omega)
      have e1' : decide (k < m) = true := decide_eq_true hkm
      obtain ⟨b, off, rfl, hb, hat⟩ := HV.out.get hkl
      have hat := hat.below HB.out hb
      have hs : findPx (ports.drop k) id = if decide (ports[k].id = id) = true then some ports[k] else findPx (ports.drop (k + 1)) id := by
        rw [List.drop_eq_getElem_cons hkl, findPx, List.find?_cons]
        cases decide (ports[k].id = id) <;> rfl
      have hF : ∀ x, findPx ports id = some x → x = ports[k] → FoundP ports id k := fun x h1 h2 => .inr ⟨k, hkl, rfl, by rw [h1, h2]⟩
      generalize ports[k] = x at hat hs hF
      have HC := HQ.out x.id x.host x.part x.kind x.vl x.sub x.udp x.size x.depth x.fresh x.out wr HB.out
      obtain ⟨a0, a1, a2, a3, a4, a5, a6, a7, a8, a9, a10⟩ := hat
      cases hx : decide (x.id = id)
      · rw [hx] at HC hs
        have HC := Lib.hid HC
        have HT2 : Hid (findPx ports id = findPx (ports.drop (k + 1)) id) := by show _ = _; rw [ht.out, hs]; rfl
        clear hs hx ht hF
        go_wp2_with (go_at_call 40; (with_reducible refine (HC.out).mono ?_); rintro e w2 ⟨rfl, hb2⟩)
        have HB2 := Lib.hid (HB.out.trans (hb2.mono HB.out.size))
        clear hb2
        go_roundw
        case rel => exact ⟨k + 1, by omega, by go_num, HT2, HB2.out⟩
        case measure => simp [intOf]; omega
      · rw [hx] at HC hs
        have HC := Lib.hid HC
        have HT2 : Hid (FoundP ports id k) := hF x (by rw [ht.out, hs]; rfl) rfl
        clear hs hx ht hF
        go_wp2_with (go_at_call 40; (with_reducible refine (HC.out).mono ?_); rintro e w2 ⟨rfl, hb2⟩)
        go_returns
        exact ⟨⟨_, rfl, HT2.out⟩, HB.out.trans (hb2.mono HB.out.size)⟩
    · have e1 : decide ((k : Int) < (m : Int)) = false := decide_eq_false (by omega)
      have e1' : decide (k < m) = false := decide_eq_false hkm
      have HT2 : Hid (FoundP ports id (-1)) := .inl ⟨rfl, by rw [ht.out, List.drop_of_length_le (by rw [Hm.out]; omega)]; rfl⟩
      clear ht
      go_wp2
      go_returns
      exact ⟨⟨_, rfl, HT2.out⟩, HB.out⟩
theorem findP_some {qA : Option Addr} {m qc ib : Nat} {ports : List Px} {id : Int} {W : World} {x : Px} (h : findPx ports id = some x) (hV : PxsAt W qA ports) (hm : ports.length = m) (hl : m ≤ maxLen) (hI : W.heap[ib]? = some (.cells #[.int .i64 id] 3)) : Calls Try.prog 39 #[.slice qA m qc, .func (.func 40) #[] #[.pointer (some ⟨ib, 0, none⟩)]] W fun e w' => (∃ k : Nat, e = .returned (.int .i64 k) ∧ k < m ∧ ports[k]? = some x) ∧ Below W.heap.size W w' := by
  refine (findP_any qA m qc ib ports id W hV hm hl hI).mono ?_
  rintro e w' ⟨⟨r, rfl, hr⟩, hb⟩
  rcases hr with ⟨_, h2⟩ | ⟨k, hk, rfl, h2⟩
  · rw [h] at h2; cases h2
  · rw [h] at h2
    exact ⟨⟨k, rfl, by omega, by rw [List.getElem?_eq_getElem hk]; exact h2.symm⟩, hb⟩
theorem findP_none {qA : Option Addr} {m qc ib : Nat} {ports : List Px} {id : Int} {W : World} (h : findPx ports id = none) (hV : PxsAt W qA ports) (hm : ports.length = m) (hl : m ≤ maxLen) (hI : W.heap[ib]? = some (.cells #[.int .i64 id] 3)) : Calls Try.prog 39 #[.slice qA m qc, .func (.func 40) #[] #[.pointer (some ⟨ib, 0, none⟩)]] W fun e w' => e = .returned (.int .i64 (-1)) ∧ Below W.heap.size W w' := by
  refine (findP_any qA m qc ib ports id W hV hm hl hI).mono ?_
  rintro e w' ⟨⟨r, rfl, hr⟩, hb⟩
  rcases hr with ⟨rfl, _⟩ | ⟨k, hk, rfl, h2⟩
  · exact ⟨rfl, hb⟩
  · rw [h] at h2; cases h2
set_option maxHeartbeats 4000000 in
theorem Port_none (c : Cx) (id : Int) (w : World) (hc : c.Held w) (hl : c.ports.length ≤ maxLen) (h : findPx c.ports id = none) : Calls Try.prog 15 #[c.val, .int .i64 id] w fun e w' => e = .returned (.tuple #[pz.val, .bool false]) ∧ Below w.heap.size w w' := by
  have HV : Hid (PxsAt w c.portsA c.ports) := hc.2.2.2
  clear hc
  obtain ⟨hosts, pA, pc, parts, major, wA, wk, wins, vA, vc, vls, qA, qc, ports⟩ := c
  simp only at HV hl h ⊢
  obtain ⟨m, Hm⟩ : ∃ m, Hid (ports.length = m) := ⟨_, rfl⟩
  show Calls Try.prog 15 #[.agg #[.int .i64 hosts, .slice pA parts.length pc, .int .i64 major, .slice wA wins.length wk, .slice vA vls.length vc, .slice qA ports.length qc], .int .i64 id] w _
  rw [Hm.out] at hl ⊢
  generalize wins.length = wl, parts.length = pl, vls.length = vl
  have BB : Hid (Below w.heap.size w (((w.alloc (.cells #[.int .i64 hosts, .slice pA pl pc, .int .i64 major, .slice wA wl wk, .slice vA vl vc, .slice qA m qc] 27)).alloc (.cells #[.int .i64 id] 3)).alloc (.cells #[.int .i64 0, .int .i64 0, .int .i64 0, .int .i64 0, .bool false, .int .i64 0, .int .i64 0, .int .i64 0, .int .i64 0, .int .i64 0, .int .i64 0] 42))) := by
    have k1 : Below w.heap.size w (w.alloc (.cells #[.int .i64 hosts, .slice pA pl pc, .int .i64 major, .slice wA wl wk, .slice vA vl vc, .slice qA m qc] 27)) := (Below.refl _ w).alloc (Nat.le_refl _) _
    have k2 := k1.alloc k1.size (.cells #[.int .i64 id] 3)
    exact k2.alloc k2.size _
  have CB : Hid ((((w.alloc (.cells #[.int .i64 hosts, .slice pA pl pc, .int .i64 major, .slice wA wl wk, .slice vA vl vc, .slice qA m qc] 27)).alloc (.cells #[.int .i64 id] 3)).alloc (.cells #[.int .i64 0, .int .i64 0, .int .i64 0, .int .i64 0, .bool false, .int .i64 0, .int .i64 0, .int .i64 0, .int .i64 0, .int .i64 0, .int .i64 0] 42)).heap[w.heap.size]? = some (.cells #[.int .i64 hosts, .slice pA pl pc, .int .i64 major, .slice wA wl wk, .slice vA vl vc, .slice qA m qc] 27)) := lies_alloc (lies_alloc (heap_alloc_new w _) _) _
  have IB : Hid ((((w.alloc (.cells #[.int .i64 hosts, .slice pA pl pc, .int .i64 major, .slice wA wl wk, .slice vA vl vc, .slice qA m qc] 27)).alloc (.cells #[.int .i64 id] 3)).alloc (.cells #[.int .i64 0, .int .i64 0, .int .i64 0, .int .i64 0, .bool false, .int .i64 0, .int .i64 0, .int .i64 0, .int .i64 0, .int .i64 0, .int .i64 0] 42)).heap[w.heap.size + 1]? = some (.cells #[.int .i64 id] 3)) := by
    have := heap_alloc_new (w.alloc (.cells #[.int .i64 hosts, .slice pA pl pc, .int .i64 major, .slice wA wl wk, .slice vA vl vc, .slice qA m qc] 27)) (.cells #[.int .i64 id] 3)
    rw [World.size_alloc] at this
    exact lies_alloc this _
  have ZB : Hid ((((w.alloc (.cells #[.int .i64 hosts, .slice pA pl pc, .int .i64 major, .slice wA wl wk, .slice vA vl vc, .slice qA m qc] 27)).alloc (.cells #[.int .i64 id] 3)).alloc (.cells #[.int .i64 0, .int .i64 0, .int .i64 0, .int .i64 0, .bool false, .int .i64 0, .int .i64 0, .int .i64 0, .int .i64 0, .int .i64 0, .int .i64 0] 42)).heap[w.heap.size + 2]? = some (.cells #[.int .i64 0, .int .i64 0, .int .i64 0, .int .i64 0, .bool false, .int .i64 0, .int .i64 0, .int .i64 0, .int .i64 0, .int .i64 0, .int .i64 0] 42)) := by
    have := heap_alloc_new ((w.alloc (.cells #[.int .i64 hosts, .slice pA pl pc, .int .i64 major, .slice wA wl wk, .slice vA vl vc, .slice qA m qc] 27)).alloc (.cells #[.int .i64 id] 3)) (.cells #[.int .i64 0, .int .i64 0, .int .i64 0, .int .i64 0, .bool false, .int .i64 0, .int .i64 0, .int .i64 0, .int .i64 0, .int .i64 0, .int .i64 0] 42)
    rw [World.size_alloc, World.size_alloc] at this
    exact this
  have HF := Lib.hid (findP_none (qc := qc) (W := ((w.alloc (.cells #[.int .i64 hosts, .slice pA pl pc, .int .i64 major, .slice wA wl wk, .slice vA vl vc, .slice qA m qc] 27)).alloc (.cells #[.int .i64 id] 3)).alloc (.cells #[.int .i64 0, .int .i64 0, .int .i64 0, .int .i64 0, .bool false, .int .i64 0, .int .i64 0, .int .i64 0, .int .i64 0, .int .i64 0, .int .i64 0] 42)) h (PxsAt.below HV.out BB.out) Hm.out hl IB.out)
  go_enter Try.func15, Try.ntmps15
  go_upto_region 1 with (fail)
  generalize ((w.alloc (.cells #[.int .i64 hosts, .slice pA pl pc, .int .i64 major, .slice wA wl wk, .slice vA vl vc, .slice qA m qc] 27)).alloc (.cells #[.int .i64 id] 3)).alloc (.cells #[.int .i64 0, .int .i64 0, .int .i64 0, .int .i64 0, .bool false, .int .i64 0, .int .i64 0, .int .i64 0, .int .i64 0, .int .i64 0, .int .i64 0] 42) = W1 at BB CB IB ZB HF ⊢
  obtain ⟨c0, c1, c2, c3, c4, c5⟩ := cells_6 CB.out
  have e1 : decide ((-1 : Int) < 0) = true := rfl
  go_upto_region 3 with (go_at_call 39; (with_reducible refine (HF.out).mono ?_); rintro e w2 ⟨rfl, hb2⟩)
  have Z2 := Lib.hid (lies_below ZB.out hb2 (lies_lt ZB.out))
  have B2 := Lib.hid (BB.out.trans (hb2.mono BB.out.size))
  clear hb2 c0 c1 c2 c3 c4 c5
  obtain ⟨z0, z1, z2, z3, z4, z5, z6, z7, z8, z9, z10⟩ := cells_11 Z2.out
  have f0 := lies_frozen Z2.out 0
  have f1 := lies_frozen Z2.out 1
  have f2 := lies_frozen Z2.out 2
  have f3 := lies_frozen Z2.out 3
  have f4 := lies_frozen Z2.out 4
  have f5 := lies_frozen Z2.out 5
  have f6 := lies_frozen Z2.out 6
  have f7 := lies_frozen Z2.out 7
  have f8 := lies_frozen Z2.out 8
  have f9 := lies_frozen Z2.out 9
  have f10 := lies_frozen Z2.out 10
  have hz := zero_Px
  go_wp2
  (try simp only [Exit.inBlock, Exit.then])
  obtain ⟨k0, k1, k2, k3, k4, k5, k6, k7, k8, k9, k10, _⟩ := read_11 (y0 := .int .i64 0) (y1 := .int .i64 0) (y2 := .int .i64 0) (y3 := .int .i64 0) (y4 := .bool false) (y5 := .int .i64 0) (y6 := .int .i64 0) (y7 := .int .i64 0) (y8 := .int .i64 0) (y9 := .int .i64 0) (y10 := .int .i64 0) Z2.out
  refine bodyPost_ret (by simp [results, Try.results15, go_sem, k0, k1, k2, k3, k4, k5, k6, k7, k8, k9, k10]; try rfl) rfl ?_
  exact ⟨rfl, below_11 B2.out (by omega) _ _ _ _ _ _ _ _ _ _ _⟩
set_option maxHeartbeats 4000000 in
theorem Port_some (c : Cx) (id : Int) (x : Px) (w : World) (hc : c.Held w) (hl : c.ports.length ≤ maxLen) (h : findPx c.ports id = some x) : Calls Try.prog 15 #[c.val, .int .i64 id] w fun e w' => e = .returned (.tuple #[x.val, .bool true]) ∧ Below w.heap.size w w' := by
  have HV : Hid (PxsAt w c.portsA c.ports) := hc.2.2.2
  clear hc
  obtain ⟨hosts, pA, pc, parts, major, wA, wk, wins, vA, vc, vls, qA, qc, ports⟩ := c
  simp only at HV hl h ⊢
  obtain ⟨m, Hm⟩ : ∃ m, Hid (ports.length = m) := ⟨_, rfl⟩
  show Calls Try.prog 15 #[.agg #[.int .i64 hosts, .slice pA parts.length pc, .int .i64 major, .slice wA wins.length wk, .slice vA vls.length vc, .slice qA ports.length qc], .int .i64 id] w _
  rw [Hm.out] at hl ⊢
  generalize wins.length = wl, parts.length = pl, vls.length = vl
  obtain ⟨xid, xhost, xpart, xkind, xout, xvl, xsub, xudp, xsize, xdepth, xfresh⟩ := x
  have hne : 0 < ports.length := by
    rcases Nat.eq_zero_or_pos ports.length with h0 | h0
    · rw [List.length_eq_zero_iff.1 h0] at h; cases h
    · exact h0
  obtain ⟨b, off, rfl, hbw, _⟩ := HV.out.get hne
  have BB : Hid (Below w.heap.size w (((w.alloc (.cells #[.int .i64 hosts, .slice pA pl pc, .int .i64 major, .slice wA wl wk, .slice vA vl vc, .slice (some ⟨b, off, none⟩) m qc] 27)).alloc (.cells #[.int .i64 id] 3)).alloc (.cells #[.int .i64 0, .int .i64 0, .int .i64 0, .int .i64 0, .bool false, .int .i64 0, .int .i64 0, .int .i64 0, .int .i64 0, .int .i64 0, .int .i64 0] 42))) := by
    have k1 : Below w.heap.size w (w.alloc (.cells #[.int .i64 hosts, .slice pA pl pc, .int .i64 major, .slice wA wl wk, .slice vA vl vc, .slice (some ⟨b, off, none⟩) m qc] 27)) := (Below.refl _ w).alloc (Nat.le_refl _) _
    have k2 := k1.alloc k1.size (.cells #[.int .i64 id] 3)
    exact k2.alloc k2.size _
  have CB : Hid ((((w.alloc (.cells #[.int .i64 hosts, .slice pA pl pc, .int .i64 major, .slice wA wl wk, .slice vA vl vc, .slice (some ⟨b, off, none⟩) m qc] 27)).alloc (.cells #[.int .i64 id] 3)).alloc (.cells #[.int .i64 0, .int .i64 0, .int .i64 0, .int .i64 0, .bool false, .int .i64 0, .int .i64 0, .int .i64 0, .int .i64 0, .int .i64 0, .int .i64 0] 42)).heap[w.heap.size]? = some (.cells #[.int .i64 hosts, .slice pA pl pc, .int .i64 major, .slice wA wl wk, .slice vA vl vc, .slice (some ⟨b, off, none⟩) m qc] 27)) := lies_alloc (lies_alloc (heap_alloc_new w _) _) _
  have IB : Hid ((((w.alloc (.cells #[.int .i64 hosts, .slice pA pl pc, .int .i64 major, .slice wA wl wk, .slice vA vl vc, .slice (some ⟨b, off, none⟩) m qc] 27)).alloc (.cells #[.int .i64 id] 3)).alloc (.cells #[.int .i64 0, .int .i64 0, .int .i64 0, .int .i64 0, .bool false, .int .i64 0, .int .i64 0, .int .i64 0, .int .i64 0, .int .i64 0, .int .i64 0] 42)).heap[w.heap.size + 1]? = some (.cells #[.int .i64 id] 3)) := by
    have := heap_alloc_new (w.alloc (.cells #[.int .i64 hosts, .slice pA pl pc, .int .i64 major, .slice wA wl wk, .slice vA vl vc, .slice (some ⟨b, off, none⟩) m qc] 27)) (.cells #[.int .i64 id] 3)
    rw [World.size_alloc] at this
    exact lies_alloc this _
  have ZB : Hid ((((w.alloc (.cells #[.int .i64 hosts, .slice pA pl pc, .int .i64 major, .slice wA wl wk, .slice vA vl vc, .slice (some ⟨b, off, none⟩) m qc] 27)).alloc (.cells #[.int .i64 id] 3)).alloc (.cells #[.int .i64 0, .int .i64 0, .int .i64 0, .int .i64 0, .bool false, .int .i64 0, .int .i64 0, .int .i64 0, .int .i64 0, .int .i64 0, .int .i64 0] 42)).heap[w.heap.size + 2]? = some (.cells #[.int .i64 0, .int .i64 0, .int .i64 0, .int .i64 0, .bool false, .int .i64 0, .int .i64 0, .int .i64 0, .int .i64 0, .int .i64 0, .int .i64 0] 42)) := by
    have := heap_alloc_new ((w.alloc (.cells #[.int .i64 hosts, .slice pA pl pc, .int .i64 major, .slice wA wl wk, .slice vA vl vc, .slice (some ⟨b, off, none⟩) m qc] 27)).alloc (.cells #[.int .i64 id] 3)) (.cells #[.int .i64 0, .int .i64 0, .int .i64 0, .int .i64 0, .bool false, .int .i64 0, .int .i64 0, .int .i64 0, .int .i64 0, .int .i64 0, .int .i64 0] 42)
    rw [World.size_alloc, World.size_alloc] at this
    exact this
  have HF := Lib.hid (findP_some (qc := qc) (W := ((w.alloc (.cells #[.int .i64 hosts, .slice pA pl pc, .int .i64 major, .slice wA wl wk, .slice vA vl vc, .slice (some ⟨b, off, none⟩) m qc] 27)).alloc (.cells #[.int .i64 id] 3)).alloc (.cells #[.int .i64 0, .int .i64 0, .int .i64 0, .int .i64 0, .bool false, .int .i64 0, .int .i64 0, .int .i64 0, .int .i64 0, .int .i64 0, .int .i64 0] 42)) h (PxsAt.below HV.out BB.out) Hm.out hl IB.out)
  go_enter Try.func15, Try.ntmps15
  go_upto_region 1 with (fail)
  generalize ((w.alloc (.cells #[.int .i64 hosts, .slice pA pl pc, .int .i64 major, .slice wA wl wk, .slice vA vl vc, .slice (some ⟨b, off, none⟩) m qc] 27)).alloc (.cells #[.int .i64 id] 3)).alloc (.cells #[.int .i64 0, .int .i64 0, .int .i64 0, .int .i64 0, .bool false, .int .i64 0, .int .i64 0, .int .i64 0, .int .i64 0, .int .i64 0, .int .i64 0] 42) = W1 at BB CB IB ZB HF ⊢
  obtain ⟨c0, c1, c2, c3, c4, c5⟩ := cells_6 CB.out
  go_upto_region 2 with (go_at_call 39; (with_reducible refine (HF.out).mono ?_); rintro e w2 ⟨⟨k, rfl, hk, hkx⟩, hb2⟩)
  have C2 := Lib.hid (lies_below CB.out hb2 (lies_lt CB.out))
  have Z2 := Lib.hid (lies_below ZB.out hb2 (lies_lt ZB.out))
  have B2 := Lib.hid (BB.out.trans (hb2.mono BB.out.size))
  clear hb2 c0 c1 c2 c3 c4 c5 HF CB ZB IB BB
  have hkl : k < ports.length := by rw [Hm.out]; exact hk
  obtain ⟨b2, off2, eb, hb, hat⟩ := HV.out.get hkl
  injection eb with eb; injection eb with eb e3 _; subst eb; subst e3
  rw [List.getElem?_eq_getElem hkl] at hkx
  injection hkx with hkx
  rw [hkx] at hat
  have hat := hat.below B2.out hb
  simp only [PxAt] at hat
  obtain ⟨a0, a1, a2, a3, a4, a5, a6, a7, a8, a9, a10⟩ := hat
  obtain ⟨c0, c1, c2, c3, c4, c5⟩ := cells_6 C2.out
  have e1 : decide ((k : Int) < 0) = false := decide_eq_false (by omega)
  have hkI : (k : Int) < (m : Int) := by omega
  have hk0 : 0 ≤ (k : Int) := by omega
  obtain ⟨z0, z1, z2, z3, z4, z5, z6, z7, z8, z9, z10⟩ := cells_11 Z2.out
  have f0 := lies_frozen Z2.out 0
  have f1 := lies_frozen Z2.out 1
  have f2 := lies_frozen Z2.out 2
  have f3 := lies_frozen Z2.out 3
  have f4 := lies_frozen Z2.out 4
  have f5 := lies_frozen Z2.out 5
  have f6 := lies_frozen Z2.out 6
  have f7 := lies_frozen Z2.out 7
  have f8 := lies_frozen Z2.out 8
  have f9 := lies_frozen Z2.out 9
  have f10 := lies_frozen Z2.out 10
  go_wp2
  (try simp only [Exit.inBlock, Exit.then])
  obtain ⟨k0, k1, k2, k3, k4, k5, k6, k7, k8, k9, k10, _⟩ := read_11 (y0 := .int .i64 xid) (y1 := .int .i64 xhost) (y2 := .int .i64 xpart) (y3 := .int .i64 xkind) (y4 := .bool xout) (y5 := .int .i64 xvl) (y6 := .int .i64 xsub) (y7 := .int .i64 xudp) (y8 := .int .i64 xsize) (y9 := .int .i64 xdepth) (y10 := .int .i64 xfresh) Z2.out
  refine bodyPost_ret (by simp [results, Try.results15, go_sem, k0, k1, k2, k3, k4, k5, k6, k7, k8, k9, k10]; try rfl) rfl ?_
  exact ⟨rfl, below_11 B2.out (by omega) _ _ _ _ _ _ _ _ _ _ _⟩
/-- Port of any number. -/
theorem Port_any (c : Cx) (id : Int) (w : World) (hc : c.Held w) (hl : c.ports.length ≤ maxLen) : Calls Try.prog 15 #[c.val, .int .i64 id] w fun e w' => e = .returned (.tuple #[((findPx c.ports id).getD pz).val, .bool (findPx c.ports id).isSome]) ∧ Below w.heap.size w w' := by
  cases h : findPx c.ports id with
  | none => exact Port_none c id w hc hl h
  | some x => exact Port_some c id x w hc hl h
/-- VL of any number. -/
theorem VL_any (c : Cx) (id : Int) (w : World) (hc : c.Held w) (hl : c.vls.length ≤ maxLen) (htl : ∀ v ∈ c.vls, v.to.length ≤ 1000) : Calls Try.prog 13 #[c.val, .int .i64 id] w fun e w' => (∃ A cap, e = .returned (.tuple #[.agg #[.int .i64 ((findVx c.vls id).getD vz).id, .int .i64 ((findVx c.vls id).getD vz).host, .int .i64 ((findVx c.vls id).getD vz).bag, .int .i64 ((findVx c.vls id).getD vz).smax, .bool ((findVx c.vls id).getD vz).high, .int .i64 ((findVx c.vls id).getD vz).subs, .int .i64 ((findVx c.vls id).getD vz).skew, .slice A ((findVx c.vls id).getD vz).to.length cap], .bool (findVx c.vls id).isSome]) ∧ IntsAt w' A ((findVx c.vls id).getD vz).to) ∧ Below w.heap.size w w' := by
  cases h : findVx c.vls id with
  | none =>
    refine (VL_none c id w hc hl h).mono ?_
    rintro e w' ⟨rfl, hb⟩
    exact ⟨⟨none, 0, rfl, fun h => absurd rfl h⟩, hb⟩
  | some x => exact VL_some c id x w hc hl h (htl x (List.mem_of_find?_eq_some h))
end Go.Proofs.Ythicfgcnhefinaa
/- The contracts of the library functions that the program calls, laid over this program by the kit's own command in plain words. -/
namespace Go.Proofs
open Go.Shelf
def Try.lays189_ren : Go.Shelf.Ren := ⟨fun | 189 => 54 | 125 => 66 | 257 => 65 | 128 => 78 | 129 => 79 | 294 => 69 | 295 => 70 | 296 => 71 | 297 => 72 | 298 => 73 | 299 => 74 | 216 => 75 | 300 => 76 | 301 => 77 | 328 => 80 | 329 => 81 | 330 => 82 | 331 => 83 | 332 => 84 | 215 => 85 | 343 => 86 | n => n, fun | 28 => 22 | 3 => 3 | 46 => 85 | 0 => 0 | 51 => 97 | 53 => 99 | 4 => 4 | 183 => 89 | 182 => 88 | 131 => 94 | 5 => 5 | 9 => 9 | 218 => 100 | 222 => 104 | 228 => 106 | 229 => 107 | n => n, fun | n => n⟩
theorem Try.lays189 : Go.Proofs.Lays.n189 Try.prog Try.lays189_ren := {
  mixed := by kernel_rfl
  f125 := Try.func66.trans (congrArg some (by kernel_rfl))
  f128 := Try.func78.trans (congrArg some (by kernel_rfl))
  f129 := Try.func79.trans (congrArg some (by kernel_rfl))
  f189 := Try.func54.trans (congrArg some (by kernel_rfl))
  f215 := Try.func85.trans (congrArg some (by kernel_rfl))
  f216 := Try.func75.trans (congrArg some (by kernel_rfl))
  f257 := Try.func65.trans (congrArg some (by kernel_rfl))
  f294 := Try.func69.trans (congrArg some (by kernel_rfl))
  f295 := Try.func70.trans (congrArg some (by kernel_rfl))
  f296 := Try.func71.trans (congrArg some (by kernel_rfl))
  f297 := Try.func72.trans (congrArg some (by kernel_rfl))
  f298 := Try.func73.trans (congrArg some (by kernel_rfl))
  f299 := Try.func74.trans (congrArg some (by kernel_rfl))
  f300 := Try.func76.trans (congrArg some (by kernel_rfl))
  f301 := Try.func77.trans (congrArg some (by kernel_rfl))
  f328 := Try.func80.trans (congrArg some (by kernel_rfl))
  f329 := Try.func81.trans (congrArg some (by kernel_rfl))
  f330 := Try.func82.trans (congrArg some (by kernel_rfl))
  f331 := Try.func83.trans (congrArg some (by kernel_rfl))
  f332 := Try.func84.trans (congrArg some (by kernel_rfl))
  f343 := Try.func86.trans (congrArg some (by kernel_rfl))
  t0 := Try.underlying0
  a0 := Try.isAgg0
  z0 := Try.sizeOf0
  v0 := Try.zeroValue0
  t3 := Try.underlying3
  a3 := Try.isAgg3
  z3 := Try.sizeOf3
  v3 := Try.zeroValue3
  t4 := Try.underlying4
  a4 := Try.isAgg4
  z4 := Try.sizeOf4
  v4 := Try.zeroValue4
  t5 := Try.underlying5
  a5 := Try.isAgg5
  z5 := Try.sizeOf5
  v5 := Try.zeroValue5
  t9 := Try.underlying9
  a9 := Try.isAgg9
  z9 := Try.sizeOf9
  v9 := Try.zeroValue9
  t28 := Try.underlying22
  a28 := Try.isAgg22
  z28 := Try.sizeOf22
  v28 := Try.zeroValue22
  t46 := Try.underlying85
  a46 := Try.isAgg85
  z46 := Try.sizeOf85
  v46 := Try.zeroValue85
  t51 := Try.underlying97
  a51 := Try.isAgg97
  z51 := Try.sizeOf97
  v51 := Try.zeroValue97
  t53 := Try.underlying99
  a53 := Try.isAgg99
  z53 := Try.sizeOf99
  v53 := Try.zeroValue99
  t131 := Try.underlying94
  a131 := Try.isAgg94
  z131 := Try.sizeOf94
  v131 := Try.zeroValue94
  t182 := Try.underlying88
  a182 := Try.isAgg88
  z182 := Try.sizeOf88
  v182 := Try.zeroValue88
  t183 := Try.underlying89
  a183 := Try.isAgg89
  z183 := Try.sizeOf89
  v183 := Try.zeroValue89
  t218 := Try.underlying100
  a218 := Try.isAgg100
  z218 := Try.sizeOf100
  v218 := Try.zeroValue100
  t222 := Try.underlying104
  a222 := Try.isAgg104
  z222 := Try.sizeOf104
  v222 := Try.zeroValue104
  t228 := Try.underlying106
  a228 := Try.isAgg106
  z228 := Try.sizeOf106
  v228 := Try.zeroValue106
  t229 := Try.underlying107
  a229 := Try.isAgg107
  z229 := Try.sizeOf107
  v229 := Try.zeroValue107 }
open Go.Sort Go.RowKit in
theorem Try.slices_Sort_int (blk off cap : Nat) (zs : List Int) (w : World) (hH : Holds (Value.int .i64) w blk off zs.toArray) (hblk : blk < w.heap.size) (hsz : zs.length < 4611686018427387904) :
    Calls Try.prog 54 #[.slice (some ⟨blk, off, none⟩) zs.length cap] w fun e w' =>
      e = .returned (.tuple #[]) ∧ ∃ n os, w' = grow (putRow (Value.int .i64) (Sort.ahead w n) blk off (zs.mergeSort fun x y => decide (x ≤ y)).toArray) os := Any.slices_Sort_int Try.lays189 blk off cap zs w hH hblk hsz
def Try.laysNm220_ren : Go.Shelf.Ren := ⟨fun | 20 => 55 | n => n, fun | 22 => 22 | 3 => 3 | 4 => 4 | 0 => 0 | n => n, fun | n => n⟩
theorem Try.laysNm220 : Go.Proofs.Lays2.n20 Try.prog Try.laysNm220_ren := {
  mixed := by kernel_rfl
  f20 := Try.func55.trans (congrArg some (by kernel_rfl))
  t0 := Try.underlying0
  a0 := Try.isAgg0
  z0 := Try.sizeOf0
  v0 := Try.zeroValue0
  t3 := Try.underlying3
  a3 := Try.isAgg3
  z3 := Try.sizeOf3
  v3 := Try.zeroValue3
  t4 := Try.underlying4
  a4 := Try.isAgg4
  z4 := Try.sizeOf4
  v4 := Try.zeroValue4
  t22 := Try.underlying22
  a22 := Try.isAgg22
  z22 := Try.sizeOf22
  v22 := Try.zeroValue22
  i3 := by kernel_rfl }
open Go.RowKit Go.Lib Go.Sort in
theorem Try.slices_Compact_int (blk off cap : Nat) (zs : List Int) (w : World) (hH : Holds (Value.int .i64) w blk off zs.toArray) (hsz : zs.length ≤ 9223372036854775807) (hcap : zs.length ≤ cap) :
    Calls Try.prog 55 #[.slice (some ⟨blk, off, none⟩) zs.length cap] w fun e w' => e = .returned (.slice (some ⟨blk, off, none⟩) (Lib.compact zs).length cap) ∧ ∃ q, w' = putRow (Value.int .i64) (Sort.ahead w q) blk off (Lib.compact zs ++ List.replicate (zs.length - (Lib.compact zs).length) 0).toArray := Any.slices_Compact_int Try.laysNm220 blk off cap zs w hH hsz hcap
open Go.RowKit Go.Lib Go.Sort in
theorem Try.slices_Compact_int_empty (a : Option Addr) (cap : Nat) (w : World) :
    Calls Try.prog 55 #[.slice a 0 cap] w fun e w' => e = .returned (.slice a 0 cap) ∧ w' = w := Any.slices_Compact_int_empty Try.laysNm220 a cap w
open Go.RowKit Go.Lib Go.Sort in
theorem Try.slices_Compact_int_cells (b off n c : Nat) (zs : List Int) (w : World) (hz : n ≤ zs.length) (hbig : n ≤ 9223372036854775807) (hcap : n ≤ c) (hc : ∀ j, j < zs.length → w.cell? ⟨b, off + j, none⟩ = some (.int .i64 (zs.getD j 0))) (hf : ∀ j, j < n → w.frozen? ⟨b, off + j, none⟩ = false) :
    Calls Try.prog 55 #[.slice (some ⟨b, off, none⟩) n c] w fun e w' => e = .returned (.slice (some ⟨b, off, none⟩) (Lib.compact (zs.take n)).length c) ∧ ∃ q, w' = (w.drewN q).setCells b off ((Lib.compact (zs.take n) ++ List.replicate (n - (Lib.compact (zs.take n)).length) 0).map (Value.int .i64)) := Any.slices_Compact_int_cells Try.laysNm220 b off n c zs w hz hbig hcap hc hf
open Go.RowKit Go.Sort in
theorem Try.slices_Sort_int_none (p : Option Addr) (cap : Nat) (w : World) :
    Calls Try.prog 54 #[.slice p 0 cap] w fun e w' => e = .returned (.tuple #[]) ∧ w' = w := Any.slices_Sort_int_none Try.lays189 p cap w
end Go.Proofs
/- Numbers are sorted, each once. -/
set_option maxRecDepth 100000
namespace Go.Proofs.Ythicfgcnhefinaa
open Go.RowKit Go.Deep

theorem compact_mem (zs : List Int) (x : Int) : x ∈ Lib.compact zs ↔ x ∈ zs := by
  unfold Lib.compact Lib.compactUpTo
  simp only [List.mem_map, List.mem_filter, List.mem_range]
  constructor
  · rintro ⟨j, ⟨hj, _⟩, rfl⟩
    rw [getElem!_pos zs.toArray j (by simpa using hj)]
    simp
  · intro hx
    have hex : ∃ j, ∃ h : j < zs.length, zs[j] = x := by
      obtain ⟨j, h, e⟩ := List.mem_iff_getElem.1 hx; exact ⟨j, h, e⟩
    have key : ∀ n : Nat, (∃ j, j ≤ n ∧ ∃ h : j < zs.length, zs[j] = x) → ∃ j, ∃ h : j < zs.length, zs[j] = x ∧ ∀ i (hi : i < j), zs[i]'(by omega) ≠ x := by
      intro n
      induction n with
      | zero =>
        rintro ⟨j, hj, h, e⟩
        exact ⟨j, h, e, fun i hi => by omega⟩
      | succ n ih =>
        rintro ⟨j, hj, h, e⟩
        by_cases hl : ∃ i, i ≤ n ∧ ∃ h : i < zs.length, zs[i] = x
        · exact ih hl
        · exact ⟨j, h, e, fun i hi e2 => hl ⟨i, by omega, by omega, e2⟩⟩
    obtain ⟨j0, hj0, ej0⟩ := hex
    obtain ⟨j, h, e, hmin⟩ := key j0 ⟨j0, Nat.le_refl _, hj0, ej0⟩
    refine ⟨j, ⟨h, ?_⟩, by rw [getElem!_pos zs.toArray j (by simpa using h)]; simpa using e⟩
    unfold Lib.keeps
    rw [decide_eq_true_eq]
    by_cases hz : j = 0
    · exact Or.inl hz
    · right
      rw [getElem!_pos zs.toArray j (by simpa using h), getElem!_pos zs.toArray (j - 1) (by simp; omega)]
      intro e2
      have e2 : zs[j] = zs[j - 1]'(by omega) := by simpa using e2
      exact hmin (j - 1) (by omega) (e2.symm.trans e)
theorem compact_rising (zs : List Int) (hs : zs.Pairwise (· ≤ ·)) : PitotConf.Rising (Lib.compact zs) := by
  unfold Lib.compact Lib.compactUpTo PitotConf.Rising
  rw [List.pairwise_map]
  have hr : ((List.range zs.length).filter (Lib.keeps zs.toArray)).Pairwise (· < ·) := (List.pairwise_lt_range).filter _
  refine (List.Pairwise.and_mem.1 hr).imp ?_
  rintro i j ⟨hi, hj, hij⟩
  rw [List.mem_filter, List.mem_range] at hi hj
  have hk := hj.2
  unfold Lib.keeps at hk
  rw [decide_eq_true_eq] at hk
  rcases hk with hk | hk
  · omega
  · rw [getElem!_pos zs.toArray j (by simpa using hj.1), getElem!_pos zs.toArray (j - 1) (by simp; omega)] at hk
    rw [getElem!_pos zs.toArray i (by simpa using hi.1), getElem!_pos zs.toArray j (by simpa using hj.1)]
    have hk : zs[j]'hj.1 ≠ zs[j - 1]'(by omega) := by simpa using hk
    have h1 : zs[j - 1]'(by omega) ≤ zs[j]'hj.1 := List.pairwise_iff_getElem.1 hs _ _ _ _ (by omega)
    have h2 : zs[i]'hi.1 ≤ zs[j - 1]'(by omega) := by
      by_cases e : i = j - 1
      · subst e; exact Int.le_refl _
      · exact List.pairwise_iff_getElem.1 hs _ _ _ _ (by omega)
    have : zs[i]'hi.1 < zs[j]'hj.1 := by omega
    simpa using this
/-- The numbers of a list, rising, each once. -/
def once (l : List Int) : List Int := Lib.compact (l.mergeSort fun x y => decide (x ≤ y))
theorem once_rising (l : List Int) : PitotConf.Rising (once l) := by
  refine compact_rising _ ?_
  have := List.pairwise_mergeSort (le := fun x y : Int => decide (x ≤ y)) (fun a b c h1 h2 => by simp at h1 h2 ⊢; omega) (fun a b => by simp; omega) l
  exact this.imp (fun h => by simpa using h)
theorem once_mem (l : List Int) (x : Int) : x ∈ once l ↔ x ∈ l := by
  unfold once
  rw [compact_mem]
  exact (List.mergeSort_perm l _).mem_iff
/-- slices.Sort of a row of one's own. -/
theorem sort_own {base n : Nat} {v : Value} {l : List Int} {w : World} (h : w.ownsRow base 3 1 v n (enI l)) (hsm : n < 4611686018427387904) : Calls Try.prog 54 #[v] w fun e w' => e = .returned (.tuple #[]) ∧ w'.ownsRow base 3 1 v n (enI (l.mergeSort fun x y => decide (x ≤ y))) ∧ w.grownBy w' v.ownBlock := by
  rcases h.2 with ⟨e, e2⟩ | ⟨g, cap, cur, e, hb, hg, hn, hm, hsz, ht⟩
  · subst e
    have hl : l = [] := by have := h.1; simp [enI] at this; exact List.length_eq_zero_iff.1 (by omega)
    subst hl
    refine (Try.slices_Sort_int_none none 0 w).mono ?_
    rintro e w' ⟨rfl, rfl⟩
    refine ⟨rfl, by simpa using h, World.grownBy.refl _ _⟩
  · subst e
    have hl : l.length = n := by have := h.1; simpa [enI] using this
    subst hl
    have ht' : cur.toList.take l.length = l.map (Value.int .i64) := by simpa [enI] using ht
    have hlt : g < w.heap.size := by
      rcases Nat.lt_or_ge g w.heap.size with h' | h'
      · exact h'
      · rw [Array.getElem?_eq_none h'] at hg; cases hg
    unfold maxLen at hm
    refine (Try.slices_Sort_int g 0 cap l w (holds_of_blockI hg ht') hlt hsm).mono ?_
    rintro e w' ⟨rfl, q, os, rfl⟩
    refine ⟨rfl, ?_, grownBy_sortedI _⟩
    exact ownsRow_sortedI (by simp) hb hg hn (by unfold maxLen; omega) hsz
/-- slices.Compact of a row of one's own. -/
theorem compact_own {base n : Nat} {v : Value} {l : List Int} {w : World} (h : w.ownsRow base 3 1 v n (enI l)) : Calls Try.prog 55 #[v] w fun e w' => (∃ v', e = .returned v' ∧ w'.ownsRow base 3 1 v' (Lib.compact l).length (enI (Lib.compact l))) ∧ w.grownBy w' v.ownBlock := by
  rcases h.2 with ⟨e, e2⟩ | ⟨g, cap, cur, e, hb, hg, hn, hm, hsz, ht⟩
  · subst e
    have hl : l = [] := by have := h.1; simp [enI] at this; exact List.length_eq_zero_iff.1 (by omega)
    subst hl
    refine (Try.slices_Compact_int_empty none 0 w).mono ?_
    rintro e w' ⟨rfl, rfl⟩
    exact ⟨⟨_, rfl, by rw [e2] at h; exact h⟩, World.grownBy.refl _ _⟩
  · subst e
    have hl : l.length = n := by have := h.1; simpa [enI] using this
    subst hl
    have ht' : cur.toList.take l.length = l.map (Value.int .i64) := by simpa [enI] using ht
    unfold maxLen at hm
    refine (Try.slices_Compact_int g 0 cap l w (holds_of_blockI hg ht') (by omega) hn).mono ?_
    rintro e w' ⟨rfl, q, rfl⟩
    have hk := Lib.compact_length_le l
    refine ⟨⟨_, rfl, ?_⟩, ?_⟩
    · have := Lib.ownsRow_putRow (enc := Value.int .i64) (q := q) (ys := Lib.compact l ++ List.replicate (l.length - (Lib.compact l).length) 0) h (by simp; omega) hk
      rw [List.take_left] at this
      exact this
    · have := grownBy_sortedI (w := w) (g := g) (n := q) (os := #[]) (Lib.compact l ++ List.replicate (l.length - (Lib.compact l).length) 0).toArray
      rw [Sort.grow_empty] at this
      exact this
end Go.Proofs.Ythicfgcnhefinaa
