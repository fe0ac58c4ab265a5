/- Contract of Parse: the program's. -/
import Derived.Test.YtechdnkkchhaaaaPs
import Derived.Deep.RegionHeld3
set_option maxRecDepth 100000
namespace Go.Proofs.Ytechdnkkchhaaaa
open Go.RowKit Go.Proofs.PitotAddr

/-- The cells of a row of bytes of which the first k are written. -/
def pc (l : List UInt8) (k : Nat) : List Value := (l.take k).map (fun c => Value.int .u8 c.toNat) ++ List.replicate (l.length - k) (.int .u8 0)
theorem pc_full (l : List UInt8) : pc l l.length = bc l := by simp [pc]
theorem pc_at (l : List UInt8) (k : Nat) (h : k < l.length) : (pc l k)[k]? = some (.int .u8 0) := by
  unfold pc
  have hm : min k l.length = k := Nat.min_eq_left (Nat.le_of_lt h)
  rw [List.getElem?_append_right (by simp; omega)]
  simp only [List.length_map, List.length_take, hm, Nat.sub_self]
  rw [List.getElem?_replicate, if_pos (by omega)]
theorem pc_step (l : List UInt8) (k : Nat) (h : k < l.length) (v : Value) (hv : v = .int .u8 (l.getD k 0).toNat) : (pc l k).set k v = pc l (k + 1) := by
  subst hv
  unfold pc
  rw [List.take_succ_eq_append_getElem h, List.map_append]
  obtain ⟨d, hd⟩ : ∃ d, l.length - k = d + 1 := ⟨l.length - k - 1, by omega⟩
  have hd' : l.length - (k + 1) = d := by omega
  rw [hd, hd', List.replicate_succ, List.set_append_right _ _ (by simp; omega)]
  simp [Nat.min_eq_left (Nat.le_of_lt h), h]
theorem lies_set {w : World} {g : Nat} {cs : Array Value} {t : TypeId} (h : w.heap[g]? = some (.cells cs t)) (i : Nat) (u : Value) : (w.setCell ⟨g, i, none⟩ u).heap[g]? = some (.cells (cs.setIfInBounds i u) t) := by
  simp [World.setCell, Array.getElem?_modify, h]
theorem lies_far {w : World} {g g' : Nat} {cs : Array Value} {t : TypeId} (h : w.heap[g]? = some (.cells cs t)) (hne : g ≠ g') (i : Nat) (u : Value) : (w.setCell ⟨g', i, none⟩ u).heap[g]? = some (.cells cs t) := by
  rw [RowKit.Below.heap_setCell _ _ _ _ hne]; exact h

theorem index_str (s : ByteArray) (i : Nat) (h : i < s.size) (x : Int) (hx : x = i) (w : World) :
    (Instr.index 9 (.string s) (.int .i64 x)).run Try.prog w = .ok (.int .u8 (at' s.data.toList i).toNat) w := by
  subst hx
  have hg : s[i]? = some (at' s.data.toList i) := by
    rw [getElem?_pos s i h]
    congr 1
    have h' : i < s.data.toList.length := by simpa using h
    unfold at'
    rw [List.getD_eq_getElem?_getD, List.getElem?_eq_getElem h']
    rfl
  simp [Instr.index, run_underlying Try.underlying9, asIntOf, Result.andThen, hg]

theorem or_byte (x y : UInt8) : bits .or .u8 (IntKind.u8.wrap ((dv x : Int) * 16)) (dv y : Int) = ((pbyte x y).toNat : Int) := by
  have h1 := dv_lt x
  have h2 := dv_lt y
  have e : IntKind.u8.wrap ((dv x : Int) * 16) = ((dv x * 16 % 256 : Nat) : Int) := by rw [IntKind.wrap_u8]; omega
  rw [e, u8_or_nat _ _ (by omega) h2]
  unfold pbyte
  have hlt : (dv x * 16 % 256 ||| dv y) < 2 ^ 8 := Nat.or_lt_two_pow (by omega) (by omega)
  rw [UInt8.toNat_ofNat', Nat.mod_eq_of_lt hlt]

/-- Six cells, just written, are read as they were written. -/
theorem read_six {W : World} {g : Nat} {t : TypeId} {x0 x1 x2 x3 x4 x5 : Value} (h : W.heap[g]? = some (.cells #[x0, x1, x2, x3, x4, x5] t)) (u0 u1 u2 u3 u4 u5 : Value) :
    ((((((W.setCell ⟨g, 0, none⟩ u0).setCell ⟨g, 1, none⟩ u1).setCell ⟨g, 2, none⟩ u2).setCell ⟨g, 3, none⟩ u3).setCell ⟨g, 4, none⟩ u4).setCell ⟨g, 5, none⟩ u5).heap[g]? = some (.cells #[u0, u1, u2, u3, u4, u5] t) :=
  lies_set (lies_set (lies_set (lies_set (lies_set (lies_set h 0 u0) 1 u1) 2 u2) 3 u3) 4 u4) 5 u5
theorem below_six {w W : World} {g : Nat} (h : Below w.heap.size w W) (hg : w.heap.size ≤ g) (u0 u1 u2 u3 u4 u5 : Value) :
    Below w.heap.size w ((((((W.setCell ⟨g, 0, none⟩ u0).setCell ⟨g, 1, none⟩ u1).setCell ⟨g, 2, none⟩ u2).setCell ⟨g, 3, none⟩ u3).setCell ⟨g, 4, none⟩ u4).setCell ⟨g, 5, none⟩ u5) :=
  (((((h.setCell hg u0).setCell hg u1).setCell hg u2).setCell hg u3).setCell hg u4).setCell hg u5
theorem parse_short (s : ByteArray) (w : World) (hs : s.size ≠ 17) :
    Calls Try.prog 28 #[.string s] w fun r w' => r = .returned (.tuple #[mac 0 0 0 0 0 0, .int .i64 14]) ∧ Below w.heap.size w w' := by
  have hp := fun w => print_any 0 0 0 0 0 0 w
  obtain ⟨T, HT⟩ : ∃ T : ByteArray, Hid (T = ⟨(pk [0, 0, 0, 0, 0, 0] 6).toArray⟩) := ⟨_, rfl⟩
  have hsz : T.size = 17 := by rw [HT.out]; decide
  rw [← HT.out] at hp
  replace hp : ∀ w, Calls Try.prog 30 #[.agg #[.int .u8 0, .int .u8 0, .int .u8 0, .int .u8 0, .int .u8 0, .int .u8 0]] w fun r w' => Hid (r = .returned (.string T)) ∧ Below w.heap.size w w' := hp
  have HP := Lib.hid hp; clear hp
  have hne : ((s.size : Int) != 17) = true := by simp; omega
  show Calls Try.prog 28 #[.string s] w fun r w' => r = .returned (.tuple #[.agg #[.int .u8 0, .int .u8 0, .int .u8 0, .int .u8 0, .int .u8 0, .int .u8 0], .int .i64 14]) ∧ Below w.heap.size w w'
  go_enter Try.func28, Try.ntmps28
  go_wp2_with (first
    | (go_at_call 30; (with_reducible refine (HP.out _).mono ?_); rintro e w1 ⟨he, hb1⟩; (obtain rfl := he.out)
       (have L1 := lies_below (lies_alloc (heap_alloc_new w (.cells #[.int .u8 0, .int .u8 0, .int .u8 0, .int .u8 0, .int .u8 0, .int .u8 0] 23)) _) hb1 (by simp; omega))
       (obtain ⟨i0, i1, i2, i3, i4, i5⟩ := six L1)
       (have f0 := lies_frozen L1 0); (have f1 := lies_frozen L1 1); (have f2 := lies_frozen L1 2); (have f3 := lies_frozen L1 3); (have f4 := lies_frozen L1 4); (have f5 := lies_frozen L1 5)))
  (try simp only [Exit.inBlock, Exit.then])
  refine bodyPost_ret (by simp [results, Try.results28, go_sem, i0, i1, i2, i3, i4, i5]; try rfl) rfl ?_
  have hb : Below w.heap.size w w1 := (below_new (below_new (Below.refl _ w) _) _).trans (hb1.mono (by simp; omega))
  exact ⟨rfl, below_six hb (Nat.le_refl _) _ _ _ _ _ _⟩

set_option maxHeartbeats 4000000 in
theorem parse_long (s : ByteArray) (w : World) (hs : s.size = 17) (p0 p1 p2 p3 p4 p5 : UInt8) (hpl : pl s.data.toList = [p0, p1, p2, p3, p4, p5]) (B : Bool) (hB : B = decide (pk (pl s.data.toList) 6 = s.data.toList)) :
    Calls Try.prog 28 #[.string s] w fun r w' => r = .returned (if B = true then .tuple #[mac p0 p1 p2 p3 p4 p5, .int .i64 0] else .tuple #[mac 0 0 0 0 0 0, .int .i64 14]) ∧ Below w.heap.size w w' := by
  have hp := fun w => print_any 0 0 0 0 0 0 w
  obtain ⟨T, HT⟩ : ∃ T : ByteArray, Hid (T = ⟨(pk [0, 0, 0, 0, 0, 0] 6).toArray⟩) := ⟨_, rfl⟩
  have hsz : T.size = 17 := by rw [HT.out]; decide
  rw [← HT.out] at hp
  replace hp : ∀ w, Calls Try.prog 30 #[.agg #[.int .u8 0, .int .u8 0, .int .u8 0, .int .u8 0, .int .u8 0, .int .u8 0]] w fun r w' => Hid (r = .returned (.string T)) ∧ Below w.heap.size w w' := hp
  have HP := Lib.hid hp; clear hp
  have hq := fun w => print_any p0 p1 p2 p3 p4 p5 w
  obtain ⟨U, HU⟩ : ∃ U : ByteArray, Hid (U = ⟨(pk [p0, p1, p2, p3, p4, p5] 6).toArray⟩) := ⟨_, rfl⟩
  rw [← HU.out] at hq
  have HQ := Lib.hid hq; clear hq
  have heq : (U.toList == s.toList) = B := by
    rw [HU.out, hB, hpl, ByteArray.toList_eq, ByteArray.toList_eq, Bool.eq_iff_iff]
    simp
  have HEQ := Lib.hid heq; clear heq
  obtain ⟨l, Hl⟩ : ∃ l, Hid (l = pl s.data.toList) := ⟨_, rfl⟩
  have hl : l.length = 6 := by rw [Hl.out]; rfl
  have hne : ((s.size : Int) != 17) = false := by rw [hs]; rfl
  have Hs := Lib.hid hs; clear hs
  have HPL := Lib.hid hpl; clear hpl
  have HB := Lib.hid hB; clear hB
  have hz0 : (#[.int .u8 0, .int .u8 0, .int .u8 0, .int .u8 0, .int .u8 0, .int .u8 0] : Array Value) = (pc l 0).toArray := by simp [pc, hl, List.replicate]
  have HZ := Lib.hid hz0; clear hz0
  show Calls Try.prog 28 #[.string s] w fun r w' => r = .returned (if B = true then .tuple #[mac p0 p1 p2 p3 p4 p5, .int .i64 0] else .tuple #[.agg #[.int .u8 0, .int .u8 0, .int .u8 0, .int .u8 0, .int .u8 0, .int .u8 0], .int .i64 14]) ∧ Below w.heap.size w w'
  go_enter Try.func28, Try.ntmps28
  go_wp2_with (first
    | (go_at_call 30; (with_reducible refine (HP.out _).mono ?_); rintro e w1 ⟨he, hb1⟩; (obtain rfl := he.out)
       (have L1 := Lib.hid (lies_below (lies_alloc (heap_alloc_new w (.cells #[.int .u8 0, .int .u8 0, .int .u8 0, .int .u8 0, .int .u8 0, .int .u8 0] 23)) _) hb1 (by simp; omega)))
       (have L2 := Lib.hid (lies_below (heap_alloc_new (w.alloc (.cells #[.int .u8 0, .int .u8 0, .int .u8 0, .int .u8 0, .int .u8 0, .int .u8 0] 23)) _) hb1 (by simp)))
       (have HB1 : Below w.heap.size w w1 := (below_new (below_new (Below.refl _ w) _) _).trans (hb1.mono (by simp; omega)))
       clear hb1 he))
  have L2' : Hid (w1.heap[w.heap.size + 1]? = some (.cells (pc l 0).toArray 23)) := by
    have := L2.out
    rw [HZ.out, show (w.alloc (.cells (pc l 0).toArray 23)).heap.size = w.heap.size + 1 by simp] at this
    exact this
  clear L2
  go_loopw [13] (fun v wr => ∃ k : Nat, k ≤ 6 ∧ v = .int .i64 k ∧ Hid (wr.heap[w.heap.size]? = some (.cells #[.int .u8 0, .int .u8 0, .int .u8 0, .int .u8 0, .int .u8 0, .int .u8 0] 23)) ∧ Hid (wr.heap[w.heap.size + 1]? = some (.cells (pc l k).toArray 23)) ∧ Below w.heap.size w wr) (fun v _ => 6 - (intOf v).toNat)
  case atStart => exact ⟨0, Nat.zero_le _, rfl, L1, L2', HB1⟩
  case round =>
    obtain ⟨k, hk, rfl, LA, LB, hb⟩ := hrel
    clear L1 L2' HB1
    by_cases hlt : k < 6
    · obtain ⟨c1, Hc1⟩ : ∃ c, Hid (c = at' s.data.toList (3 * k)) := ⟨_, rfl⟩
      obtain ⟨c2, Hc2⟩ : ∃ c, Hid (c = at' s.data.toList (3 * k + 1)) := ⟨_, rfl⟩
      have hI1 := fun w => index_str s (3 * k) (by have := Hs.out; omega) (3 * (k : Int)) (by omega) w
      have hI2 := fun w => index_str s (3 * k + 1) (by have := Hs.out; omega) (3 * (k : Int) + 1) (by omega) w
      rw [← Hc1.out] at hI1
      rw [← Hc2.out] at hI2
      have hcell : wr.cell? ⟨w.heap.size + 1, k, none⟩ = some (.int .u8 0) := by rw [lies_cell LB.out k]; simpa using pc_at l k (by omega)
      have hfro := lies_frozen LB.out k
      have hor := or_byte c1 c2
      obtain ⟨p, Hp⟩ : ∃ p : UInt8, Hid (p = pbyte c1 c2) := ⟨_, rfl⟩
      rw [← Hp.out] at hor
      have hd1 := dv_lt c1
      have hd2 := dv_lt c2
      have w1' : IntKind.i64.wrap (3 * (k : Int)) = 3 * (k : Int) := IntWalk.i64_in _ (by omega)
      have w2' : IntKind.i64.wrap (3 * (k : Int) + 1) = 3 * (k : Int) + 1 := IntWalk.i64_in _ (by omega)
      have HV : Hid (Value.int .u8 (p.toNat : Int) = .int .u8 (l.getD k 0).toNat) := by
        show _ = _
        rw [Hl.out, pl_get _ k hlt, ← Hc1.out, ← Hc2.out, ← Hp.out]
      have hne1 : w.heap.size ≠ w.heap.size + 1 := by omega
      have LA' : Hid ((wr.setCell ⟨w.heap.size + 1, k, none⟩ (.int .u8 p.toNat)).heap[w.heap.size]? = some (.cells #[.int .u8 0, .int .u8 0, .int .u8 0, .int .u8 0, .int .u8 0, .int .u8 0] 23)) := lies_far LA.out hne1 _ _
      have LB' : Hid ((wr.setCell ⟨w.heap.size + 1, k, none⟩ (.int .u8 p.toNat)).heap[w.heap.size + 1]? = some (.cells (pc l (k + 1)).toArray 23)) := by
        have := lies_set LB.out k (.int .u8 p.toNat)
        rw [List.setIfInBounds_toArray, pc_step l k (by omega) _ HV.out] at this
        exact this
      have HBn : Hid (Below w.heap.size w (wr.setCell ⟨w.heap.size + 1, k, none⟩ (.int .u8 p.toNat)) ) := hb.setCell (by simp) _
      clear hne1
      go_wp2
      go_region_held3 (fun _ => True) (exact trivial) (first
        | (go_at_call 46; (with_reducible refine (digit_any c1 _).mono ?_); rintro e wa ⟨rfl, rfl⟩)
        | (go_at_call 46; (with_reducible refine (digit_any c2 _).mono ?_); rintro e wb ⟨rfl, rfl⟩))
      all_goals
        clear hI1 hI2 hor w1' w2' hcell hfro
        go_wp2
        go_roundw
        case rel => exact ⟨k + 1, by omega, by go_num, LA', LB', HBn.out.drew⟩
        case measure => simp [intOf]; omega
    · have h6 : k = 6 := by omega
      subst h6
      have LM : wr.heap[w.heap.size + 1]? = some (.cells #[.int .u8 p0.toNat, .int .u8 p1.toNat, .int .u8 p2.toNat, .int .u8 p3.toNat, .int .u8 p4.toNat, .int .u8 p5.toNat] 23) := by
        have := LB.out
        rw [show (6 : Nat) = l.length from hl.symm, pc_full, Hl.out, HPL.out] at this
        exact this
      obtain ⟨m0, m1, m2, m3, m4, m5⟩ := six LM
      have LM := Lib.hid LM
      clear LB
      have heq := HEQ.out
      cases B
      · go_wp2_with (first
          | (go_at_call 30; (with_reducible refine (HQ.out _).mono ?_); rintro e w3 ⟨he, hb3⟩; (obtain rfl := he.out)
             (have L3 := lies_below LA.out hb3 (lies_lt LA.out)); (obtain ⟨i0, i1, i2, i3, i4, i5⟩ := six L3)
             (have f0 := lies_frozen L3 0); (have f1 := lies_frozen L3 1); (have f2 := lies_frozen L3 2); (have f3 := lies_frozen L3 3); (have f4 := lies_frozen L3 4); (have f5 := lies_frozen L3 5)
             (have L3 := Lib.hid L3)))
        (try simp only [Exit.inBlock, Exit.then])
        refine bodyPost_ret (by simp [results, Try.results28, go_sem, i0, i1, i2, i3, i4, i5]; try rfl) rfl ?_
        exact ⟨rfl, below_six (hb.trans (hb3.mono hb.size)) (Nat.le_refl _) _ _ _ _ _ _⟩
      · go_wp2_with (first
          | (go_at_call 30; (with_reducible refine (HQ.out _).mono ?_); rintro e w3 ⟨he, hb3⟩; (obtain rfl := he.out)
             (have L3 := lies_below LA.out hb3 (lies_lt LA.out)); (obtain ⟨i0, i1, i2, i3, i4, i5⟩ := six L3)
             (obtain ⟨n0, n1, n2, n3, n4, n5⟩ := six (lies_below LM.out hb3 (lies_lt LM.out)))
             (have f0 := lies_frozen L3 0); (have f1 := lies_frozen L3 1); (have f2 := lies_frozen L3 2); (have f3 := lies_frozen L3 3); (have f4 := lies_frozen L3 4); (have f5 := lies_frozen L3 5)
             (have L3 := Lib.hid L3)))
        (try simp only [Exit.inBlock, Exit.then])
        refine bodyPost_ret (by simp [results, Try.results28, go_sem, i0, i1, i2, i3, i4, i5]; try rfl) rfl ?_
        exact ⟨rfl, below_six (hb.trans (hb3.mono hb.size)) (Nat.le_refl _) _ _ _ _ _ _⟩
end Go.Proofs.Ytechdnkkchhaaaa
