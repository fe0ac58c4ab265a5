/- Merged: Jt, Jn, On, Oe. -/
import Derived.Test.YtgdjcoodjdckkaaM9
import Derived.Deep.RegionHeld3
import Derived.WalkKit
set_option linter.unusedVariables false
/- Contract of together: the bytes of parts, one behind the other. -/
set_option maxRecDepth 100000
namespace Go.Proofs.Ytgdjcoodjdckkaa
open Go.RowKit Go.Proofs.PitotFrag Go.Proofs.PitotIp
open Go.Proofs.Ytgdjcoodjdckkaa.Bi (lies_lt lies_cell lies_frozen lies_alloc lies_set)

theorem write_any (B b : Nat) (bs : List Value) (s : ByteArray) (w : World) (h : Lib.IsBuilder 96 5 B b bs w) (hlen : bs.length + s.size ≤ 140737488355328) (hBw : B ≤ w.heap.size) :
    Calls Try.prog 42 #[.pointer (some ⟨b, 0, none⟩), .string s] w fun e w' => e = .returned (.tuple #[.int .i64 s.size, .nilIface]) ∧ (Lib.BuilderAt 96 5 B b (.pointer (some ⟨b, 0, none⟩)) (bs ++ Lib.strCells s) w' ∧ Below B w w') := Try.Builder_WriteString B b bs s w h hlen hBw

theorem isBuilder_alloc {T e : TypeId} {B b : Nat} {bs : List Value} {w : World} (h : Lib.IsBuilder T e B b bs w) (o : Obj) : Lib.IsBuilder T e B b bs (w.alloc o) := by
  have key : ∀ p, Lib.BuilderAt T e B b p bs w → Lib.BuilderAt T e B b p bs (w.alloc o) := fun p ⟨h1, v, h2, h3, h4⟩ =>
    ⟨h1, v, lies_alloc h2 o, h3.alloc o, h4⟩
  rcases h with h | h
  · exact .inl (key _ h)
  · exact .inr (key _ h)

def catP (l : List Pk) : List UInt8 := l.flatMap fun p => p.s.data.toList
theorem catP_snoc (l : List Pk) (p : Pk) : catP (l ++ [p]) = catP l ++ p.s.data.toList := by simp [catP]

set_option maxHeartbeats 2000000 in
theorem together_any (A : Option Addr) (cap : Nat) (l : List Pk) (w : World) (hx : PksAt w A l) (hl : l.length ≤ 70000) (hz : ∀ p ∈ l, p.s.size ≤ 10000) (n : Nat) (hn : n = l.length) :
    Calls Try.prog 36 #[.slice A n cap] w fun e w' => e = .returned (.string (bl (catP l))) ∧ Below w.heap.size w w' := by
  obtain ⟨R, HR⟩ : ∃ R, Hid (R = bl (catP l)) := ⟨_, rfl⟩
  rw [← HR.out]
  have Hn := Lib.hid hn
  rw [← hn] at hl
  clear hn
  have HX := Lib.hid hx; clear hx
  have HZ := Lib.hid hz; clear hz
  have HB0 := Lib.hid (Lib.fresh_isBuilder 96 5 w)
  have kb0 : Hid (Below w.heap.size w (w.alloc (.cells #[.pointer none, .slice none 0 0] 96))) := (Below.refl _ _).alloc (Nat.le_refl _) _
  go_enter Try.func36, Try.ntmps36
  go_wp2
  go_loopw [8] (fun v8 wr => ∃ (k : Nat), k ≤ n ∧ v8 = .int .i64 k ∧ Lib.IsBuilder 96 5 w.heap.size w.heap.size (Lib.byteCells (catP (l.take k))) wr ∧ (catP (l.take k)).length ≤ k * 10000 ∧ Below w.heap.size w wr) (fun v8 _ => n - (intOf v8).toNat)
  case atStart => exact ⟨0, Nat.zero_le _, rfl, HB0.out, by simp [catP], kb0.out⟩
  case round =>
    obtain ⟨k, hk, rfl, hB, hlen, hb⟩ := hrel
    have hbs := hb.size
    by_cases hlt : k < n
    · have hlt' : k < l.length := by rw [← Hn.out]; exact hlt
      obtain ⟨b, off, rfl, hbl, hc⟩ := HX.out.get hlt'
      have hc := hc.below hb hbl
      have hst : l.take (k + 1) = l.take k ++ [l[k]] := List.take_succ_eq_append_getElem hlt'
      have hsz := HZ.out l[k] (List.getElem_mem hlt')
      generalize l[k] = p at hc hst hsz
      obtain ⟨id, m, of, ttl, pr, a, b', s⟩ := p
      obtain ⟨c0, c1, c2, c3, c4, c5, c6, c7, c8, c9, c10, c11, c12, c13⟩ := hc
      simp only at c0 c1 c2 c3 c4 c5 c6 c7 c8 c9 c10 c11 c12 c13 hsz
      have HC : Hid (catP (l.take (k + 1)) = catP (l.take k) ++ s.data.toList) := by show _ = _; rw [hst, catP_snoc]
      clear hst
      have HW := Lib.hid (write_any w.heap.size w.heap.size _ s (wr.alloc (pkC id m of ttl pr a b' s)) (isBuilder_alloc hB _) (by rw [Lib.byteCells_length]; omega) (by simp; omega))
      have kb : Hid (Below w.heap.size w (wr.alloc (pkC id m of ttl pr a b' s))) := hb.alloc hbs _
      have HL := Lib.hid hlen
      clear hB hlen
      go_wp2_with (go_at_call 42; (with_reducible refine (HW.out).mono ?_); rintro r w2 ⟨rfl, hB2, hb2⟩)
      go_roundw
      case rel =>
        refine ⟨k + 1, by omega, by go_num, ?_, ?_, kb.out.trans hb2⟩
        · rw [HC.out, Lib.byteCells_append]
          exact .inr hB2
        · rw [HC.out, List.length_append, size_list]
          have := HL.out
          omega
      case measure => simp [intOf]; omega
    · have HC : Hid (bl (catP (l.take k)) = R) := by show _ = _; rw [HR.out, List.take_of_length_le (by rw [← Hn.out]; omega)]
      have HS := Lib.hid (Try.Builder_String_any w.heap.size w.heap.size _ wr hB hbs)
      clear hB hlen
      go_wp2_with (go_at_call 43; (with_reducible refine (HS.out).mono ?_); rintro r w2 ⟨rfl, hb2⟩)
      go_returns
      rw [← HC.out]
      exact ⟨rfl, hb.trans hb2⟩
end Go.Proofs.Ytgdjcoodjdckkaa
/- Contract of Join. -/
set_option maxRecDepth 100000
namespace Go.Proofs.Ytgdjcoodjdckkaa
open Go.RowKit Go.Proofs.PitotFrag Go.Proofs.PitotIp
open Go.Proofs.Ytgdjcoodjdckkaa.Bi (lies_lt lies_cell lies_frozen lies_alloc lies_set)

theorem lies_away {w : World} {g g' : Nat} {cs : Array Value} {t : TypeId} (h : w.heap[g]? = some (.cells cs t)) (hne : g ≠ g') (i : Nat) (u : Value) : (w.setCell ⟨g', i, none⟩ u).heap[g]? = some (.cells cs t) := by
  rw [RowKit.Below.heap_setCell _ _ _ _ hne]; exact h
/-- No packet. -/
def pkJ : Pk := ⟨0, false, 0, 0, 0, q0, q0, ⟨#[]⟩⟩
/-- Is the last one a part behind which others come? -/
def lastM (l : List Pk) : Bool := match l.getLast? with | some p => p.m | none => false
/-- Have all what the first one has? -/
def alike (l : List Pk) : Bool := match l with | [] => true | p :: _ => l.all fun q => pkb (com q) (com p)
/-- What Join answers. -/
def jn (l : List Pk) : Pk × Int := match l with
  | [] => (pkJ, 23)
  | p :: r => if alike (p :: r) = false then (pkJ, 15) else if (ms (p :: r) 0).2 ≠ 0 then (pkJ, (ms (p :: r) 0).2) else if lastM (p :: r) = true then (pkJ, 10) else if 65515 < (ms (p :: r) 0).1 then (pkJ, 11) else (⟨p.id, false, 0, p.ttl, p.pr, p.a, p.b, bl (catP (p :: r))⟩, 0)
theorem jn_alike {l : List Pk} (h0 : 0 < l.length) (h : alike l = false) : jn l = (pkJ, 15) := by
  cases l with | nil => simp at h0 | cons p r => rw [jn, if_pos h]
theorem jn_ms {l : List Pk} (h0 : 0 < l.length) (h : alike l = true) (hm : ¬ (ms l 0).2 = 0) : jn l = (pkJ, (ms l 0).2) := by
  cases l with | nil => simp at h0 | cons p r => rw [jn, if_neg (by rw [h]; simp), if_pos hm]
theorem jn_last {l : List Pk} (h0 : 0 < l.length) (h : alike l = true) (hm : (ms l 0).2 = 0) (hl : lastM l = true) : jn l = (pkJ, 10) := by
  cases l with | nil => simp at h0 | cons p r => rw [jn, if_neg (by rw [h]; simp), if_neg (by simpa using hm), if_pos hl]
theorem jn_long {l : List Pk} (h0 : 0 < l.length) (h : alike l = true) (hm : (ms l 0).2 = 0) (hl : lastM l = false) (hg : 65515 < (ms l 0).1) : jn l = (pkJ, 11) := by
  cases l with | nil => simp at h0 | cons p r => rw [jn, if_neg (by rw [h]; simp), if_neg (by simpa using hm), if_neg (by rw [hl]; simp), if_pos hg]
theorem jn_ok {l : List Pk} (h0 : 0 < l.length) (h : alike l = true) (hm : (ms l 0).2 = 0) (hl : lastM l = false) (hg : ¬ 65515 < (ms l 0).1) : jn l = (⟨l[0].id, false, 0, l[0].ttl, l[0].pr, l[0].a, l[0].b, bl (catP l)⟩, 0) := by
  cases l with | nil => simp at h0 | cons p r => rw [jn, if_neg (by rw [h]; simp), if_neg (by simpa using hm), if_neg (by rw [hl]; simp), if_neg hg]; rfl
theorem alike_no {l : List Pk} {k : Nat} (hk : k < l.length) (h : pkb (com l[k]) (com (l[0]'(by omega))) = false) : alike l = false := by
  cases l with
  | nil => simp at hk
  | cons p r =>
    unfold alike
    rw [List.all_eq_false]
    exact ⟨(p :: r)[k], List.getElem_mem hk, by simpa using h⟩
theorem alike_yes {l : List Pk} (h0 : 0 < l.length) (h : l.all (fun q => pkb (com q) (com l[0])) = true) : alike l = true := by
  cases l with | nil => simp at h0 | cons p r => exact h
theorem lastM_at {l : List Pk} {c : Nat} (hc : l.length = c + 1) : lastM l = (l[c]'(by omega)).m := by
  unfold lastM
  have e : l[l.length - 1]? = some (l[c]'(by omega)) := by
    have : l.length - 1 = c := by omega
    simp only [this]
    exact List.getElem?_eq_getElem _
  rw [List.getLast?_eq_getElem?, e]
theorem ms_bound : ∀ (l : List Pk) (h : Nat) (B : Nat), (∀ p ∈ l, p.s.size ≤ B) → 0 ≤ (ms l h).1 ∧ (ms l h).1 ≤ ((h + l.length * B : Nat) : Int)
  | [], h, B, _ => by simp [ms]
  | p :: r, h, B, hz => by
    rw [ms]
    split
    · have h1 := ms_bound r (h + p.s.size) B (fun q hq => hz q (List.mem_cons_of_mem _ hq))
      have h2 := hz p (List.mem_cons_self ..)
      have h3 : (r.length + 1) * B = r.length * B + B := Nat.succ_mul _ _
      simp only [List.length_cons]
      rw [h3]
      omega
    · exact ⟨Int.le_refl _, Int.natCast_nonneg _⟩

set_option maxHeartbeats 4000000 in
theorem join_any (A : Option Addr) (cap : Nat) (l : List Pk) (w : World) (hx : PksAt w A l) (hl : l.length ≤ 70000) (hz : ∀ p ∈ l, p.s.size ≤ 10000) (n : Nat) (hn : n = l.length) (h0 : 0 < l.length) :
    Calls Try.prog 21 #[.slice A n cap] w fun e w' => e = .returned (.tuple #[(jn l).1.val, .int .i64 (jn l).2]) ∧ Below w.heap.size w w' := by
  obtain ⟨RV, HRV⟩ : ∃ RV, Hid ((jn l).1.val = RV) := ⟨_, rfl⟩
  obtain ⟨RE, HRE⟩ : ∃ RE, Hid ((jn l).2 = RE) := ⟨_, rfl⟩
  rw [HRV.out, HRE.out]
  have HNO : ∀ (E : Int), jn l = (pkJ, E) → Ending.returned (.tuple #[pk0, .int .i64 E]) = Ending.returned (.tuple #[RV, .int .i64 RE]) := fun E h => by
    rw [← HRV.out, ← HRE.out, h]; rfl
  have HNO := Lib.hid HNO
  obtain ⟨b, off, rfl, hbl, hc0⟩ := hx.get h0
  rw [Nat.zero_mul, Nat.add_zero] at hc0
  obtain ⟨P0, HP0⟩ : ∃ P, Hid (∀ h : 0 < l.length, l[0]'h = P) := ⟨l[0], fun _ => rfl⟩
  rw [HP0.out h0] at hc0
  have hMb := ms_bound l 0 10000 hz
  have HM27 := Lib.hid (fun (wr : World) (hb : Below w.heap.size w wr) => measure_any (some ⟨b, off, none⟩) cap l wr (hx.below hb) hl hz n hn)
  have HT28 := Lib.hid (fun (wr : World) (hb : Below w.heap.size w wr) => together_any (some ⟨b, off, none⟩) cap l wr (hx.below hb) hl hz n hn)
  obtain ⟨M1, HM1⟩ : ∃ M, Hid ((ms l 0).1 = M) := ⟨_, rfl⟩
  obtain ⟨M2, HM2⟩ : ∃ M, Hid ((ms l 0).2 = M) := ⟨_, rfl⟩
  obtain ⟨TS, HTS⟩ : ∃ S, Hid (bl (catP l) = S) := ⟨_, rfl⟩
  rw [HM1.out, HM2.out] at HM27
  rw [HTS.out] at HT28
  rw [HM1.out] at hMb
  have Hn := Lib.hid hn
  have H0 := Lib.hid h0
  have HX := Lib.hid hx
  rw [← hn] at hl
  have hpos : 0 < n := by rw [hn]; exact h0
  obtain ⟨c, hc⟩ : ∃ c, n = c + 1 := ⟨n - 1, by omega⟩
  have z1 : (n : Int) - 1 = (c : Int) := by omega
  have Hcn := Lib.hid hc
  have i1 : (c : Int) < (n : Int) := by omega
  have hM0 : M1 ≤ 700000000 := by
    have := hMb.2
    have h4 : l.length * 10000 ≤ 70000 * 10000 := Nat.mul_le_mul_right _ (by omega)
    omega
  clear hx h0 hn hz hc hMb
  obtain ⟨i0, m0, o0, t0, r0', a0, b0, s0⟩ := P0
  have HC0 := Lib.hid (common_any ⟨i0, m0, o0, t0, r0', a0, b0, s0⟩)
  obtain ⟨c0, c1, c2, c3, c4, c5, c6, c7, c8, c9, c10, c11, c12, c13⟩ := hc0
  simp only at c0 c1 c2 c3 c4 c5 c6 c7 c8 c9 c10 c11 c12 c13
  have hne : ¬ w.heap.size = b := by omega
  have HC0 : Hid (∀ w, Calls Try.prog 34 #[pk i0 m0 o0 t0 r0' a0 b0 s0] w fun e w' => e = .returned (pk i0 false 0 t0 r0' a0 b0 ⟨#[]⟩) ∧ Below w.heap.size w w') := HC0.out
  go_enter Try.func21, Try.ntmps21
  go_wp2_with (first
    | (go_at_call 34; (with_reducible refine (HC0.out _).mono ?_); rintro r w1 ⟨rfl, hb1⟩
       (have LR := Lib.hid (lies_below (heap_alloc_new w pkz) hb1 (by simp)))
       (have k1 := Lib.hid (((Below.refl _ w).alloc (Nat.le_refl _) pkz).trans (hb1.mono (by simp))))
       (clear hb1)))
  clear c0 c1 c2 c3 c4 c5 c6 c7 c8 c9 c10 c11 c12 c13
  have hgw : w.heap.size < w1.heap.size := lies_lt LR.out
  go_loopw [19] (fun v19 wr => ∃ (k : Nat), k ≤ n ∧ v19 = .int .i64 k ∧ Hid (wr.heap[w.heap.size]? = some pkz) ∧ Hid (wr.heap[w1.heap.size]? = some (pkC i0 false 0 t0 r0' a0 b0 ⟨#[]⟩)) ∧ Below w.heap.size w wr ∧ Hid ((l.take k).all (fun q => pkb (com q) ⟨i0, false, 0, t0, r0', a0, b0, ⟨#[]⟩⟩) = true)) (fun v19 _ => n - (intOf v19).toNat)
  case atStart => exact ⟨0, Nat.zero_le _, rfl, lies_alloc LR.out _, heap_alloc_new w1 _, k1.out.alloc k1.out.size _, by show _ = _; simp⟩
  case round =>
    clear LR k1
    obtain ⟨k, hk, rfl, HLR, HLW, hb, HAL⟩ := hrel
    generalize w1.heap.size = gw at *
    by_cases hlt : k < n
    · have hlt' : k < l.length := by rw [← Hn.out]; exact hlt
      obtain ⟨b2, off2, e2, _, hc2⟩ := HX.out.get hlt'
      cases e2
      have hc2 := hc2.below hb hbl
      have HAN : Hid (pkb (com l[k]) ⟨i0, false, 0, t0, r0', a0, b0, ⟨#[]⟩⟩ = false → alike l = false) := fun h => alike_no hlt' (by rw [HP0.out _]; exact h)
      have HAY : Hid (pkb (com l[k]) ⟨i0, false, 0, t0, r0', a0, b0, ⟨#[]⟩⟩ = true → (l.take (k + 1)).all (fun q => pkb (com q) ⟨i0, false, 0, t0, r0', a0, b0, ⟨#[]⟩⟩) = true) := fun h => by
        rw [List.take_succ_eq_append_getElem hlt', List.all_append, HAL.out]; simpa using h
      generalize l[k] = p at hc2 HAN HAY
      obtain ⟨id, m, of, ttl, pr, a, b', s⟩ := p
      obtain ⟨c0, c1, c2, c3, c4, c5, c6, c7, c8, c9, c10, c11, c12, c13⟩ := hc2
      simp only at c0 c1 c2 c3 c4 c5 c6 c7 c8 c9 c10 c11 c12 c13
      have HC26 : Hid (∀ w, Calls Try.prog 34 #[pk id m of ttl pr a b' s] w fun e w' => e = .returned (pk id false 0 ttl pr a b' ⟨#[]⟩) ∧ Below w.heap.size w w') := common_any ⟨id, m, of, ttl, pr, a, b', s⟩
      obtain ⟨B, HB⟩ : ∃ B, Hid (pkb (com ⟨id, m, of, ttl, pr, a, b', s⟩) ⟨i0, false, 0, t0, r0', a0, b0, ⟨#[]⟩⟩ = B) := ⟨_, rfl⟩
      have HE : Hid (∀ w : World, (Go.Op.equalIn 10000 34 (pk id false 0 ttl pr a b' ⟨#[]⟩) (pk i0 false 0 t0 r0' a0 b0 ⟨#[]⟩)).run Try.prog w = .ok B w) := fun w => by
        have h := eqP (com ⟨id, m, of, ttl, pr, a, b', s⟩) ⟨i0, false, 0, t0, r0', a0, b0, ⟨#[]⟩⟩ w
        rw [HB.out] at h
        exact h
      cases B
      · have LP0 : (wr.alloc (pkC id m of ttl pr a b' s)).drew.heap[wr.heap.size]? = some (pkC id m of ttl pr a b' s) := heap_alloc_new wr _
        have LW0 : (wr.alloc (pkC id m of ttl pr a b' s)).drew.heap[gw]? = some (pkC i0 false 0 t0 r0' a0 b0 ⟨#[]⟩) := lies_alloc HLW.out _
        have hbs := hb.size
        have k0 : Hid (Below w.heap.size w (wr.alloc (pkC id m of ttl pr a b' s)).drew) := (hb.alloc hbs _).drew
        have LP0 := Lib.hid LP0; have LW0 := Lib.hid LW0
        go_upto_region 7 with fail
        refine wp_region_held_drew (S := fun w' => w'.heap[wr.heap.size]? = some (pkC id m of ttl pr a b' s) ∧ w'.heap[gw]? = some (pkC i0 false 0 t0 r0' a0 b0 ⟨#[]⟩)) (by kernel_rfl) ?_ (fun hHeld => ?_)
        · exact ⟨LP0.out, LW0.out⟩
        refine wpAnyH_take (i := 0) (oi := { dst := some 23, op := Go.Op.load 34 (Go.Operand.tmp 6), type := 34, pos := "frag.go:90", after := #[], guard := none }) (v := ?_) rfl (by kernel_rfl) (by kernel_rfl) (by kernel_rfl) (fun _ _ _ h => h) (Or.inl ⟨by rfl, ?_⟩) (by assumption) ?_
        rotate_left
        focus ((intro w hSw; (try dsimp only at hSw); obtain ⟨c0, c1, c2, c3, c4, c5, c6, c7, c8, c9, c10, c11, c12, c13⟩ := cells14 hSw.1; clear hSw; go_simp) <;> (with_reducible rfl))
        try simp only [Act.put, List.setIfInBounds_toArray, List.set_cons_zero, List.set_cons_succ]
        refine wpAnyH_take (i := 2) (oi := { dst := some 25, op := Go.Op.load 34 (Go.Operand.tmp 4), type := 34, pos := "frag.go:90", after := #[], guard := none }) (v := ?_) rfl (by kernel_rfl) (by kernel_rfl) (by kernel_rfl) (fun _ _ _ h => h) (Or.inl ⟨by rfl, ?_⟩) (by assumption) ?_
        rotate_left
        focus ((intro w hSw; (try dsimp only at hSw); obtain ⟨c0, c1, c2, c3, c4, c5, c6, c7, c8, c9, c10, c11, c12, c13⟩ := cells14 hSw.2; clear hSw; go_simp) <;> (with_reducible rfl))
        try simp only [Act.put, List.setIfInBounds_toArray, List.set_cons_zero, List.set_cons_succ]
        refine wpAnyH_ready (rs := [1]) (by kernel_rfl) (by simp) ?_
        refine AllReadyH.cons (o := { dst := some 24, op := Go.Op.call { callee := Go.Callee.value (Go.Operand.func 34), args := #[Go.Operand.tmp 23], argTypes := #[34] }, type := 34, pos := "frag.go:90", after := #[{ on := 0, ground := Go.Ground.data }], guard := none }) rfl (fun K hK => ?_) AllReadyH.nil
        go_simp
        go_at_call 34; (with_reducible refine (HC26.out _).mono ?_); rintro r w5 ⟨rfl, hb5⟩; go_wp2_with fail
        refine hK.out _ _ ?_ (fun hHeld => ?_)
        · exact ⟨lies_below LP0.out hb5 (lies_lt LP0.out), lies_below LW0.out hb5 (lies_lt LW0.out)⟩
        clear hK K
        try simp only [Act.put, List.setIfInBounds_toArray, List.set_cons_zero, List.set_cons_succ]
        refine wpAnyH_take (i := 3) (oi := { dst := some 26, op := Go.Op.binOp Go.BinOp.neq 34 (Go.Operand.tmp 24) (Go.Operand.tmp 25) 34, type := 4, pos := "frag.go:90", after := #[{ on := 1, ground := Go.Ground.data }, { on := 2, ground := Go.Ground.data }], guard := none }) (v := ?_) rfl (by kernel_rfl) (by kernel_rfl) (by kernel_rfl) (fun _ _ _ h => h) (Or.inl ⟨by rfl, ?_⟩) (by assumption) ?_
        rotate_left
        focus ((intro w hSw; clear hSw; have he := HE.out; go_simp) <;> (with_reducible rfl))
        try simp only [Act.put, List.setIfInBounds_toArray, List.set_cons_zero, List.set_cons_succ]
        refine wpAnyH_done (by kernel_rfl) ?_ _
        have LR5 : w5.heap[w.heap.size]? = some pkz := lies_below (w := (wr.alloc (pkC id m of ttl pr a b' s)).drew) (lies_alloc HLR.out _) hb5 (lies_lt (lies_alloc HLR.out _))
        have LW5 : Hid (w5.heap[gw]? = some (pkC i0 false 0 t0 r0' a0 b0 ⟨#[]⟩)) := hHeld.2
        have kb5 : Hid (Below w.heap.size w w5) := k0.out.trans (hb5.mono k0.out.size)
        clear hHeld hb5 k0 LP0 LW0 HLR HLW hb hbs
        have kX := kb5
        have hE := Lib.hid (HNO.out _ (jn_alike H0.out (HAN.out HB.out)))
        obtain ⟨r0, r1, r2, r3, r4, r5, r6, r7, r8, r9, r10, r11, r12, r13⟩ := cells14 LR5
        have f0 := lies_frozen LR5 0
        have f1 := lies_frozen LR5 1
        have f2 := lies_frozen LR5 2
        have f3 := lies_frozen LR5 3
        have f4 := lies_frozen LR5 4
        have f5 := lies_frozen LR5 5
        have f6 := lies_frozen LR5 6
        have f7 := lies_frozen LR5 7
        have f8 := lies_frozen LR5 8
        have f9 := lies_frozen LR5 9
        have f10 := lies_frozen LR5 10
        have f11 := lies_frozen LR5 11
        have f12 := lies_frozen LR5 12
        have f13 := lies_frozen LR5 13
        have LX := Lib.hid LR5
        clear LR5
        go_wp2
        (try simp only [Exit.inBlock, Exit.then])
        obtain ⟨k0, k1, k2, k3, k4, k5, k6, k7, k8, k9, k10, k11, k12, k13, E14⟩ := read_14 (y0 := .int .i64 0) (y1 := .bool false) (y2 := .int .i64 0) (y3 := .int .i64 0) (y4 := .int .i64 0) (y5 := .int .u8 0) (y6 := .int .u8 0) (y7 := .int .u8 0) (y8 := .int .u8 0) (y9 := .int .u8 0) (y10 := .int .u8 0) (y11 := .int .u8 0) (y12 := .int .u8 0) (y13 := .string ⟨#[]⟩) LX.out
        refine bodyPost_ret (by simp [results, Try.results21, go_sem, k0, k1, k2, k3, k4, k5, k6, k7, k8, k9, k10, k11, k12, k13]; try rfl) rfl ?_
        exact ⟨hE.out, below_14 kX.out (Nat.le_refl _) _ _ _ _ _ _ _ _ _ _ _ _ _ _⟩
      · have LP0 : (wr.alloc (pkC id m of ttl pr a b' s)).drew.heap[wr.heap.size]? = some (pkC id m of ttl pr a b' s) := heap_alloc_new wr _
        have LW0 : (wr.alloc (pkC id m of ttl pr a b' s)).drew.heap[gw]? = some (pkC i0 false 0 t0 r0' a0 b0 ⟨#[]⟩) := lies_alloc HLW.out _
        have hbs := hb.size
        have k0 : Hid (Below w.heap.size w (wr.alloc (pkC id m of ttl pr a b' s)).drew) := (hb.alloc hbs _).drew
        have LP0 := Lib.hid LP0; have LW0 := Lib.hid LW0
        go_upto_region 7 with fail
        refine wp_region_held_drew (S := fun w' => w'.heap[wr.heap.size]? = some (pkC id m of ttl pr a b' s) ∧ w'.heap[gw]? = some (pkC i0 false 0 t0 r0' a0 b0 ⟨#[]⟩)) (by kernel_rfl) ?_ (fun hHeld => ?_)
        · exact ⟨LP0.out, LW0.out⟩
        refine wpAnyH_take (i := 0) (oi := { dst := some 23, op := Go.Op.load 34 (Go.Operand.tmp 6), type := 34, pos := "frag.go:90", after := #[], guard := none }) (v := ?_) rfl (by kernel_rfl) (by kernel_rfl) (by kernel_rfl) (fun _ _ _ h => h) (Or.inl ⟨by rfl, ?_⟩) (by assumption) ?_
        rotate_left
        focus ((intro w hSw; (try dsimp only at hSw); obtain ⟨c0, c1, c2, c3, c4, c5, c6, c7, c8, c9, c10, c11, c12, c13⟩ := cells14 hSw.1; clear hSw; go_simp) <;> (with_reducible rfl))
        try simp only [Act.put, List.setIfInBounds_toArray, List.set_cons_zero, List.set_cons_succ]
        refine wpAnyH_take (i := 2) (oi := { dst := some 25, op := Go.Op.load 34 (Go.Operand.tmp 4), type := 34, pos := "frag.go:90", after := #[], guard := none }) (v := ?_) rfl (by kernel_rfl) (by kernel_rfl) (by kernel_rfl) (fun _ _ _ h => h) (Or.inl ⟨by rfl, ?_⟩) (by assumption) ?_
        rotate_left
        focus ((intro w hSw; (try dsimp only at hSw); obtain ⟨c0, c1, c2, c3, c4, c5, c6, c7, c8, c9, c10, c11, c12, c13⟩ := cells14 hSw.2; clear hSw; go_simp) <;> (with_reducible rfl))
        try simp only [Act.put, List.setIfInBounds_toArray, List.set_cons_zero, List.set_cons_succ]
        refine wpAnyH_ready (rs := [1]) (by kernel_rfl) (by simp) ?_
        refine AllReadyH.cons (o := { dst := some 24, op := Go.Op.call { callee := Go.Callee.value (Go.Operand.func 34), args := #[Go.Operand.tmp 23], argTypes := #[34] }, type := 34, pos := "frag.go:90", after := #[{ on := 0, ground := Go.Ground.data }], guard := none }) rfl (fun K hK => ?_) AllReadyH.nil
        go_simp
        go_at_call 34; (with_reducible refine (HC26.out _).mono ?_); rintro r w5 ⟨rfl, hb5⟩; go_wp2_with fail
        refine hK.out _ _ ?_ (fun hHeld => ?_)
        · exact ⟨lies_below LP0.out hb5 (lies_lt LP0.out), lies_below LW0.out hb5 (lies_lt LW0.out)⟩
        clear hK K
        try simp only [Act.put, List.setIfInBounds_toArray, List.set_cons_zero, List.set_cons_succ]
        refine wpAnyH_take (i := 3) (oi := { dst := some 26, op := Go.Op.binOp Go.BinOp.neq 34 (Go.Operand.tmp 24) (Go.Operand.tmp 25) 34, type := 4, pos := "frag.go:90", after := #[{ on := 1, ground := Go.Ground.data }, { on := 2, ground := Go.Ground.data }], guard := none }) (v := ?_) rfl (by kernel_rfl) (by kernel_rfl) (by kernel_rfl) (fun _ _ _ h => h) (Or.inl ⟨by rfl, ?_⟩) (by assumption) ?_
        rotate_left
        focus ((intro w hSw; clear hSw; have he := HE.out; go_simp) <;> (with_reducible rfl))
        try simp only [Act.put, List.setIfInBounds_toArray, List.set_cons_zero, List.set_cons_succ]
        refine wpAnyH_done (by kernel_rfl) ?_ _
        have LR5 : w5.heap[w.heap.size]? = some pkz := lies_below (w := (wr.alloc (pkC id m of ttl pr a b' s)).drew) (lies_alloc HLR.out _) hb5 (lies_lt (lies_alloc HLR.out _))
        have LW5 : Hid (w5.heap[gw]? = some (pkC i0 false 0 t0 r0' a0 b0 ⟨#[]⟩)) := hHeld.2
        have kb5 : Hid (Below w.heap.size w w5) := k0.out.trans (hb5.mono k0.out.size)
        clear hHeld hb5 k0 LP0 LW0 HLR HLW hb hbs
        have LR5 := Lib.hid LR5
        go_wp2
        go_roundw
        case rel => exact ⟨k + 1, by omega, by go_num, LR5, LW5, kb5.out, HAY.out HB.out⟩
        case measure => simp [intOf]; omega
    · obtain rfl : k = n := by omega
      have HAK : Hid (alike l = true) := alike_yes H0.out (by
        have h := HAL.out
        rw [List.take_of_length_le (by rw [← Hn.out]; omega)] at h
        rw [HP0.out _]; exact h)
      clear HAL
      have H27 := Lib.hid (HM27.out wr hb)
      by_cases hm2 : M2 = 0
      · subst hm2
        obtain ⟨b2, off2, e2, _, hc2⟩ := HX.out.get (k := c) (by rw [← Hn.out]; have := Hcn.out; omega)
        cases e2
        have hLM := lastM_at (l := l) (c := c) (by rw [← Hn.out, Hcn.out])
        have hc2 := (hc2.below hb hbl).2.1
        generalize (l[c]'(by rw [← Hn.out]; have := Hcn.out; omega)).m = mm at hc2 hLM
        have HLM := Lib.hid hLM
        clear hLM
        cases mm
        · by_cases hg : 65515 < M1
          · have hE := Lib.hid (HNO.out _ (jn_long H0.out HAK.out HM2.out HLM.out (by rw [HM1.out]; exact hg)))
            go_upto_region 16 with (first
              | (go_at_call 35; (with_reducible refine (H27.out).mono ?_); rintro r w6 ⟨rfl, hb6⟩
                 (have LR6 := lies_below HLR.out hb6 (lies_lt HLR.out))
                 (have hc3 := (hb6.cell (Nat.lt_of_lt_of_le hbl hb.size)).trans hc2)
                 (have kX := Lib.hid (hb.trans (hb6.mono hb.size)))
                 (clear hb6)))
            obtain ⟨r0, r1, r2, r3, r4, r5, r6, r7, r8, r9, r10, r11, r12, r13⟩ := cells14 LR6
            have f0 := lies_frozen LR6 0
            have f1 := lies_frozen LR6 1
            have f2 := lies_frozen LR6 2
            have f3 := lies_frozen LR6 3
            have f4 := lies_frozen LR6 4
            have f5 := lies_frozen LR6 5
            have f6 := lies_frozen LR6 6
            have f7 := lies_frozen LR6 7
            have f8 := lies_frozen LR6 8
            have f9 := lies_frozen LR6 9
            have f10 := lies_frozen LR6 10
            have f11 := lies_frozen LR6 11
            have f12 := lies_frozen LR6 12
            have f13 := lies_frozen LR6 13
            have LX := Lib.hid LR6
            clear LR6
            go_wp2
            (try simp only [Exit.inBlock, Exit.then])
            obtain ⟨k0, k1, k2, k3, k4, k5, k6, k7, k8, k9, k10, k11, k12, k13, E14⟩ := read_14 (y0 := .int .i64 0) (y1 := .bool false) (y2 := .int .i64 0) (y3 := .int .i64 0) (y4 := .int .i64 0) (y5 := .int .u8 0) (y6 := .int .u8 0) (y7 := .int .u8 0) (y8 := .int .u8 0) (y9 := .int .u8 0) (y10 := .int .u8 0) (y11 := .int .u8 0) (y12 := .int .u8 0) (y13 := .string ⟨#[]⟩) LX.out
            refine bodyPost_ret (by simp [results, Try.results21, go_sem, k0, k1, k2, k3, k4, k5, k6, k7, k8, k9, k10, k11, k12, k13]; try rfl) rfl ?_
            exact ⟨hE.out, below_14 kX.out (Nat.le_refl _) _ _ _ _ _ _ _ _ _ _ _ _ _ _⟩
          · have hJ := jn_ok H0.out HAK.out HM2.out HLM.out (by rw [HM1.out]; exact hg)
            have hE : Hid (Ending.returned (.tuple #[pk i0 false 0 t0 r0' a0 b0 TS, .int .i64 0]) = Ending.returned (.tuple #[RV, .int .i64 RE])) := by
              show _ = _
              rw [← HRV.out, ← HRE.out, hJ, HP0.out H0.out, HTS.out]
            clear hJ
            go_upto_region 18 with (first
              | (go_at_call 35; (with_reducible refine (H27.out).mono ?_); rintro r w6 ⟨rfl, hb6⟩
                 (have LR6 := Lib.hid (lies_below HLR.out hb6 (lies_lt HLR.out)))
                 (have LW6 := Lib.hid (lies_below HLW.out hb6 (lies_lt HLW.out)))
                 (have hc3 := (hb6.cell (Nat.lt_of_lt_of_le hbl hb.size)).trans hc2)
                 (have k6 := Lib.hid (hb.trans (hb6.mono hb.size)))
                 (have H28 := Lib.hid (HT28.out w6 k6.out))
                 (clear hb6))
              | (go_at_call 36; (with_reducible refine (H28.out).mono ?_); rintro r w7 ⟨rfl, hb7⟩
                 (have LR7 := Lib.hid (lies_below LR6.out hb7 (lies_lt LR6.out)))
                 (have LW7 := Lib.hid (lies_below LW6.out hb7 (lies_lt LW6.out)))
                 (have q13 := lies_cell LW7.out 13)
                 (have g13 := lies_frozen LW7.out 13)
                 (have k7 := Lib.hid (k6.out.trans (hb7.mono k6.out.size)))
                 (clear hb7)))
            have LWX : (w7.setCell ⟨gw, 13, none⟩ (.string TS)).heap[gw]? = some (pkC i0 false 0 t0 r0' a0 b0 TS) := lies_set LW7.out 13 _
            have LRX : (w7.setCell ⟨gw, 13, none⟩ (.string TS)).heap[w.heap.size]? = some pkz := lies_away LR7.out (by omega) _ _
            have kX : Hid (Below w.heap.size w (w7.setCell ⟨gw, 13, none⟩ (.string TS))) := k7.out.setCell (p := ⟨gw, 13, none⟩) (by show _ ≤ gw; omega) _
            generalize w7.setCell ⟨gw, 13, none⟩ (.string TS) = X at LWX LRX kX ⊢
            clear q13 g13 LR7 LW7 k7
            obtain ⟨d0, d1, d2, d3, d4, d5, d6, d7, d8, d9, d10, d11, d12, d13⟩ := cells14 LWX
            clear LWX
            obtain ⟨r0, r1, r2, r3, r4, r5, r6, r7, r8, r9, r10, r11, r12, r13⟩ := cells14 LRX
            have f0 := lies_frozen LRX 0
            have f1 := lies_frozen LRX 1
            have f2 := lies_frozen LRX 2
            have f3 := lies_frozen LRX 3
            have f4 := lies_frozen LRX 4
            have f5 := lies_frozen LRX 5
            have f6 := lies_frozen LRX 6
            have f7 := lies_frozen LRX 7
            have f8 := lies_frozen LRX 8
            have f9 := lies_frozen LRX 9
            have f10 := lies_frozen LRX 10
            have f11 := lies_frozen LRX 11
            have f12 := lies_frozen LRX 12
            have f13 := lies_frozen LRX 13
            have LX := Lib.hid LRX
            clear LRX
            go_wp2
            (try simp only [Exit.inBlock, Exit.then])
            obtain ⟨k0, k1, k2, k3, k4, k5, k6, k7, k8, k9, k10, k11, k12, k13, E14⟩ := read_14 (y0 := .int .i64 i0) (y1 := .bool false) (y2 := .int .i64 0) (y3 := .int .i64 t0) (y4 := .int .i64 r0') (y5 := .int .u8 a0.a.toNat) (y6 := .int .u8 a0.b.toNat) (y7 := .int .u8 a0.c.toNat) (y8 := .int .u8 a0.d.toNat) (y9 := .int .u8 b0.a.toNat) (y10 := .int .u8 b0.b.toNat) (y11 := .int .u8 b0.c.toNat) (y12 := .int .u8 b0.d.toNat) (y13 := .string TS) LX.out
            refine bodyPost_ret (by simp [results, Try.results21, go_sem, k0, k1, k2, k3, k4, k5, k6, k7, k8, k9, k10, k11, k12, k13]; try rfl) rfl ?_
            exact ⟨hE.out, below_14 kX.out (Nat.le_refl _) _ _ _ _ _ _ _ _ _ _ _ _ _ _⟩
        · have hE := Lib.hid (HNO.out _ (jn_last H0.out HAK.out HM2.out HLM.out))
          go_upto_region 14 with (first
            | (go_at_call 35; (with_reducible refine (H27.out).mono ?_); rintro r w6 ⟨rfl, hb6⟩
               (have LR6 := lies_below HLR.out hb6 (lies_lt HLR.out))
               (have hc3 := (hb6.cell (Nat.lt_of_lt_of_le hbl hb.size)).trans hc2)
               (have kX := Lib.hid (hb.trans (hb6.mono hb.size)))
               (clear hb6)))
          obtain ⟨r0, r1, r2, r3, r4, r5, r6, r7, r8, r9, r10, r11, r12, r13⟩ := cells14 LR6
          have f0 := lies_frozen LR6 0
          have f1 := lies_frozen LR6 1
          have f2 := lies_frozen LR6 2
          have f3 := lies_frozen LR6 3
          have f4 := lies_frozen LR6 4
          have f5 := lies_frozen LR6 5
          have f6 := lies_frozen LR6 6
          have f7 := lies_frozen LR6 7
          have f8 := lies_frozen LR6 8
          have f9 := lies_frozen LR6 9
          have f10 := lies_frozen LR6 10
          have f11 := lies_frozen LR6 11
          have f12 := lies_frozen LR6 12
          have f13 := lies_frozen LR6 13
          have LX := Lib.hid LR6
          clear LR6
          go_wp2
          (try simp only [Exit.inBlock, Exit.then])
          obtain ⟨k0, k1, k2, k3, k4, k5, k6, k7, k8, k9, k10, k11, k12, k13, E14⟩ := read_14 (y0 := .int .i64 0) (y1 := .bool false) (y2 := .int .i64 0) (y3 := .int .i64 0) (y4 := .int .i64 0) (y5 := .int .u8 0) (y6 := .int .u8 0) (y7 := .int .u8 0) (y8 := .int .u8 0) (y9 := .int .u8 0) (y10 := .int .u8 0) (y11 := .int .u8 0) (y12 := .int .u8 0) (y13 := .string ⟨#[]⟩) LX.out
          refine bodyPost_ret (by simp [results, Try.results21, go_sem, k0, k1, k2, k3, k4, k5, k6, k7, k8, k9, k10, k11, k12, k13]; try rfl) rfl ?_
          exact ⟨hE.out, below_14 kX.out (Nat.le_refl _) _ _ _ _ _ _ _ _ _ _ _ _ _ _⟩
      · have hm2' : (M2 != 0) = true := by simpa using hm2
        have hE := Lib.hid (HNO.out _ (jn_ms H0.out HAK.out (by rw [HM2.out]; exact hm2)))
        rw [HM2.out] at hE
        go_upto_region 12 with (first
          | (go_at_call 35; (with_reducible refine (H27.out).mono ?_); rintro r w6 ⟨rfl, hb6⟩
             (have LR6 := lies_below HLR.out hb6 (lies_lt HLR.out))
             (have kX := Lib.hid (hb.trans (hb6.mono hb.size)))
             (clear hb6)))
        obtain ⟨r0, r1, r2, r3, r4, r5, r6, r7, r8, r9, r10, r11, r12, r13⟩ := cells14 LR6
        have f0 := lies_frozen LR6 0
        have f1 := lies_frozen LR6 1
        have f2 := lies_frozen LR6 2
        have f3 := lies_frozen LR6 3
        have f4 := lies_frozen LR6 4
        have f5 := lies_frozen LR6 5
        have f6 := lies_frozen LR6 6
        have f7 := lies_frozen LR6 7
        have f8 := lies_frozen LR6 8
        have f9 := lies_frozen LR6 9
        have f10 := lies_frozen LR6 10
        have f11 := lies_frozen LR6 11
        have f12 := lies_frozen LR6 12
        have f13 := lies_frozen LR6 13
        have LX := Lib.hid LR6
        clear LR6
        go_wp2
        (try simp only [Exit.inBlock, Exit.then])
        obtain ⟨k0, k1, k2, k3, k4, k5, k6, k7, k8, k9, k10, k11, k12, k13, E14⟩ := read_14 (y0 := .int .i64 0) (y1 := .bool false) (y2 := .int .i64 0) (y3 := .int .i64 0) (y4 := .int .i64 0) (y5 := .int .u8 0) (y6 := .int .u8 0) (y7 := .int .u8 0) (y8 := .int .u8 0) (y9 := .int .u8 0) (y10 := .int .u8 0) (y11 := .int .u8 0) (y12 := .int .u8 0) (y13 := .string ⟨#[]⟩) LX.out
        refine bodyPost_ret (by simp [results, Try.results21, go_sem, k0, k1, k2, k3, k4, k5, k6, k7, k8, k9, k10, k11, k12, k13]; try rfl) rfl ?_
        exact ⟨hE.out, below_14 kX.out (Nat.le_refl _) _ _ _ _ _ _ _ _ _ _ _ _ _ _⟩
end Go.Proofs.Ytgdjcoodjdckkaa
/- ReasmOnly, the plain side: the parts of a Key as the law gathers them, and what Join makes of them. -/
set_option maxRecDepth 100000
namespace Go.Proofs.Ytgdjcoodjdckkaa
open Go.RowKit Go.Proofs.PitotIp Go.Maps Go.Proofs.PitotFrag
open Go.Proofs.PitotReasm (Bg Tb Fine Pt Chain Inv own bad first next passed passE put keep)

/-- A packet whose numbers are numbers. -/
structure Wp where
  p : Pk
  hw : p.Wf
abbrev Wp.k (x : Wp) : K := x.p.key x.hw
def Wp.pt (x : Wp) : Pt K UInt8 := ⟨x.k, x.p.m, x.p.off, x.p.d⟩
/-- As the law puts it down: without its TTL. -/
def Wp.z (x : Wp) : Pk := ⟨x.p.id, x.p.m, x.p.off, 0, x.p.pr, x.p.a, x.p.b, x.p.s⟩
def ownW : List Wp → K → List Wp
  | [], _ => []
  | x :: r, k => if x.k = k ∧ ¬ (x.p.off = 0 ∧ x.p.m = false) then (if x.p.off = 0 then [x] else ownW r k ++ [x]) else ownW r k
theorem own_pt : ∀ (r : List Wp) (k : K), own (r.map Wp.pt) k = (ownW r k).map Wp.pt
  | [], _ => rfl
  | x :: r, k => by
    rw [List.map_cons, own, ownW]
    show (if x.k = k ∧ ¬ (x.p.off = 0 ∧ x.p.m = false) then (if x.p.off = 0 then [x.pt] else own (r.map Wp.pt) k ++ [x.pt]) else own (r.map Wp.pt) k) = _
    rw [own_pt r k]
    split
    · split
      · rfl
      · rw [List.map_append]; rfl
    · rfl
theorem ownW_key : ∀ (r : List Wp) (k : K), ∀ x ∈ ownW r k, x.k = k
  | [], _, _, h => by simp [ownW] at h
  | x :: r, k, y, h => by
    rw [ownW] at h
    split at h
    · rename_i hk
      split at h
      · simp only [List.mem_singleton] at h; subst h; exact hk.1
      · rw [List.mem_append] at h
        rcases h with h | h
        · exact ownW_key r k y h
        · simp only [List.mem_singleton] at h; subst h; exact hk.1
    · exact ownW_key r k y h
theorem ownW_mem : ∀ (r : List Wp) (k : K), ∀ x ∈ ownW r k, x ∈ r
  | [], _, _, h => by simp [ownW] at h
  | x :: r, k, y, h => by
    rw [ownW] at h
    split at h
    · split at h
      · simp only [List.mem_singleton] at h; subst h; exact List.mem_cons_self ..
      · rw [List.mem_append] at h
        rcases h with h | h
        · exact List.mem_cons_of_mem _ (ownW_mem r k y h)
        · simp only [List.mem_singleton] at h; subst h; exact List.mem_cons_self ..
    · exact List.mem_cons_of_mem _ (ownW_mem r k y h)
theorem ownW_len : ∀ (r : List Wp) (k : K), (ownW r k).length ≤ r.length
  | [], _ => by simp [ownW]
  | x :: r, k => by
    have := ownW_len r k
    rw [ownW]
    split
    · split <;> simp; omega
    · simp; omega
/-- What the law has gathered in the end, behind the part x, of the parts r ahead of it (the newest one first). -/
def gathW (x : Wp) (r : List Wp) : List Wp := if x.p.off = 0 then [x] else ownW r x.k ++ [x]
theorem gathW_len (x : Wp) (r : List Wp) : (gathW x r).length ≤ r.length + 1 := by
  have := ownW_len r x.k
  unfold gathW; split <;> simp; omega
theorem gathW_pos (x : Wp) (r : List Wp) : 0 < (gathW x r).length := by
  unfold gathW; split <;> simp
theorem gathW_mem (x : Wp) (r : List Wp) : ∀ y ∈ gathW x r, y = x ∨ y ∈ r := fun y h => by
  unfold gathW at h
  split at h
  · simp only [List.mem_singleton] at h; exact .inl h
  · rw [List.mem_append] at h
    rcases h with h | h
    · exact .inr (ownW_mem r _ y h)
    · simp only [List.mem_singleton] at h; exact .inl h
theorem gathW_key (x : Wp) (r : List Wp) : ∀ y ∈ gathW x r, y.k = x.k := fun y h => by
  unfold gathW at h
  split at h
  · simp only [List.mem_singleton] at h; rw [h]
  · rw [List.mem_append] at h
    rcases h with h | h
    · exact ownW_key r _ y h
    · simp only [List.mem_singleton] at h; rw [h]

/-- Parts that stand where they say come out with all their bytes. -/
theorem ms_run : ∀ (l : List Pk) (h : Nat), (∀ i (hi : i < l.length), jd l[i] (h + (catP (l.take i)).length) (decide (i + 1 = l.length)) = 0) → ms l h = (((h + (catP l).length : Nat) : Int), 0)
  | [], h, _ => by simp [ms, catP]
  | p :: r, h, H => by
    have h0 := H 0 (by simp)
    simp only [List.getElem_cons_zero, List.take_zero, List.length_cons] at h0
    have e : r.isEmpty = decide (0 + 1 = r.length + 1) := by cases r <;> simp
    rw [show (catP ([] : List Pk)).length = 0 from rfl, Nat.add_zero, ← e] at h0
    rw [ms, if_pos h0, ms_run r (h + p.s.size) (fun i hi => ?_)]
    · have : (catP (p :: r)).length = p.s.size + (catP r).length := by
        show (p.s.data.toList ++ catP r).length = _
        rw [List.length_append, size_list]
      rw [this, Nat.add_assoc]
    · have := H (i + 1) (by simpa using hi)
      simp only [List.getElem_cons_succ, List.take_succ_cons, List.length_cons] at this
      have e2 : (catP (p :: r.take i)).length = p.s.size + (catP (r.take i)).length := by
        show (p.s.data.toList ++ catP (r.take i)).length = _
        rw [List.length_append, size_list]
      rw [e2, ← Nat.add_assoc] at this
      rw [show decide (i + 1 = r.length) = decide (i + 1 + 1 = r.length + 1) by simp]
      exact this
theorem catP_z (l : List Wp) : catP (l.map Wp.z) = (l.map Wp.pt).flatMap (·.d) := by
  induction l with
  | nil => rfl
  | cons x r ih =>
    show x.p.s.data.toList ++ catP (r.map Wp.z) = x.p.d ++ (r.map Wp.pt).flatMap (·.d)
    rw [ih]
theorem com_key {x y : Wp} (h : x.k = y.k) : com x.z = com y.z := by
  obtain ⟨p, hp⟩ := x
  obtain ⟨q, hq⟩ := y
  simp only [Wp.k, Pk.key, K.mk.injEq] at h
  obtain ⟨h1, h2, h3, h4⟩ := h
  simp only [com, Wp.z, h1, h2, h3, h4]
theorem jn_gath {x : Wp} {r : List Wp} {out : List UInt8} (h : x.p.m = false ∧ ((x.p.off = 0 ∧ out = x.p.d) ∨ (x.p.off ≠ 0 ∧ ∃ b, Chain (own (r.map Wp.pt) x.k) b ∧ b.length % 8 = 0 ∧ x.p.off = ((b.length / 8 : Nat) : Int) ∧ out = b ++ x.p.d ∧ b.length + x.p.d.length ≤ 8200))) (hs : x.p.s.size ≤ 500) :
    jn ((gathW x r).map Wp.z) = (⟨x.p.id, false, 0, 0, x.p.pr, x.p.a, x.p.b, bl out⟩, 0) := by
  obtain ⟨hm, h⟩ := h
  have hpos : 0 < ((gathW x r).map Wp.z).length := by rw [List.length_map]; exact gathW_pos x r
  have hal : alike ((gathW x r).map Wp.z) = true := by
    refine alike_yes hpos (List.all_eq_true.2 fun q hq => ?_)
    obtain ⟨y, hy, rfl⟩ := List.mem_map.1 hq
    rw [pkb_iff, List.getElem_map]
    exact com_key ((gathW_key x r y hy).trans (gathW_key x r _ (List.getElem_mem _)).symm)
  have h0 : com (((gathW x r).map Wp.z)[0]'hpos) = com x.z := by
    rw [List.getElem_map]
    exact com_key (gathW_key x r _ (List.getElem_mem _))
  obtain ⟨c, hc, hcat, hrun, hbound⟩ : ∃ c, (gathW x r).length = c + 1 ∧ catP ((gathW x r).map Wp.z) = out ∧ ms ((gathW x r).map Wp.z) 0 = (((catP ((gathW x r).map Wp.z)).length : Int), 0) ∧ out.length ≤ 9000 := by
    rcases h with ⟨ho, rfl⟩ | ⟨ho, b, hch, h8, hoff, rfl, hlen⟩
    · have e : gathW x r = [x] := by unfold gathW; rw [if_pos ho]
      rw [e]
      refine ⟨0, rfl, by simp [catP, Wp.z], ?_, by rw [Pk.d_length]; omega⟩
      have := ms_run [x.z] 0 (fun i hi => by
        have : i = 0 := by simpa using hi
        subst this
        simp [jd, Wp.z, ho, hm, catP])
      rw [Nat.zero_add] at this
      exact this
    · have e : gathW x r = ownW r x.k ++ [x] := by unfold gathW; rw [if_neg ho]
      rw [own_pt] at hch
      rw [e]
      have hb : catP ((ownW r x.k).map Wp.z) = b := by rw [catP_z]; exact hch.cat
      have hcat : catP ((ownW r x.k ++ [x]).map Wp.z) = b ++ x.p.d := by
        rw [List.map_append, List.map_cons, List.map_nil, catP_snoc, hb]; rfl
      refine ⟨(ownW r x.k).length, by simp, hcat, ?_, by rw [List.length_append]; omega⟩
      have := ms_run ((ownW r x.k ++ [x]).map Wp.z) 0 (fun i hi => by
        rw [Nat.zero_add]
        simp only [List.length_map, List.length_append, List.length_cons, List.length_nil] at hi ⊢
        by_cases hlt : i < (ownW r x.k).length
        · have hi2 : i < ((ownW r x.k).map Wp.pt).length := by simpa using hlt
          have h1 := hch.each _ (List.getElem_mem hi2)
          have h2 := hch.off i hi2
          rw [List.getElem_map] at h1 h2
          have e1 : ((ownW r x.k ++ [x]).map Wp.z)[i]'(by simp; omega) = (ownW r x.k)[i].z := by
            rw [List.getElem_map, List.getElem_append_left hlt]
          have e2 : ((ownW r x.k ++ [x]).map Wp.z).take i = ((ownW r x.k).take i).map Wp.z := by
            rw [← List.map_take, List.take_append_of_le_length (by omega)]
          rw [e1, e2, catP_z]
          rw [← List.map_take] at h2
          have h3 : (ownW r x.k)[i].p.off = _ := h2
          have h4 : (ownW r x.k)[i].p.m = true := h1.1
          have h5 : (ownW r x.k)[i].p.s.size % 8 = 0 := by have := h1.2.1; rw [← Pk.d_length]; exact this
          have h6 : (ownW r x.k)[i].p.s.size ≠ 0 := by have := h1.2.2; rw [← Pk.d_length]; exact this
          unfold jd
          rw [if_neg (by simp only [Wp.z]; rw [h3]; simp), if_neg (by simp only [Wp.z]; omega), if_neg (by simp only [Wp.z, h4]; simp)]
        · have hil : i = (ownW r x.k).length := by omega
          subst hil
          have e1 : ((ownW r x.k ++ [x]).map Wp.z)[(ownW r x.k).length]'(by simp) = x.z := by
            rw [List.getElem_map, List.getElem_append_right (Nat.le_refl _)]; simp
          have e2 : ((ownW r x.k ++ [x]).map Wp.z).take (ownW r x.k).length = (ownW r x.k).map Wp.z := by
            rw [← List.map_take, List.take_append_of_le_length (Nat.le_refl _), List.take_length]
          rw [e1, e2, hb]
          unfold jd
          rw [if_neg (by simp only [Wp.z]; rw [hoff]; simp), if_neg (by simp only [Wp.z, hm]; simp), if_neg (by simp)])
      rw [Nat.zero_add] at this
      exact this
  have hlast : lastM ((gathW x r).map Wp.z) = false := by
    rw [lastM_at (c := c) (by rw [List.length_map]; exact hc), List.getElem_map]
    have e : (gathW x r)[c]'(by omega) = x := by
      revert hc
      unfold gathW
      split
      · intro hc
        have : c = 0 := by simpa using hc.symm
        subst this; rfl
      · intro hc
        have : c = (ownW r x.k).length := by simpa using hc.symm
        subst this
        rw [List.getElem_append_right (Nat.le_refl _)]; simp
    rw [e]; exact hm
  have hj := jn_ok hpos hal (by rw [hrun]) hlast (by rw [hrun, hcat]; simp only; omega)
  rw [hj, hcat]
  have h0' := h0
  simp only [com, Pk.mk.injEq] at h0'
  obtain ⟨g1, _, _, g4, g5, g6, g7, _⟩ := h0'
  rw [g1, g4, g5, g6, g7]
  rfl
end Go.Proofs.Ytgdjcoodjdckkaa
/- The law's condition: arrays compared. -/
set_option maxRecDepth 100000
namespace Go.Proofs.Ytgdjcoodjdckkaa
open Go.RowKit Go.Proofs.PitotIp Go.Maps Go.Proofs.PitotFrag
open Go.Proofs.Ytgdjcoodjdckkaa.Bi (lies_lt lies_cell lies_frozen lies_alloc lies_set)

theorem eq_q4 (a b : Q4) (w : World) : (Go.Op.equalIn 10000 32 (.agg #[.int .u8 a.a.toNat, .int .u8 a.b.toNat, .int .u8 a.c.toNat, .int .u8 a.d.toNat]) (.agg #[.int .u8 b.a.toNat, .int .u8 b.b.toNat, .int .u8 b.c.toNat, .int .u8 b.d.toNat])).run Try.prog w = .ok (decide (a = b)) w := by
  have e := eq4 9998 a.a.toNat a.b.toNat a.c.toNat a.d.toNat b.a.toNat b.b.toNat b.c.toNat b.d.toNat w
  have e2 : (((a.a.toNat : Int) == b.a.toNat) && ((a.b.toNat : Int) == b.b.toNat) && ((a.c.toNat : Int) == b.c.toNat) && ((a.d.toNat : Int) == b.d.toNat)) = decide (a = b) := by
    have := q4b_iff a b
    by_cases h : a = b
    · rw [decide_eq_true h]; exact this.2 h
    · rw [decide_eq_false h]
      have : q4b a b = false := by cases hq : q4b a b with | true => exact absurd (this.1 hq) h | false => rfl
      exact this
  rw [← e2]
  exact e
end Go.Proofs.Ytgdjcoodjdckkaa
