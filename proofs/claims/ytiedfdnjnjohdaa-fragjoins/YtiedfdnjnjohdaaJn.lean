/- Contract of Join. -/
import Derived.Test.YtiedfdnjnjohdaaJe
import Derived.Deep.RegionHeld3
set_option maxRecDepth 100000
namespace Go.Proofs.Ytiedfdnjnjohdaa
open Go.RowKit Go.Proofs.PitotFrag Go.Proofs.PitotIp
open Go.Proofs.Ytiedfdnjnjohdaa.Bi (lies_lt lies_cell lies_frozen lies_alloc lies_set)

theorem lies_away {w : World} {g g' : Nat} {cs : Array Value} {t : TypeId} (h : w.heap[g]? = some (.cells cs t)) (hne : g ≠ g') (i : Nat) (u : Value) : (w.setCell ⟨g', i, none⟩ u).heap[g]? = some (.cells cs t) := by
  rw [RowKit.Below.heap_setCell _ _ _ _ hne]; exact h
/-- No packet. -/
def pkN : Pk := ⟨0, false, 0, 0, 0, q0, q0, ⟨#[]⟩⟩
/-- Is the last one a part behind which others come? -/
def lastM (l : List Pk) : Bool := match l.getLast? with | some p => p.m | none => false
/-- Have all what the first one has? -/
def alike (l : List Pk) : Bool := match l with | [] => true | p :: _ => l.all fun q => pkb (com q) (com p)
/-- What Join answers. -/
def jn (l : List Pk) : Pk × Int := match l with
  | [] => (pkN, 23)
  | p :: r => if alike (p :: r) = false then (pkN, 15) else if (ms (p :: r) 0).2 ≠ 0 then (pkN, (ms (p :: r) 0).2) else if lastM (p :: r) = true then (pkN, 10) else if 65515 < (ms (p :: r) 0).1 then (pkN, 11) else (⟨p.id, false, 0, p.ttl, p.pr, p.a, p.b, bl (catP (p :: r))⟩, 0)
theorem jn_alike {l : List Pk} (h0 : 0 < l.length) (h : alike l = false) : jn l = (pkN, 15) := by
  cases l with | nil => simp at h0 | cons p r => rw [jn, if_pos h]
theorem jn_ms {l : List Pk} (h0 : 0 < l.length) (h : alike l = true) (hm : ¬ (ms l 0).2 = 0) : jn l = (pkN, (ms l 0).2) := by
  cases l with | nil => simp at h0 | cons p r => rw [jn, if_neg (by rw [h]; simp), if_pos hm]
theorem jn_last {l : List Pk} (h0 : 0 < l.length) (h : alike l = true) (hm : (ms l 0).2 = 0) (hl : lastM l = true) : jn l = (pkN, 10) := by
  cases l with | nil => simp at h0 | cons p r => rw [jn, if_neg (by rw [h]; simp), if_neg (by simpa using hm), if_pos hl]
theorem jn_long {l : List Pk} (h0 : 0 < l.length) (h : alike l = true) (hm : (ms l 0).2 = 0) (hl : lastM l = false) (hg : 65515 < (ms l 0).1) : jn l = (pkN, 11) := by
  cases l with | nil => simp at h0 | cons p r => rw [jn, if_neg (by rw [h]; simp), if_neg (by simpa using hm), if_neg (by rw [hl]; simp), if_pos hg]
theorem jn_ok {l : List Pk} (h0 : 0 < l.length) (h : alike l = true) (hm : (ms l 0).2 = 0) (hl : lastM l = false) (hg : ¬ 65515 < (ms l 0).1) : jn l = (⟨l[0].id, false, 0, l[0].ttl, l[0].pr, l[0].a, l[0].b, bl (catP l)⟩, 0) := by
  cases l with | nil => simp at h0 | cons p r => rw [jn, if_neg (by rw [h]; simp), if_neg (by simpa using hm), if_neg (by rw [hl]; simp), if_neg hg]; rfl
theorem alike_no {l : List Pk} {k : Nat} (hk : k < l.length) (h : pkb (com l[k]) (com (l[0]'(by omega))) = false) : alike l = false := by
  cases l with
  | nil => simp at hk
  | cons p r =>
    unfold alike
    rw [List.all_eq_false]
    exact ⟨(p :: r)[k], List.getElem_mem hk, by simpa using h⟩
theorem alike_yes {l : List Pk} (h0 : 0 < l.length) (h : l.all (fun q => pkb (com q) (com l[0])) = true) : alike l = true := by
  cases l with | nil => simp at h0 | cons p r => exact h
theorem lastM_at {l : List Pk} {c : Nat} (hc : l.length = c + 1) : lastM l = (l[c]'(by omega)).m := by
  unfold lastM
  have e : l[l.length - 1]? = some (l[c]'(by omega)) := by
    have : l.length - 1 = c := by omega
    simp only [this]
    exact List.getElem?_eq_getElem _
  rw [List.getLast?_eq_getElem?, e]
theorem ms_bound : ∀ (l : List Pk) (h : Nat) (B : Nat), (∀ p ∈ l, p.s.size ≤ B) → 0 ≤ (ms l h).1 ∧ (ms l h).1 ≤ ((h + l.length * B : Nat) : Int)
  | [], h, B, _ => by simp [ms]
  | p :: r, h, B, hz => by
    rw [ms]
    split
    · have h1 := ms_bound r (h + p.s.size) B (fun q hq => hz q (List.mem_cons_of_mem _ hq))
      have h2 := hz p (List.mem_cons_self ..)
      have h3 : (r.length + 1) * B = r.length * B + B := Nat.succ_mul _ _
      simp only [List.length_cons]
      rw [h3]
      omega
    · exact ⟨Int.le_refl _, Int.natCast_nonneg _⟩

set_option maxHeartbeats 4000000 in
theorem join_any (A : Option Addr) (cap : Nat) (l : List Pk) (w : World) (hx : PksAt w A l) (hl : l.length ≤ 70000) (hz : ∀ p ∈ l, p.s.size ≤ 10000) (n : Nat) (hn : n = l.length) (h0 : 0 < l.length) :
    Calls Try.prog 19 #[.slice A n cap] w fun e w' => e = .returned (.tuple #[(jn l).1.val, .int .i64 (jn l).2]) ∧ Below w.heap.size w w' := by
  obtain ⟨RV, HRV⟩ : ∃ RV, Hid ((jn l).1.val = RV) := ⟨_, rfl⟩
  obtain ⟨RE, HRE⟩ : ∃ RE, Hid ((jn l).2 = RE) := ⟨_, rfl⟩
  rw [HRV.out, HRE.out]
  have HNO : ∀ (E : Int), jn l = (pkN, E) → Ending.returned (.tuple #[pk0, .int .i64 E]) = Ending.returned (.tuple #[RV, .int .i64 RE]) := fun E h => by
    rw [← HRV.out, ← HRE.out, h]; rfl
  have HNO := Lib.hid HNO
  obtain ⟨b, off, rfl, hbl, hc0⟩ := hx.get h0
  rw [Nat.zero_mul, Nat.add_zero] at hc0
  obtain ⟨P0, HP0⟩ : ∃ P, Hid (∀ h : 0 < l.length, l[0]'h = P) := ⟨l[0], fun _ => rfl⟩
  rw [HP0.out h0] at hc0
  have hMb := ms_bound l 0 10000 hz
  have HM27 := Lib.hid (fun (wr : World) (hb : Below w.heap.size w wr) => measure_any (some ⟨b, off, none⟩) cap l wr (hx.below hb) hl hz n hn)
  have HT28 := Lib.hid (fun (wr : World) (hb : Below w.heap.size w wr) => together_any (some ⟨b, off, none⟩) cap l wr (hx.below hb) hl hz n hn)
  obtain ⟨M1, HM1⟩ : ∃ M, Hid ((ms l 0).1 = M) := ⟨_, rfl⟩
  obtain ⟨M2, HM2⟩ : ∃ M, Hid ((ms l 0).2 = M) := ⟨_, rfl⟩
  obtain ⟨TS, HTS⟩ : ∃ S, Hid (bl (catP l) = S) := ⟨_, rfl⟩
  rw [HM1.out, HM2.out] at HM27
  rw [HTS.out] at HT28
  rw [HM1.out] at hMb
  have Hn := Lib.hid hn
  have H0 := Lib.hid h0
  have HX := Lib.hid hx
  rw [← hn] at hl
  have hpos : 0 < n := by rw [hn]; exact h0
  obtain ⟨c, hc⟩ : ∃ c, n = c + 1 := ⟨n - 1, by omega⟩
  have z1 : (n : Int) - 1 = (c : Int) := by omega
  have Hcn := Lib.hid hc
  have i1 : (c : Int) < (n : Int) := by omega
  have hM0 : M1 ≤ 700000000 := by
    have := hMb.2
    have h4 : l.length * 10000 ≤ 70000 * 10000 := Nat.mul_le_mul_right _ (by omega)
    omega
  clear hx h0 hn hz hc hMb
  obtain ⟨i0, m0, o0, t0, r0', a0, b0, s0⟩ := P0
  have HC0 := Lib.hid (common_any ⟨i0, m0, o0, t0, r0', a0, b0, s0⟩)
  obtain ⟨c0, c1, c2, c3, c4, c5, c6, c7, c8, c9, c10, c11, c12, c13⟩ := hc0
  simp only at c0 c1 c2 c3 c4 c5 c6 c7 c8 c9 c10 c11 c12 c13
  have hne : ¬ w.heap.size = b := by omega
  have HC0 : Hid (∀ w, Calls Try.prog 26 #[pk i0 m0 o0 t0 r0' a0 b0 s0] w fun e w' => e = .returned (pk i0 false 0 t0 r0' a0 b0 ⟨#[]⟩) ∧ Below w.heap.size w w') := HC0.out
  go_enter Try.func19, Try.ntmps19
  go_wp2_with (first
    | (go_at_call 26; (with_reducible refine (HC0.out _).mono ?_); rintro r w1 ⟨rfl, hb1⟩
       (have LR := Lib.hid (lies_below (heap_alloc_new w pkz) hb1 (by simp)))
       (have k1 := Lib.hid (((Below.refl _ w).alloc (Nat.le_refl _) pkz).trans (hb1.mono (by simp))))
       (clear hb1)))
  clear c0 c1 c2 c3 c4 c5 c6 c7 c8 c9 c10 c11 c12 c13
  have hgw : w.heap.size < w1.heap.size := lies_lt LR.out
  go_loopw [19] (fun v19 wr => ∃ (k : Nat), k ≤ n ∧ v19 = .int .i64 k ∧ Hid (wr.heap[w.heap.size]? = some pkz) ∧ Hid (wr.heap[w1.heap.size]? = some (pkC i0 false 0 t0 r0' a0 b0 ⟨#[]⟩)) ∧ Below w.heap.size w wr ∧ Hid ((l.take k).all (fun q => pkb (com q) ⟨i0, false, 0, t0, r0', a0, b0, ⟨#[]⟩⟩) = true)) (fun v19 _ => n - (intOf v19).toNat)
  case atStart => exact ⟨0, Nat.zero_le _, rfl, lies_alloc LR.out _, heap_alloc_new w1 _, k1.out.alloc k1.out.size _, by show _ = _; simp⟩
  case round =>
    clear LR k1
    obtain ⟨k, hk, rfl, HLR, HLW, hb, HAL⟩ := hrel
    generalize w1.heap.size = gw at *
    by_cases hlt : k < n
    · have hlt' : k < l.length := by rw [← Hn.out]; exact hlt
      obtain ⟨b2, off2, e2, _, hc2⟩ := HX.out.get hlt'
      cases e2
      have hc2 := hc2.below hb hbl
      have HAN : Hid (pkb (com l[k]) ⟨i0, false, 0, t0, r0', a0, b0, ⟨#[]⟩⟩ = false → alike l = false) := fun h => alike_no hlt' (by rw [HP0.out _]; exact h)
      have HAY : Hid (pkb (com l[k]) ⟨i0, false, 0, t0, r0', a0, b0, ⟨#[]⟩⟩ = true → (l.take (k + 1)).all (fun q => pkb (com q) ⟨i0, false, 0, t0, r0', a0, b0, ⟨#[]⟩⟩) = true) := fun h => by
        rw [List.take_succ_eq_append_getElem hlt', List.all_append, HAL.out]; simpa using h
      generalize l[k] = p at hc2 HAN HAY
      obtain ⟨id, m, of, ttl, pr, a, b', s⟩ := p
      obtain ⟨c0, c1, c2, c3, c4, c5, c6, c7, c8, c9, c10, c11, c12, c13⟩ := hc2
      simp only at c0 c1 c2 c3 c4 c5 c6 c7 c8 c9 c10 c11 c12 c13
      have HC26 : Hid (∀ w, Calls Try.prog 26 #[pk id m of ttl pr a b' s] w fun e w' => e = .returned (pk id false 0 ttl pr a b' ⟨#[]⟩) ∧ Below w.heap.size w w') := common_any ⟨id, m, of, ttl, pr, a, b', s⟩
      obtain ⟨B, HB⟩ : ∃ B, Hid (pkb (com ⟨id, m, of, ttl, pr, a, b', s⟩) ⟨i0, false, 0, t0, r0', a0, b0, ⟨#[]⟩⟩ = B) := ⟨_, rfl⟩
      have HE : Hid (∀ w : World, (Go.Op.equalIn 10000 31 (pk id false 0 ttl pr a b' ⟨#[]⟩) (pk i0 false 0 t0 r0' a0 b0 ⟨#[]⟩)).run Try.prog w = .ok B w) := fun w => by
        have h := eqP (com ⟨id, m, of, ttl, pr, a, b', s⟩) ⟨i0, false, 0, t0, r0', a0, b0, ⟨#[]⟩⟩ w
        rw [HB.out] at h
        exact h
      cases B
      · have LP0 : (wr.alloc (pkC id m of ttl pr a b' s)).drew.heap[wr.heap.size]? = some (pkC id m of ttl pr a b' s) := heap_alloc_new wr _
        have LW0 : (wr.alloc (pkC id m of ttl pr a b' s)).drew.heap[gw]? = some (pkC i0 false 0 t0 r0' a0 b0 ⟨#[]⟩) := lies_alloc HLW.out _
        have hbs := hb.size
        have k0 : Hid (Below w.heap.size w (wr.alloc (pkC id m of ttl pr a b' s)).drew) := (hb.alloc hbs _).drew
        have LP0 := Lib.hid LP0; have LW0 := Lib.hid LW0
        go_upto_region 7 with fail
        refine wp_region_held_drew (S := fun w' => w'.heap[wr.heap.size]? = some (pkC id m of ttl pr a b' s) ∧ w'.heap[gw]? = some (pkC i0 false 0 t0 r0' a0 b0 ⟨#[]⟩)) (by kernel_rfl) ?_ (fun hHeld => ?_)
        · exact ⟨LP0.out, LW0.out⟩
        refine wpAnyH_take (i := 0) (oi := { dst := some 23, op := Go.Op.load 31 (Go.Operand.tmp 6), type := 31, pos := "frag.go:90", after := #[], guard := none }) (v := ?_) rfl (by kernel_rfl) (by kernel_rfl) (by kernel_rfl) (fun _ _ _ h => h) (Or.inl ⟨by rfl, ?_⟩) (by assumption) ?_
        rotate_left
        focus ((intro w hSw; (try dsimp only at hSw); obtain ⟨c0, c1, c2, c3, c4, c5, c6, c7, c8, c9, c10, c11, c12, c13⟩ := cells14 hSw.1; clear hSw; go_simp) <;> (with_reducible rfl))
        try simp only [Act.put, List.setIfInBounds_toArray, List.set_cons_zero, List.set_cons_succ]
        refine wpAnyH_take (i := 2) (oi := { dst := some 25, op := Go.Op.load 31 (Go.Operand.tmp 4), type := 31, pos := "frag.go:90", after := #[], guard := none }) (v := ?_) rfl (by kernel_rfl) (by kernel_rfl) (by kernel_rfl) (fun _ _ _ h => h) (Or.inl ⟨by rfl, ?_⟩) (by assumption) ?_
        rotate_left
        focus ((intro w hSw; (try dsimp only at hSw); obtain ⟨c0, c1, c2, c3, c4, c5, c6, c7, c8, c9, c10, c11, c12, c13⟩ := cells14 hSw.2; clear hSw; go_simp) <;> (with_reducible rfl))
        try simp only [Act.put, List.setIfInBounds_toArray, List.set_cons_zero, List.set_cons_succ]
        refine wpAnyH_ready (rs := [1]) (by kernel_rfl) (by simp) ?_
        refine AllReadyH.cons (o := { dst := some 24, op := Go.Op.call { callee := Go.Callee.value (Go.Operand.func 26), args := #[Go.Operand.tmp 23], argTypes := #[31] }, type := 31, pos := "frag.go:90", after := #[{ on := 0, ground := Go.Ground.data }], guard := none }) rfl (fun K hK => ?_) AllReadyH.nil
        go_simp
        go_at_call 26; (with_reducible refine (HC26.out _).mono ?_); rintro r w5 ⟨rfl, hb5⟩; go_wp2_with fail
        refine hK.out _ _ ?_ (fun hHeld => ?_)
        · exact ⟨lies_below LP0.out hb5 (lies_lt LP0.out), lies_below LW0.out hb5 (lies_lt LW0.out)⟩
        clear hK K
        try simp only [Act.put, List.setIfInBounds_toArray, List.set_cons_zero, List.set_cons_succ]
        refine wpAnyH_take (i := 3) (oi := { dst := some 26, op := Go.Op.binOp Go.BinOp.neq 31 (Go.Operand.tmp 24) (Go.Operand.tmp 25) 31, type := 4, pos := "frag.go:90", after := #[{ on := 1, ground := Go.Ground.data }, { on := 2, ground := Go.Ground.data }], guard := none }) (v := ?_) rfl (by kernel_rfl) (by kernel_rfl) (by kernel_rfl) (fun _ _ _ h => h) (Or.inl ⟨by rfl, ?_⟩) (by assumption) ?_
        rotate_left
        focus ((intro w hSw; clear hSw; have he := HE.out; go_simp) <;> (with_reducible rfl))
        try simp only [Act.put, List.setIfInBounds_toArray, List.set_cons_zero, List.set_cons_succ]
        refine wpAnyH_done (by kernel_rfl) ?_ _
        have LR5 : w5.heap[w.heap.size]? = some pkz := lies_below (w := (wr.alloc (pkC id m of ttl pr a b' s)).drew) (lies_alloc HLR.out _) hb5 (lies_lt (lies_alloc HLR.out _))
        have LW5 : Hid (w5.heap[gw]? = some (pkC i0 false 0 t0 r0' a0 b0 ⟨#[]⟩)) := hHeld.2
        have kb5 : Hid (Below w.heap.size w w5) := k0.out.trans (hb5.mono k0.out.size)
        clear hHeld hb5 k0 LP0 LW0 HLR HLW hb hbs
        have kX := kb5
        have hE := Lib.hid (HNO.out _ (jn_alike H0.out (HAN.out HB.out)))
        obtain ⟨r0, r1, r2, r3, r4, r5, r6, r7, r8, r9, r10, r11, r12, r13⟩ := cells14 LR5
        have f0 := lies_frozen LR5 0
        have f1 := lies_frozen LR5 1
        have f2 := lies_frozen LR5 2
        have f3 := lies_frozen LR5 3
        have f4 := lies_frozen LR5 4
        have f5 := lies_frozen LR5 5
        have f6 := lies_frozen LR5 6
        have f7 := lies_frozen LR5 7
        have f8 := lies_frozen LR5 8
        have f9 := lies_frozen LR5 9
        have f10 := lies_frozen LR5 10
        have f11 := lies_frozen LR5 11
        have f12 := lies_frozen LR5 12
        have f13 := lies_frozen LR5 13
        have LX := Lib.hid LR5
        clear LR5
        go_wp2
        (try simp only [Exit.inBlock, Exit.then])
        obtain ⟨k0, k1, k2, k3, k4, k5, k6, k7, k8, k9, k10, k11, k12, k13, E14⟩ := read_14 (y0 := .int .i64 0) (y1 := .bool false) (y2 := .int .i64 0) (y3 := .int .i64 0) (y4 := .int .i64 0) (y5 := .int .u8 0) (y6 := .int .u8 0) (y7 := .int .u8 0) (y8 := .int .u8 0) (y9 := .int .u8 0) (y10 := .int .u8 0) (y11 := .int .u8 0) (y12 := .int .u8 0) (y13 := .string ⟨#[]⟩) LX.out
        refine bodyPost_ret (by simp [results, Try.results19, go_sem, k0, k1, k2, k3, k4, k5, k6, k7, k8, k9, k10, k11, k12, k13]; try rfl) rfl ?_
        exact ⟨hE.out, below_14 kX.out (Nat.le_refl _) _ _ _ _ _ _ _ _ _ _ _ _ _ _⟩
      · have LP0 : (wr.alloc (pkC id m of ttl pr a b' s)).drew.heap[wr.heap.size]? = some (pkC id m of ttl pr a b' s) := heap_alloc_new wr _
        have LW0 : (wr.alloc (pkC id m of ttl pr a b' s)).drew.heap[gw]? = some (pkC i0 false 0 t0 r0' a0 b0 ⟨#[]⟩) := lies_alloc HLW.out _
        have hbs := hb.size
        have k0 : Hid (Below w.heap.size w (wr.alloc (pkC id m of ttl pr a b' s)).drew) := (hb.alloc hbs _).drew
        have LP0 := Lib.hid LP0; have LW0 := Lib.hid LW0
        go_upto_region 7 with fail
        refine wp_region_held_drew (S := fun w' => w'.heap[wr.heap.size]? = some (pkC id m of ttl pr a b' s) ∧ w'.heap[gw]? = some (pkC i0 false 0 t0 r0' a0 b0 ⟨#[]⟩)) (by kernel_rfl) ?_ (fun hHeld => ?_)
        · exact ⟨LP0.out, LW0.out⟩
        refine wpAnyH_take (i := 0) (oi := { dst := some 23, op := Go.Op.load 31 (Go.Operand.tmp 6), type := 31, pos := "frag.go:90", after := #[], guard := none }) (v := ?_) rfl (by kernel_rfl) (by kernel_rfl) (by kernel_rfl) (fun _ _ _ h => h) (Or.inl ⟨by rfl, ?_⟩) (by assumption) ?_
        rotate_left
        focus ((intro w hSw; (try dsimp only at hSw); obtain ⟨c0, c1, c2, c3, c4, c5, c6, c7, c8, c9, c10, c11, c12, c13⟩ := cells14 hSw.1; clear hSw; go_simp) <;> (with_reducible rfl))
        try simp only [Act.put, List.setIfInBounds_toArray, List.set_cons_zero, List.set_cons_succ]
        refine wpAnyH_take (i := 2) (oi := { dst := some 25, op := Go.Op.load 31 (Go.Operand.tmp 4), type := 31, pos := "frag.go:90", after := #[], guard := none }) (v := ?_) rfl (by kernel_rfl) (by kernel_rfl) (by kernel_rfl) (fun _ _ _ h => h) (Or.inl ⟨by rfl, ?_⟩) (by assumption) ?_
        rotate_left
        focus ((intro w hSw; (try dsimp only at hSw); obtain ⟨c0, c1, c2, c3, c4, c5, c6, c7, c8, c9, c10, c11, c12, c13⟩ := cells14 hSw.2; clear hSw; go_simp) <;> (with_reducible rfl))
        try simp only [Act.put, List.setIfInBounds_toArray, List.set_cons_zero, List.set_cons_succ]
        refine wpAnyH_ready (rs := [1]) (by kernel_rfl) (by simp) ?_
        refine AllReadyH.cons (o := { dst := some 24, op := Go.Op.call { callee := Go.Callee.value (Go.Operand.func 26), args := #[Go.Operand.tmp 23], argTypes := #[31] }, type := 31, pos := "frag.go:90", after := #[{ on := 0, ground := Go.Ground.data }], guard := none }) rfl (fun K hK => ?_) AllReadyH.nil
        go_simp
        go_at_call 26; (with_reducible refine (HC26.out _).mono ?_); rintro r w5 ⟨rfl, hb5⟩; go_wp2_with fail
        refine hK.out _ _ ?_ (fun hHeld => ?_)
        · exact ⟨lies_below LP0.out hb5 (lies_lt LP0.out), lies_below LW0.out hb5 (lies_lt LW0.out)⟩
        clear hK K
        try simp only [Act.put, List.setIfInBounds_toArray, List.set_cons_zero, List.set_cons_succ]
        refine wpAnyH_take (i := 3) (oi := { dst := some 26, op := Go.Op.binOp Go.BinOp.neq 31 (Go.Operand.tmp 24) (Go.Operand.tmp 25) 31, type := 4, pos := "frag.go:90", after := #[{ on := 1, ground := Go.Ground.data }, { on := 2, ground := Go.Ground.data }], guard := none }) (v := ?_) rfl (by kernel_rfl) (by kernel_rfl) (by kernel_rfl) (fun _ _ _ h => h) (Or.inl ⟨by rfl, ?_⟩) (by assumption) ?_
        rotate_left
        focus ((intro w hSw; clear hSw; have he := HE.out; go_simp) <;> (with_reducible rfl))
        try simp only [Act.put, List.setIfInBounds_toArray, List.set_cons_zero, List.set_cons_succ]
        refine wpAnyH_done (by kernel_rfl) ?_ _
        have LR5 : w5.heap[w.heap.size]? = some pkz := lies_below (w := (wr.alloc (pkC id m of ttl pr a b' s)).drew) (lies_alloc HLR.out _) hb5 (lies_lt (lies_alloc HLR.out _))
        have LW5 : Hid (w5.heap[gw]? = some (pkC i0 false 0 t0 r0' a0 b0 ⟨#[]⟩)) := hHeld.2
        have kb5 : Hid (Below w.heap.size w w5) := k0.out.trans (hb5.mono k0.out.size)
        clear hHeld hb5 k0 LP0 LW0 HLR HLW hb hbs
        have LR5 := Lib.hid LR5
        go_wp2
        go_roundw
        case rel => exact ⟨k + 1, by omega, by go_num, LR5, LW5, kb5.out, HAY.out HB.out⟩
        case measure => simp [intOf]; omega
    · obtain rfl : k = n := by omega
      have HAK : Hid (alike l = true) := alike_yes H0.out (by
        have h := HAL.out
        rw [List.take_of_length_le (by rw [← Hn.out]; omega)] at h
        rw [HP0.out _]; exact h)
      clear HAL
      have H27 := Lib.hid (HM27.out wr hb)
      by_cases hm2 : M2 = 0
      · subst hm2
        obtain ⟨b2, off2, e2, _, hc2⟩ := HX.out.get (k := c) (by rw [← Hn.out]; have := Hcn.out; omega)
        cases e2
        have hLM := lastM_at (l := l) (c := c) (by rw [← Hn.out, Hcn.out])
        have hc2 := (hc2.below hb hbl).2.1
        generalize (l[c]'(by rw [← Hn.out]; have := Hcn.out; omega)).m = mm at hc2 hLM
        have HLM := Lib.hid hLM
        clear hLM
        cases mm
        · by_cases hg : 65515 < M1
          · have hE := Lib.hid (HNO.out _ (jn_long H0.out HAK.out HM2.out HLM.out (by rw [HM1.out]; exact hg)))
            go_upto_region 16 with (first
              | (go_at_call 27; (with_reducible refine (H27.out).mono ?_); rintro r w6 ⟨rfl, hb6⟩
                 (have LR6 := lies_below HLR.out hb6 (lies_lt HLR.out))
                 (have hc3 := (hb6.cell (Nat.lt_of_lt_of_le hbl hb.size)).trans hc2)
                 (have kX := Lib.hid (hb.trans (hb6.mono hb.size)))
                 (clear hb6)))
            obtain ⟨r0, r1, r2, r3, r4, r5, r6, r7, r8, r9, r10, r11, r12, r13⟩ := cells14 LR6
            have f0 := lies_frozen LR6 0
            have f1 := lies_frozen LR6 1
            have f2 := lies_frozen LR6 2
            have f3 := lies_frozen LR6 3
            have f4 := lies_frozen LR6 4
            have f5 := lies_frozen LR6 5
            have f6 := lies_frozen LR6 6
            have f7 := lies_frozen LR6 7
            have f8 := lies_frozen LR6 8
            have f9 := lies_frozen LR6 9
            have f10 := lies_frozen LR6 10
            have f11 := lies_frozen LR6 11
            have f12 := lies_frozen LR6 12
            have f13 := lies_frozen LR6 13
            have LX := Lib.hid LR6
            clear LR6
            go_wp2
            (try simp only [Exit.inBlock, Exit.then])
            obtain ⟨k0, k1, k2, k3, k4, k5, k6, k7, k8, k9, k10, k11, k12, k13, E14⟩ := read_14 (y0 := .int .i64 0) (y1 := .bool false) (y2 := .int .i64 0) (y3 := .int .i64 0) (y4 := .int .i64 0) (y5 := .int .u8 0) (y6 := .int .u8 0) (y7 := .int .u8 0) (y8 := .int .u8 0) (y9 := .int .u8 0) (y10 := .int .u8 0) (y11 := .int .u8 0) (y12 := .int .u8 0) (y13 := .string ⟨#[]⟩) LX.out
            refine bodyPost_ret (by simp [results, Try.results19, go_sem, k0, k1, k2, k3, k4, k5, k6, k7, k8, k9, k10, k11, k12, k13]; try rfl) rfl ?_
            exact ⟨hE.out, below_14 kX.out (Nat.le_refl _) _ _ _ _ _ _ _ _ _ _ _ _ _ _⟩
          · have hJ := jn_ok H0.out HAK.out HM2.out HLM.out (by rw [HM1.out]; exact hg)
            have hE : Hid (Ending.returned (.tuple #[pk i0 false 0 t0 r0' a0 b0 TS, .int .i64 0]) = Ending.returned (.tuple #[RV, .int .i64 RE])) := by
              show _ = _
              rw [← HRV.out, ← HRE.out, hJ, HP0.out H0.out, HTS.out]
            clear hJ
            go_upto_region 18 with (first
              | (go_at_call 27; (with_reducible refine (H27.out).mono ?_); rintro r w6 ⟨rfl, hb6⟩
                 (have LR6 := Lib.hid (lies_below HLR.out hb6 (lies_lt HLR.out)))
                 (have LW6 := Lib.hid (lies_below HLW.out hb6 (lies_lt HLW.out)))
                 (have hc3 := (hb6.cell (Nat.lt_of_lt_of_le hbl hb.size)).trans hc2)
                 (have k6 := Lib.hid (hb.trans (hb6.mono hb.size)))
                 (have H28 := Lib.hid (HT28.out w6 k6.out))
                 (clear hb6))
              | (go_at_call 28; (with_reducible refine (H28.out).mono ?_); rintro r w7 ⟨rfl, hb7⟩
                 (have LR7 := Lib.hid (lies_below LR6.out hb7 (lies_lt LR6.out)))
                 (have LW7 := Lib.hid (lies_below LW6.out hb7 (lies_lt LW6.out)))
                 (have q13 := lies_cell LW7.out 13)
                 (have g13 := lies_frozen LW7.out 13)
                 (have k7 := Lib.hid (k6.out.trans (hb7.mono k6.out.size)))
                 (clear hb7)))
            have LWX : (w7.setCell ⟨gw, 13, none⟩ (.string TS)).heap[gw]? = some (pkC i0 false 0 t0 r0' a0 b0 TS) := lies_set LW7.out 13 _
            have LRX : (w7.setCell ⟨gw, 13, none⟩ (.string TS)).heap[w.heap.size]? = some pkz := lies_away LR7.out (by omega) _ _
            have kX : Hid (Below w.heap.size w (w7.setCell ⟨gw, 13, none⟩ (.string TS))) := k7.out.setCell (p := ⟨gw, 13, none⟩) (by show _ ≤ gw; omega) _
            generalize w7.setCell ⟨gw, 13, none⟩ (.string TS) = X at LWX LRX kX ⊢
            clear q13 g13 LR7 LW7 k7
            obtain ⟨d0, d1, d2, d3, d4, d5, d6, d7, d8, d9, d10, d11, d12, d13⟩ := cells14 LWX
            clear LWX
            obtain ⟨r0, r1, r2, r3, r4, r5, r6, r7, r8, r9, r10, r11, r12, r13⟩ := cells14 LRX
            have f0 := lies_frozen LRX 0
            have f1 := lies_frozen LRX 1
            have f2 := lies_frozen LRX 2
            have f3 := lies_frozen LRX 3
            have f4 := lies_frozen LRX 4
            have f5 := lies_frozen LRX 5
            have f6 := lies_frozen LRX 6
            have f7 := lies_frozen LRX 7
            have f8 := lies_frozen LRX 8
            have f9 := lies_frozen LRX 9
            have f10 := lies_frozen LRX 10
            have f11 := lies_frozen LRX 11
            have f12 := lies_frozen LRX 12
            have f13 := lies_frozen LRX 13
            have LX := Lib.hid LRX
            clear LRX
            go_wp2
            (try simp only [Exit.inBlock, Exit.then])
            obtain ⟨k0, k1, k2, k3, k4, k5, k6, k7, k8, k9, k10, k11, k12, k13, E14⟩ := read_14 (y0 := .int .i64 i0) (y1 := .bool false) (y2 := .int .i64 0) (y3 := .int .i64 t0) (y4 := .int .i64 r0') (y5 := .int .u8 a0.a.toNat) (y6 := .int .u8 a0.b.toNat) (y7 := .int .u8 a0.c.toNat) (y8 := .int .u8 a0.d.toNat) (y9 := .int .u8 b0.a.toNat) (y10 := .int .u8 b0.b.toNat) (y11 := .int .u8 b0.c.toNat) (y12 := .int .u8 b0.d.toNat) (y13 := .string TS) LX.out
            refine bodyPost_ret (by simp [results, Try.results19, go_sem, k0, k1, k2, k3, k4, k5, k6, k7, k8, k9, k10, k11, k12, k13]; try rfl) rfl ?_
            exact ⟨hE.out, below_14 kX.out (Nat.le_refl _) _ _ _ _ _ _ _ _ _ _ _ _ _ _⟩
        · have hE := Lib.hid (HNO.out _ (jn_last H0.out HAK.out HM2.out HLM.out))
          go_upto_region 14 with (first
            | (go_at_call 27; (with_reducible refine (H27.out).mono ?_); rintro r w6 ⟨rfl, hb6⟩
               (have LR6 := lies_below HLR.out hb6 (lies_lt HLR.out))
               (have hc3 := (hb6.cell (Nat.lt_of_lt_of_le hbl hb.size)).trans hc2)
               (have kX := Lib.hid (hb.trans (hb6.mono hb.size)))
               (clear hb6)))
          obtain ⟨r0, r1, r2, r3, r4, r5, r6, r7, r8, r9, r10, r11, r12, r13⟩ := cells14 LR6
          have f0 := lies_frozen LR6 0
          have f1 := lies_frozen LR6 1
          have f2 := lies_frozen LR6 2
          have f3 := lies_frozen LR6 3
          have f4 := lies_frozen LR6 4
          have f5 := lies_frozen LR6 5
          have f6 := lies_frozen LR6 6
          have f7 := lies_frozen LR6 7
          have f8 := lies_frozen LR6 8
          have f9 := lies_frozen LR6 9
          have f10 := lies_frozen LR6 10
          have f11 := lies_frozen LR6 11
          have f12 := lies_frozen LR6 12
          have f13 := lies_frozen LR6 13
          have LX := Lib.hid LR6
          clear LR6
          go_wp2
          (try simp only [Exit.inBlock, Exit.then])
          obtain ⟨k0, k1, k2, k3, k4, k5, k6, k7, k8, k9, k10, k11, k12, k13, E14⟩ := read_14 (y0 := .int .i64 0) (y1 := .bool false) (y2 := .int .i64 0) (y3 := .int .i64 0) (y4 := .int .i64 0) (y5 := .int .u8 0) (y6 := .int .u8 0) (y7 := .int .u8 0) (y8 := .int .u8 0) (y9 := .int .u8 0) (y10 := .int .u8 0) (y11 := .int .u8 0) (y12 := .int .u8 0) (y13 := .string ⟨#[]⟩) LX.out
          refine bodyPost_ret (by simp [results, Try.results19, go_sem, k0, k1, k2, k3, k4, k5, k6, k7, k8, k9, k10, k11, k12, k13]; try rfl) rfl ?_
          exact ⟨hE.out, below_14 kX.out (Nat.le_refl _) _ _ _ _ _ _ _ _ _ _ _ _ _ _⟩
      · have hm2' : (M2 != 0) = true := by simpa using hm2
        have hE := Lib.hid (HNO.out _ (jn_ms H0.out HAK.out (by rw [HM2.out]; exact hm2)))
        rw [HM2.out] at hE
        go_upto_region 12 with (first
          | (go_at_call 27; (with_reducible refine (H27.out).mono ?_); rintro r w6 ⟨rfl, hb6⟩
             (have LR6 := lies_below HLR.out hb6 (lies_lt HLR.out))
             (have kX := Lib.hid (hb.trans (hb6.mono hb.size)))
             (clear hb6)))
        obtain ⟨r0, r1, r2, r3, r4, r5, r6, r7, r8, r9, r10, r11, r12, r13⟩ := cells14 LR6
        have f0 := lies_frozen LR6 0
        have f1 := lies_frozen LR6 1
        have f2 := lies_frozen LR6 2
        have f3 := lies_frozen LR6 3
        have f4 := lies_frozen LR6 4
        have f5 := lies_frozen LR6 5
        have f6 := lies_frozen LR6 6
        have f7 := lies_frozen LR6 7
        have f8 := lies_frozen LR6 8
        have f9 := lies_frozen LR6 9
        have f10 := lies_frozen LR6 10
        have f11 := lies_frozen LR6 11
        have f12 := lies_frozen LR6 12
        have f13 := lies_frozen LR6 13
        have LX := Lib.hid LR6
        clear LR6
        go_wp2
        (try simp only [Exit.inBlock, Exit.then])
        obtain ⟨k0, k1, k2, k3, k4, k5, k6, k7, k8, k9, k10, k11, k12, k13, E14⟩ := read_14 (y0 := .int .i64 0) (y1 := .bool false) (y2 := .int .i64 0) (y3 := .int .i64 0) (y4 := .int .i64 0) (y5 := .int .u8 0) (y6 := .int .u8 0) (y7 := .int .u8 0) (y8 := .int .u8 0) (y9 := .int .u8 0) (y10 := .int .u8 0) (y11 := .int .u8 0) (y12 := .int .u8 0) (y13 := .string ⟨#[]⟩) LX.out
        refine bodyPost_ret (by simp [results, Try.results19, go_sem, k0, k1, k2, k3, k4, k5, k6, k7, k8, k9, k10, k11, k12, k13]; try rfl) rfl ?_
        exact ⟨hE.out, below_14 kX.out (Nat.le_refl _) _ _ _ _ _ _ _ _ _ _ _ _ _ _⟩
end Go.Proofs.Ytiedfdnjnjohdaa
