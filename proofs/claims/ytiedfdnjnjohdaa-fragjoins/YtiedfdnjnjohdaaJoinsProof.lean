/- For every list of packets the law FragJoins answers true: the program's Join answers as the document's. No conditions. -/
import Derived.Test.YtiedfdnjnjohdaaRows
import Derived.Test.YtiedfdnjnjohdaaRj
import Derived.Test.YtiedfdnjnjohdaaPq
import Derived.WalkKit
import Derived.Deep.RegionHeld3
import Derived.StillTailTactics
import Derived.ProofKit
import Derived.OpenShut
import Derived.ShutString
import Derived.ChangeOld
import Derived.Below
namespace Go.Proofs.Ytiedfdnjnjohdaa
open Go.ChangeShapes Go.WideShapes Go.ChangeAt Go.RowKit
open Go.ChangeMaps (open_string shut_string)
set_option linter.unusedVariables false

theorem fragJoins_own : ownKnob Try.prog.godebug = none := by kernel_rfl
theorem fragJoins_laid : laidOutB Try.prog = true := by kernel_rfl


open Go.Proofs.PitotFrag
open Go.Proofs.Ytiedfdnjnjohdaa.Bi (lies_lt lies_cell lies_frozen lies_alloc)

set_option maxRecDepth 100000 in
set_option maxHeartbeats 1000000 in
theorem join_nil (A : Option Addr) (cap : Nat) (w : World) : Calls Try.prog 19 #[.slice A 0 cap] w fun e w' => e = .returned (.tuple #[pk0, .int .i64 23]) ∧ Below w.heap.size w w' := by
  go_enter Try.func19, Try.ntmps19
  go_wp2
  (try simp only [Exit.inBlock, Exit.then])
  refine bodyPost_ret (by simp [results, Try.results19, go_sem]; try rfl) rfl ?_
  exact ⟨rfl, (Below.refl _ _).alloc (Nat.le_refl _) _⟩
set_option maxRecDepth 100000 in
set_option maxHeartbeats 1000000 in
theorem refJoin_nil (A : Option Addr) (cap : Nat) (w : World) : Calls Try.prog 20 #[.slice A 0 cap] w fun e w' => e = .returned (.tuple #[rp0, .int .i64 23]) ∧ Below w.heap.size w w' := by
  go_enter Try.func20, Try.ntmps20
  go_wp2
  (try simp only [Exit.inBlock, Exit.then])
  refine bodyPost_ret (by simp [results, Try.results20, go_sem]; try rfl) rfl ?_
  exact ⟨rfl, (Below.refl _ _).alloc (Nat.le_refl _) _⟩
theorem join_all (A : Option Addr) (cap : Nat) (l : List Pk) (w : World) (hx : PksAt w A l) (hl : l.length ≤ 70000) (hz : ∀ p ∈ l, p.s.size ≤ 10000) (n : Nat) (hn : n = l.length) :
    Calls Try.prog 19 #[.slice A n cap] w fun e w' => e = .returned (.tuple #[(jn l).1.val, .int .i64 (jn l).2]) ∧ Below w.heap.size w w' := by
  cases l with
  | nil => subst hn; exact join_nil A cap w
  | cons p r => exact join_any A cap (p :: r) w hx hl hz n hn (by simp)
theorem refJoin_all (B : Nat) (v : Value) (l : List Pk) (w : World) (n : Nat) (hx : w.ownsRow B 39 8 v n (flatR (l.map pln))) (hl : l.length ≤ 50) (hz : ∀ p ∈ l, p.s.size ≤ 2000) (hn : n = l.length) :
    Calls Try.prog 20 #[v] w fun e w' => e = .returned (.tuple #[rjv l, .int .i64 (jn l).2]) ∧ Below w.heap.size w w' := by
  cases l with
  | nil =>
    subst hn
    obtain ⟨A, c, rfl⟩ := own_slice hx
    exact refJoin_nil A c w
  | cons p r =>
    obtain ⟨g, cap, rfl, _, hg⟩ := hx.form (by rw [hn]; simp)
    refine refJoin_core g cap (p :: r) w (fun i hi => ?_) hg hl hz n hn (by simp)
    have h := rrow_get hx i (by simpa using hi)
    rw [List.getElem_map] at h
    exact h
theorem jn_no (l : List Pk) (h : ¬ (jn l).2 = 0) : (jn l).1 = pkN := by
  cases l with
  | nil => rfl
  | cons p r =>
    rw [jn] at h ⊢
    split
    · rfl
    · rename_i h1
      rw [if_neg h1] at h
      split
      · rfl
      · rename_i h2
        rw [if_neg h2] at h
        split
        · rfl
        · rename_i h3
          rw [if_neg h3] at h
          split
          · rfl
          · rename_i h4
            rw [if_neg h4] at h
            exact absurd rfl h
/-- The document's packet that rjv is. -/
def rjk (l : List Pk) : Rk := if (jn l).2 = 0 then pln (jn l).1 else ⟨0, false, 0, 0, 0, ⟨#[]⟩, ⟨#[]⟩, ⟨#[]⟩⟩
theorem rjk_val (l : List Pk) : (rjk l).val = rjv l := by
  unfold rjk rjv; split <;> rfl
theorem plain_jn (l : List Pk) (w : World) : Calls Try.prog 16 #[(jn l).1.val, .bool ((jn l).2 != 0)] w fun e w' => e = .returned (rjk l).val ∧ Below w.heap.size w w' := by
  rw [rjk_val, rjv]
  by_cases h : (jn l).2 = 0
  · rw [if_pos h, h]
    exact plain_false _ _ _ _ _ _ _ _ w
  · rw [if_neg h, jn_no l h, show ((jn l).2 != 0) = true by simpa using h]
    exact plain_true _ _ _ _ _ _ _ _ w rfl rfl

set_option maxRecDepth 100000 in
set_option maxHeartbeats 4000000 in
theorem joins_walk (A : Option Addr) (cap : Nat) (l : List Pk) (w : World) (hx : PksAt w A l) (hl : l.length ≤ 9223372036854775807) (hz : ∀ p ∈ l, p.s.size ≤ 9223372036854775807) (n : Nat) (hn : n = l.length) :
    Calls Try.prog 5 #[.slice A n cap] w fun e w' => e = .returned (.bool true) ∧ Below w.heap.size w w' := by
  have Hn := Lib.hid hn; have HX := Lib.hid hx; have HZ := Lib.hid hz
  rw [← hn] at hl
  clear hn hx hz
  by_cases h50 : 50 < n
  · go_enter Try.func5, Try.ntmps5
    go_wp2_with (go_at_call 13; (with_reducible refine (awake_any _).mono ?_); rintro r w2 ⟨rfl, hb2⟩)
    go_returns
    exact ⟨rfl, hb2⟩
  · go_enter Try.func5, Try.ntmps5
    go_wp2
    go_loop [3] (fun v3 => ∃ (k : Nat), k ≤ n ∧ v3 = .int .i64 k ∧ Hid (∀ i (h : i < l.length), i < k → l[i].s.size ≤ 2000)) (fun v3 => n - (intOf v3).toNat)
    case atStart => exact ⟨0, Nat.zero_le _, rfl, fun i _ h => by omega⟩
    case round =>
      obtain ⟨k, hk, rfl, HS⟩ := hrel
      by_cases hlt : k < n
      · have hlt' : k < l.length := by rw [← Hn.out]; exact hlt
        obtain ⟨b, off, rfl, hbl, hc⟩ := HX.out.get hlt'
        obtain ⟨_, _, _, _, _, _, _, _, _, _, _, _, _, c13⟩ := hc
        have hsz := HZ.out l[k] (List.getElem_mem hlt')
        have HN : Hid (l[k].s.size ≤ 2000 → ∀ i (h : i < l.length), i < k + 1 → l[i].s.size ≤ 2000) := fun h i hi hik => by
          rcases Nat.lt_or_ge i k with h2 | h2
          · exact HS.out i hi h2
          · obtain rfl : i = k := by omega
            exact h
        generalize l[k].s = s at c13 hsz HN
        by_cases hg : 2000 < s.size
        · have hd : decide (2000 < (s.size : Int)) = true := decide_eq_true (by omega)
          go_wp2_with (go_at_call 13; (with_reducible refine (awake_any _).mono ?_); rintro r w2 ⟨rfl, hb2⟩)
          go_returns
          exact ⟨rfl, hb2⟩
        · have hd : decide (2000 < (s.size : Int)) = false := decide_eq_false (by omega)
          have HN := Lib.hid (HN.out (by omega))
          go_wp2
          go_round
          case rel => exact ⟨k + 1, by omega, by go_num, HN.out⟩
          case measure => simp [intOf]; omega
      · obtain rfl : k = n := by omega
        have hz2 : ∀ p ∈ l, p.s.size ≤ 2000 := fun p hp => by
          obtain ⟨i, hi, rfl⟩ := List.getElem_of_mem hp
          exact HS.out i hi (by rw [Hn.out]; exact hi)
        have hl50 : l.length ≤ 50 := by rw [← Hn.out]; omega
        have HJ := Lib.hid (join_all A cap l w HX.out (by omega) (fun p hp => by have := hz2 p hp; omega) k Hn.out)
        have H18 := Lib.hid (fun wr (hb : Below w.heap.size w wr) => plains_any A cap l wr (HX.out.below hb) (by omega) k Hn.out)
        have H20 := Lib.hid (fun B v wr hx => refJoin_all B v l wr k hx hl50 hz2 Hn.out)
        have HP := Lib.hid (plain_jn l)
        rw [← rjk_val] at H20
        generalize jn l = QE at HJ H20 HP
        generalize rjk l = Z at H20 HP
        generalize flatR (l.map pln) = FL at H18 H20
        obtain ⟨⟨qi, qm, qo, qt, qr, qa, qb, qs⟩, E⟩ := QE
        obtain ⟨zi, zm, zo, zt, zr, za, zb, zs⟩ := Z
        simp only at HJ H20 HP
        obtain ⟨BE, hBE⟩ : ∃ BE, (E != 0) = BE := ⟨_, rfl⟩
        rw [hBE] at HP
        clear hz2 hl50 HS HZ
        go_upto_region 10 with (first
          | (go_at_call 19; (with_reducible refine (HJ.out).mono ?_); rintro r w1 ⟨rfl, hb1⟩
             (have k1 := Lib.hid (hb1.alloc hb1.size (pkC qi qm qo qt qr qa qb qs)))
             (have LA := Lib.hid (heap_alloc_new w1 (pkC qi qm qo qt qr qa qb qs)))
             (have H18 := Lib.hid (H18.out _ k1.out)))
          | (go_at_call 18; (with_reducible refine (H18.out).mono ?_); rintro r w2 ⟨v, rfl, hown, hb2⟩
             (have LA := Lib.hid (lies_below LA.out hb2 (lies_lt LA.out)))
             (have H20 := Lib.hid (H20.out _ v w2 hown))
             (have k2 := Lib.hid (k1.out.trans (hb2.mono k1.out.size)))
             (clear hown hb2))
          | (go_at_call 20; (with_reducible refine (H20.out).mono ?_); rintro r w3 ⟨rfl, hb3⟩
             (have LA := Lib.hid (lies_below LA.out hb3 (lies_lt LA.out)))
             (have k3 := Lib.hid (k2.out.trans (hb3.mono k2.out.size)))
             (clear hb3)))
        have LA : Hid ((w3.alloc (rpC zi zm zo zt zr za zb zs)).drew.heap[w1.heap.size]? = some (pkC qi qm qo qt qr qa qb qs)) := lies_alloc LA.out _
        have LB : Hid ((w3.alloc (rpC zi zm zo zt zr za zb zs)).drew.heap[w3.heap.size]? = some (rpC zi zm zo zt zr za zb zs)) := heap_alloc_new w3 _
        have k4 : Hid (Below w.heap.size w (w3.alloc (rpC zi zm zo zt zr za zb zs)).drew) := (k3.out.alloc k3.out.size _).drew
        clear k1 k2 k3
        generalize w1.heap.size = g4 at *
        generalize w3.heap.size = g6 at *
        refine wp_region_held_drew (S := fun w' => w'.heap[g4]? = some (pkC qi qm qo qt qr qa qb qs) ∧ w'.heap[g6]? = some (rpC zi zm zo zt zr za zb zs)) (by kernel_rfl) ?_ (fun hHeld => ?_)
        · exact ⟨LA.out, LB.out⟩
        refine wpAnyH_take (i := 0) (oi := { dst := some 37, op := Go.Op.load 31 (Go.Operand.tmp 4), type := 31, pos := "law.go:76", after := #[], guard := none }) (v := ?_) rfl (by kernel_rfl) (by kernel_rfl) (by kernel_rfl) (fun _ _ _ h => h) (Or.inl ⟨by rfl, ?_⟩) (by assumption) ?_
        rotate_left
        focus ((intro w hSw; (try dsimp only at hSw); obtain ⟨c0, c1, c2, c3, c4, c5, c6, c7, c8, c9, c10, c11, c12, c13⟩ := cells14 hSw.1; clear hSw; go_simp) <;> (with_reducible rfl))
        try simp only [Act.put, List.setIfInBounds_toArray, List.set_cons_zero, List.set_cons_succ]
        refine wpAnyH_take (i := 4) (oi := { dst := some 41, op := Go.Op.load 39 (Go.Operand.tmp 6), type := 39, pos := "law.go:76", after := #[], guard := none }) (v := ?_) rfl (by kernel_rfl) (by kernel_rfl) (by kernel_rfl) (fun _ _ _ h => h) (Or.inl ⟨by rfl, ?_⟩) (by assumption) ?_
        rotate_left
        focus ((intro w hSw; (try dsimp only at hSw); obtain ⟨c0, c1, c2, c3, c4, c5, c6, c7⟩ := cells8 hSw.2; clear hSw; go_simp) <;> (with_reducible rfl))
        try simp only [Act.put, List.setIfInBounds_toArray, List.set_cons_zero, List.set_cons_succ]
        refine wpAnyH_take (i := 1) (oi := { dst := some 38, op := Go.Op.move (Go.Operand.tmp 5), type := 22, pos := "law.go:76", after := #[], guard := none }) (v := ?_) rfl (by kernel_rfl) (by kernel_rfl) (by kernel_rfl) (fun _ _ _ h => h) (Or.inl ⟨by rfl, ?_⟩) (by assumption) ?_
        rotate_left
        focus ((intro w hSw; (try dsimp only at hSw); clear hSw; go_simp) <;> (with_reducible rfl))
        try simp only [Act.put, List.setIfInBounds_toArray, List.set_cons_zero, List.set_cons_succ]
        refine wpAnyH_take (i := 2) (oi := { dst := some 39, op := Go.Op.binOp Go.BinOp.neq 22 (Go.Operand.tmp 38) (Go.Operand.const (Go.Value.int Go.IntKind.i64 0)) 22, type := 4, pos := "law.go:76", after := #[{ on := 1, ground := Go.Ground.data }], guard := none }) (v := ?_) rfl (by kernel_rfl) (by kernel_rfl) (by kernel_rfl) (fun _ _ _ h => h) (Or.inl ⟨by rfl, ?_⟩) (by assumption) ?_
        rotate_left
        focus ((intro w hSw; (try dsimp only at hSw); clear hSw; go_simp) <;> (with_reducible rfl))
        try simp only [Act.put, List.setIfInBounds_toArray, List.set_cons_zero, List.set_cons_succ]
        refine wpAnyH_ready (rs := [3]) (by kernel_rfl) (by simp) ?_
        refine AllReadyH.cons (o := { dst := some 40, op := Go.Op.call { callee := Go.Callee.value (Go.Operand.func 16), args := #[Go.Operand.tmp 37, Go.Operand.tmp 39], argTypes := #[31, 4] }, type := 39, pos := "law.go:76", after := #[{ on := 0, ground := Go.Ground.data }, { on := 2, ground := Go.Ground.data }], guard := none }) rfl (fun K hK => ?_) AllReadyH.nil
        go_simp
        go_at_call 16; (with_reducible refine (HP.out _).mono ?_); rintro r w5 ⟨rfl, hb5⟩; go_wp2_with fail
        refine hK.out _ _ ?_ (fun hHeld => ?_)
        · exact ⟨lies_below LA.out hb5 (lies_lt LA.out), lies_below LB.out hb5 (lies_lt LB.out)⟩
        clear hK K
        try simp only [Act.put, List.setIfInBounds_toArray, List.set_cons_zero, List.set_cons_succ]
        have LA5 := Lib.hid (lies_below LA.out hb5 (lies_lt LA.out)); have LB5 := Lib.hid (lies_below LB.out hb5 (lies_lt LB.out)); have k5 := Lib.hid (k4.out.trans (hb5.mono k4.out.size))
        refine wpAnyH_take (i := 5) (oi := { dst := some 42, op := Go.Op.binOp Go.BinOp.eql 39 (Go.Operand.tmp 40) (Go.Operand.tmp 41) 39, type := 4, pos := "law.go:76", after := #[{ on := 3, ground := Go.Ground.data }, { on := 4, ground := Go.Ground.data }], guard := none }) (v := ?_) rfl (by kernel_rfl) (by kernel_rfl) (by kernel_rfl) (fun _ _ _ h => h) (Or.inl ⟨by rfl, ?_⟩) (by assumption) ?_
        rotate_left
        focus ((intro w hSw; (try dsimp only at hSw); clear hSw; go_simp) <;> (with_reducible rfl))
        try simp only [Act.put, List.setIfInBounds_toArray, List.set_cons_zero, List.set_cons_succ]
        refine wpAnyH_take (i := 6) (oi := { dst := some 43, op := Go.Op.move (Go.Operand.tmp 42), type := 4, pos := "law.go:76", after := #[{ on := 5, ground := Go.Ground.data }, { on := 3, ground := Go.Ground.chain }], guard := none }) (v := ?_) rfl (by kernel_rfl) (by kernel_rfl) (by kernel_rfl) (fun _ _ _ h => h) (Or.inl ⟨by rfl, ?_⟩) (by assumption) ?_
        rotate_left
        focus ((intro w hSw; (try dsimp only at hSw); clear hSw; go_simp) <;> (with_reducible rfl))
        try simp only [Act.put, List.setIfInBounds_toArray, List.set_cons_zero, List.set_cons_succ]
        refine wpAnyH_take (i := 7) (oi := { dst := some 44, op := Go.Op.move (Go.Operand.tmp 5), type := 22, pos := "law.go:76", after := #[{ on := 6, ground := Go.Ground.guard }], guard := some (6, true) }) (v := ?_) rfl (by kernel_rfl) (by kernel_rfl) (by kernel_rfl) (fun _ _ _ h => h) (Or.inl ⟨by rfl, ?_⟩) (by assumption) ?_
        rotate_left
        focus ((intro w hSw; (try dsimp only at hSw); clear hSw; go_simp) <;> (with_reducible rfl))
        try simp only [Act.put, List.setIfInBounds_toArray, List.set_cons_zero, List.set_cons_succ]
        refine wpAnyH_take (i := 8) (oi := { dst := some 45, op := Go.Op.move (Go.Operand.tmp 7), type := 22, pos := "law.go:76", after := #[{ on := 6, ground := Go.Ground.guard }], guard := some (6, true) }) (v := ?_) rfl (by kernel_rfl) (by kernel_rfl) (by kernel_rfl) (fun _ _ _ h => h) (Or.inl ⟨by rfl, ?_⟩) (by assumption) ?_
        rotate_left
        focus ((intro w hSw; (try dsimp only at hSw); clear hSw; go_simp) <;> (with_reducible rfl))
        try simp only [Act.put, List.setIfInBounds_toArray, List.set_cons_zero, List.set_cons_succ]
        refine wpAnyH_take (i := 9) (oi := { dst := some 46, op := Go.Op.binOp Go.BinOp.eql 22 (Go.Operand.tmp 44) (Go.Operand.tmp 45) 22, type := 4, pos := "law.go:76", after := #[{ on := 7, ground := Go.Ground.data }, { on := 8, ground := Go.Ground.data }, { on := 6, ground := Go.Ground.guard }], guard := some (6, true) }) (v := ?_) rfl (by kernel_rfl) (by kernel_rfl) (by kernel_rfl) (fun _ _ _ h => h) (Or.inl ⟨by rfl, ?_⟩) (by assumption) ?_
        rotate_left
        focus ((intro w hSw; (try dsimp only at hSw); clear hSw; go_simp) <;> (with_reducible rfl))
        try simp only [Act.put, List.setIfInBounds_toArray, List.set_cons_zero, List.set_cons_succ]
        refine wpAnyH_take (i := 10) (oi := { dst := some 47, op := Go.Op.pick (Go.Operand.tmp 43) (Go.Operand.tmp 46) (Go.Operand.const (Go.Value.bool false)), type := 4, pos := "law.go:76", after := #[{ on := 6, ground := Go.Ground.data }, { on := 9, ground := Go.Ground.data }], guard := none }) (v := ?_) rfl (by kernel_rfl) (by kernel_rfl) (by kernel_rfl) (fun _ _ _ h => h) (Or.inl ⟨by rfl, ?_⟩) (by assumption) ?_
        rotate_left
        focus ((intro w hSw; (try dsimp only at hSw); clear hSw; go_simp) <;> (with_reducible rfl))
        try simp only [Act.put, List.setIfInBounds_toArray, List.set_cons_zero, List.set_cons_succ]
        refine wpAnyH_take (i := 11) (oi := { dst := some 48, op := Go.Op.move (Go.Operand.tmp 47), type := 4, pos := "law.go:76", after := #[{ on := 10, ground := Go.Ground.data }, { on := 6, ground := Go.Ground.chain }], guard := none }) (v := ?_) rfl (by kernel_rfl) (by kernel_rfl) (by kernel_rfl) (fun _ _ _ h => h) (Or.inl ⟨by rfl, ?_⟩) (by assumption) ?_
        rotate_left
        focus ((intro w hSw; (try dsimp only at hSw); clear hSw; go_simp) <;> (with_reducible rfl))
        try simp only [Act.put, List.setIfInBounds_toArray, List.set_cons_zero, List.set_cons_succ]
        refine wpAnyH_ready (rs := [12]) (by kernel_rfl) (by simp) ?_
        refine AllReadyH.cons (o := { dst := some 49, op := Go.Op.call { callee := Go.Callee.value (Go.Operand.func 13), args := #[], argTypes := #[] }, type := 4, pos := "law.go:76", after := #[{ on := 11, ground := Go.Ground.chain }, { on := 11, ground := Go.Ground.guard }], guard := some (11, true) }) rfl (fun K hK => ?_) AllReadyH.nil
        go_simp
        go_at_call 13; (with_reducible refine (awake_any _).mono ?_); rintro r w6 ⟨rfl, hb6⟩; go_wp2_with fail
        refine hK.out _ _ ?_ (fun hHeld => ?_)
        · exact ⟨lies_below LA5.out hb6 (lies_lt LA5.out), lies_below LB5.out hb6 (lies_lt LB5.out)⟩
        clear hK K
        try simp only [Act.put, List.setIfInBounds_toArray, List.set_cons_zero, List.set_cons_succ]
        refine wpAnyH_take (i := 13) (oi := { dst := some 50, op := Go.Op.pick (Go.Operand.tmp 48) (Go.Operand.tmp 49) (Go.Operand.const (Go.Value.bool false)), type := 4, pos := "law.go:76", after := #[{ on := 11, ground := Go.Ground.data }, { on := 12, ground := Go.Ground.data }], guard := none }) (v := ?_) rfl (by kernel_rfl) (by kernel_rfl) (by kernel_rfl) (fun _ _ _ h => h) (Or.inl ⟨by rfl, ?_⟩) (by assumption) ?_
        rotate_left
        focus ((intro w hSw; (try dsimp only at hSw); clear hSw; go_simp) <;> (with_reducible rfl))
        try simp only [Act.put, List.setIfInBounds_toArray, List.set_cons_zero, List.set_cons_succ]
        refine wpAnyH_take (i := 14) (oi := { dst := some 2, op := Go.Op.assign (Go.Operand.tmp 50), type := 4, pos := "law.go:76", after := #[{ on := 13, ground := Go.Ground.data }, { on := 12, ground := Go.Ground.chain }, { on := 0, ground := Go.Ground.phase }, { on := 1, ground := Go.Ground.phase }, { on := 2, ground := Go.Ground.phase }, { on := 3, ground := Go.Ground.phase }, { on := 4, ground := Go.Ground.phase }, { on := 5, ground := Go.Ground.phase }, { on := 6, ground := Go.Ground.phase }, { on := 7, ground := Go.Ground.phase }, { on := 8, ground := Go.Ground.phase }, { on := 9, ground := Go.Ground.phase }, { on := 10, ground := Go.Ground.phase }, { on := 11, ground := Go.Ground.phase }, { on := 12, ground := Go.Ground.phase }, { on := 13, ground := Go.Ground.phase }], guard := none }) (v := ?_) rfl (by kernel_rfl) (by kernel_rfl) (by kernel_rfl) (fun _ _ _ h => h) (Or.inl ⟨by rfl, ?_⟩) (by assumption) ?_
        rotate_left
        focus ((intro w hSw; (try dsimp only at hSw); clear hSw; go_simp) <;> (with_reducible rfl))
        try simp only [Act.put, List.setIfInBounds_toArray, List.set_cons_zero, List.set_cons_succ]
        refine wpAnyH_done (by kernel_rfl) ?_ _
        go_wp2
        go_returns
        exact ⟨rfl, k5.out.trans (hb6.mono k5.out.size)⟩

theorem fragJoins_walk (Ad : Option Addr) (cap : Nat) (l : List Pk) {w0 : World} (hi : PksAt w0 Ad l) (hl : l.length ≤ maxLen) (hm : ∀ p ∈ l, p.s.size ≤ maxLen) (w : World) (hw : w = w0) :
    Calls Try.prog 5 #[.slice Ad l.length cap] w fun e w' => e = .returned (.bool true) ∧ Below w.heap.size w w' := by
  subst hw
  exact joins_walk Ad cap l w hi (by unfold maxLen at hl; omega) (fun p hp => by have := hm p hp; unfold maxLen at this; omega) _ rfl


set_option maxRecDepth 100000 in
theorem fragJoins_lifted (os : Os) (started : os.Started) (H : Type) (enc : TypeId × Value → H) :
    ReturnsInHanded {} Try.checked os 5 .any (Rows.fragJoinsSpec.pre6 enc Try.prog Try.f5 Rows.fragJoinsRow.domain false) (Rows.fragJoinsSpec.post enc Try.prog Try.f5 false true false false) := by
  refine returnsInHanded_of_change (C := Try.checked) fragJoins_own started (by kernel_rfl) Try.func5
    (ChangeSpec.witness6 (enc := enc) (C := Try.checked) false ⟨#[], #[.slice none 0 0], []⟩ 8 (by kernel_rfl) (by kernel_rfl) (by kernel_rfl) (by kernel_rfl)) ?_
  intro W base args ds gs before hval0 hW hcnd _
  have hval : ∀ (j : Nat) t v, Try.f5.params[j]? = some t → args[j]? = some v → Value.okWide Try.prog W .any base t v := hval0
  have hW' := hW
  obtain ⟨p, q, hA0, hV, rfl, hfz, hnd⟩ := hW
  have hA : DataW.TrodAll enc Try.prog W 0 (fun _ => true) true Try.f5.params.toList args.toList ds p := hA0
  rw [Try.params5] at hA hval
  obtain ⟨v0, vs0, d0, ds0, p0, q0, hargs, rfl, rfl, h0, r0⟩ := trodAll_cons hA
  obtain ⟨rfl, rfl, rfl⟩ := trodAll_nil r0
  obtain rfl : args = #[v0] := by cases args; simp_all
  obtain ⟨rfl, rfl⟩ := trodVars_none hV
  obtain ⟨c0, len0, cap0, rfl⟩ := okWide_slice Try.underlying32 (hval 0 32 v0 rfl rfl)
  have k0 := h0
  have lt0 : ∀ x ∈ p0, x.block < W.heap.size := by obtain ⟨m, hm⟩ := k0; exact DataW.trod_lt m _ _ _ hm
  obtain ⟨fu0, hf0⟩ := h0
  obtain ⟨Ad0, kp0, l0, e0, hi0, hl0, hm0⟩ := packets_open (v := .slice c0 len0 cap0) (by simpa [Value.cells] using hf0)
  clear hA0 hval0
  have hwalk := fragJoins_walk Ad0 kp0 l0 hi0 hl0 hm0 W rfl
  rw [← e0] at hwalk
  refine hwalk.mono fun e W' ⟨he, bel⟩ => ?_
  subst he
  exact ⟨_, rfl, _, _, _, [], _, [], hW', trodAll_mk1 (shut_bool Try.underlying4 _), (trodAll_cons_mk (Below.trod fragJoins_laid (by kernel_rfl) (of_decide_eq_true (by kernel_rfl)) k0 bel lt0) trodAll_mk0), rfl, bel.frame _, fun h => by cases h⟩

theorem fragJoins_over : Rows.fragJoinsRow.holds Try.pinned (OpenSpec.ofChange Rows.fragJoinsSpec) :=
  OpenClaim.holds_of_wide 5 Try.f5 rfl rfl rfl rfl rfl rfl rfl ⟨rfl, rfl, rfl, rfl, rfl⟩ rfl rfl rfl rfl rfl (by kernel_rfl) Try.func5 (by kernel_rfl)
    (of_decide_eq_true (by kernel_rfl)) (by unfold Func.isWrapper; first | (rw [if_pos (by decide +kernel)]; kernel_rfl) | (rw [if_neg (by decide +kernel)]; exact ⟨rfl, rfl⟩))
    (fun os started H enc _ => fragJoins_lifted os started H enc)

theorem fragJoins_holds : Rows.FragJoinsSaid := fragJoins_over
#print axioms fragJoins_holds
end Go.Proofs.Ytiedfdnjnjohdaa
