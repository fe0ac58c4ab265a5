/- The document's table: Pass. -/
import Derived.Test.YtgdjcoodjdckkaaM10
import Derived.Deep.RegionHeld3
set_option linter.unusedVariables false
set_option maxRecDepth 100000
namespace Go.Proofs.Ytgdjcoodjdckkaa
open Go.RowKit Go.Proofs.PitotIp Go.Maps
open Go.Proofs.PitotReasm (Bg Tb Fine bad first next passed passE put keep)
open Go.Proofs.Ytgdjcoodjdckkaa.Bi (lies_lt lies_cell lies_frozen lies_alloc lies_set)

/-- What Pass answers. -/
def rE (now n : Int) : Int := if 1125899906842624 < n then 1 else if n < now then 24 else 0
set_option maxHeartbeats 1000000 in
theorem refPass_bad {base : Nat} {w : World} {rp : Nat} {most wait : Int} {L : List Rb} {now : Int} {dr : Nat} (h : RefAt base w rp most wait L now dr) (n : Int) (hn : rE now n ≠ 0) : Calls Try.prog 13 #[.pointer (some ⟨rp, 0, none⟩), .int .i64 n] w fun e w' => e = .returned (.int .i64 (rE now n)) ∧ w' = w := by
  obtain ⟨lv, h⟩ := h
  have hc : w.cell? ⟨rp, 3, none⟩ = some (.int .i64 now) := lies_cell h.tab 3
  clear h
  obtain ⟨R, HR⟩ : ∃ R, Hid (R = rE now n) := ⟨_, rfl⟩
  rw [← HR.out]
  have hR := HR.out
  unfold rE at hR hn
  by_cases h1 : 1125899906842624 < n
  · rw [if_pos h1] at hR
    subst hR
    clear HR hn
    go_enter Try.func13, Try.ntmps13
    go_wp2
    go_returns
    exact ⟨rfl, rfl⟩
  · rw [if_neg h1] at hR hn
    by_cases h2 : n < now
    · rw [if_pos h2] at hR
      subst hR
      clear HR hn
      go_enter Try.func13, Try.ntmps13
      go_wp2
      go_returns
      exact ⟨rfl, rfl⟩
    · rw [if_neg h2] at hn
      exact absurd rfl hn
def keepB (L : List Rb) (wait n : Int) : List Rb := L.filter fun b => decide (n - b.at_ ≤ wait)
theorem keepB_step (L : List Rb) (wait n : Int) (i : Nat) (hi : i < L.length) : keepB (L.take (i + 1)) wait n = keepB (L.take i) wait n ++ (if n - L[i].at_ ≤ wait then [L[i]] else []) := by
  unfold keepB
  rw [List.take_succ_eq_append_getElem hi, List.filter_append]
  congr 1
  by_cases h : n - L[i].at_ ≤ wait <;> simp [h]
theorem row_on' {w w1 : World} {o cap : Nat} {ks : List Rb} (h : RowB w o cap ks) {r : Option Nat} (hb : w.grownBy w1 r) (hr : r ≠ some o) : RowB w1 o cap ks := by
  obtain ⟨cur, h1, h2⟩ := h
  exact ⟨cur, (hb.block o (lies_lt h1) (fun e => hr e.symm)).trans h1, h2⟩
theorem pass_rel {base : Nat} {W0 W1 W1a w5 : World} {rp o n cap i k5 g5 cc5 c5 : Nat} {A5 : Option Addr} {most wait N dr : Int} {L : List Rb} {x : Rb} (hin : i < n) (hst : keepB (L.take (i + 1)) wait N = keepB (L.take i) wait N ++ (if N - x.at_ ≤ wait then [x] else [])) (hex : N - x.at_ ≤ wait) (hk : k5 = (keepB (L.take i) wait N).length)
    (hO : W1.ownsRow base 55 10 (.slice A5 k5 c5) k5 (flatB (keepB (L.take i) wait N))) (hno : (Value.slice A5 k5 c5).ownBlock ≠ some o) (hT : W1.heap[rp]? = some (refC (.slice (some ⟨o, 0, none⟩) n cap) most wait N dr)) (hR : RowB W1 o cap L) (hF : Fq base W0 W1) (hbs : base ≤ W1.heap.size) (hA : Below W1.heap.size W1 W1a)
    (hrow : w5.ownsRow base 55 10 (.slice (some ⟨g5, 0, none⟩) (k5 + 1) cc5) (k5 + 1) (flatB (keepB (L.take i) wait N) ++ x.enc)) (hg : W1a.grownBy w5 (Value.slice A5 k5 c5).ownBlock) (hgb : (Value.slice A5 k5 c5).ownBlock = some g5 ∨ g5 = W1a.heap.size) :
    ∃ (i' k5' : Nat) (A5' : Option Addr) (c5' : Nat), i' ≤ n ∧ Value.int .i64 (i + 1 : Nat) = .int .i64 i' ∧ Value.slice (some ⟨g5, 0, none⟩) (k5 + 1) cc5 = .slice A5' k5' c5' ∧ k5' = (keepB (L.take i') wait N).length ∧ w5.ownsRow base 55 10 (.slice A5' k5' c5') k5' (flatB (keepB (L.take i') wait N)) ∧ (Value.slice A5' k5' c5').ownBlock ≠ some o ∧ w5.heap[rp]? = some (refC (.slice (some ⟨o, 0, none⟩) n cap) most wait N dr) ∧ RowB w5 o cap L ∧ Fq base W0 w5 ∧ base ≤ w5.heap.size := by
  have hO2 : W1a.ownsRow base 55 10 (.slice A5 k5 c5) k5 (flatB (keepB (L.take i) wait N)) := by
    refine ⟨hO.1, ?_⟩
    rcases hO.2 with hn | ⟨g, cap, cur, e, hg, hcur, r⟩
    · exact .inl hn
    · exact .inr ⟨g, cap, cur, e, hg, (hA.block g (lies_lt hcur)).trans hcur, r⟩
  have hT2 : W1a.heap[rp]? = some (refC (.slice (some ⟨o, 0, none⟩) n cap) most wait N dr) := (hA.block rp (lies_lt hT)).trans hT
  have s1 := hA.size
  have s2 := hg.size
  refine ⟨i + 1, k5 + 1, some ⟨g5, 0, none⟩, cc5, by omega, rfl, rfl, ?_, ?_, ?_, ?_, ?_, ?_, by omega⟩
  · rw [hst, if_pos hex, List.length_append, hk]; rfl
  · rw [hst, if_pos hex, flatB_append, show flatB [x] = x.enc by simp [flatB]]
    exact hrow
  · intro e
    simp only [Value.ownBlock, Option.some.injEq] at e
    rcases hgb with h | h
    · rw [e] at h; exact hno h
    · have := hR.lt; omega
  · exact (hg.block rp (lies_lt hT2) (own_ne hO2 hT2 (by decide))).trans hT2
  · exact row_on' (hR.below hA hR.lt) hg hno
  · exact hF.trans ((Fq.of hA hbs).trans (Fq.grown_own hg hO2 (by omega)))
theorem keepB_len (L : List Rb) (wait n : Int) : (keepB L wait n).length ≤ L.length := List.length_filter_le _ _
theorem pass_fin {base : Nat} {w W0 wr : World} {rp : Nat} {most wait N : Int} {n : Nat} {LA : Option Addr} {LC : Nat} {K : List Rb} {d' : Nat} {A5 : Option Addr} {c5 k5 : Nat} {dI dr0 : Int} (hrp : base ≤ rp) (hF0 : Fq base w W0) (hF : Fq base W0 wr) (hb : base ≤ wr.heap.size) (hL2 : wr.heap[rp]? = some (refC (.slice LA n LC) most wait N dr0))
    (ho : wr.ownsRow base 55 10 (.slice A5 k5 c5) k5 (flatB K)) (hk : k5 = K.length) (hdI : ((d' : Nat) : Int) = dI) :
    RefAt base ((wr.setCell ⟨rp, 4, none⟩ (.int .i64 dI)).drew.setCell ⟨rp, 0, none⟩ (.slice A5 k5 c5)) rp most wait K N d' ∧ Fq base w ((wr.setCell ⟨rp, 4, none⟩ (.int .i64 dI)).drew.setCell ⟨rp, 0, none⟩ (.slice A5 k5 c5)) := by
  subst hdI
  have l1 : (wr.setCell ⟨rp, 4, none⟩ (.int .i64 (d' : Nat))).drew.heap[rp]? = some (refC (.slice LA n LC) most wait N (d' : Nat)) := lies_set hL2 4 _
  have ne := own_ne ho hL2 (by decide)
  have o1 : (wr.setCell ⟨rp, 4, none⟩ (.int .i64 (d' : Nat))).drew.ownsRow base 55 10 (.slice A5 k5 c5) k5 (flatB K) := World.ownsRow.drew (ho.kept (Bi.grown_set rp 4 _) (.inr fun e => ne e.symm))
  have s1 : base ≤ (wr.setCell ⟨rp, 4, none⟩ (.int .i64 (d' : Nat))).drew.heap.size := Nat.le_trans hb (Bi.grown_set (w := wr) rp 4 (.int .i64 (d' : Nat))).size
  refine ⟨⟨.slice A5 k5 c5, hrp, lies_set l1 0 _, ?_⟩, ?_⟩
  · rw [← hk]
    exact o1.kept (Bi.grown_set rp 0 _) (.inr fun e => ne e.symm)
  · exact hF0.trans (hF.trans ((Fq.grown (Bi.grown_set rp 4 _) hrp hb hL2 (.inl rfl)).drew.trans (Fq.grown (Bi.grown_set rp 0 _) hrp s1 l1 (.inl rfl))))
set_option maxHeartbeats 4000000 in
theorem pass_none {base : Nat} (w : World) (rp : Nat) (most wait now N : Int) (d : Nat) (hrp : base ≤ rp) (hb : base ≤ w.heap.size) (ht : w.heap[rp]? = some (refC (.slice none 0 0) most wait now d)) (hE : rE now N = 0) (hd : d ≤ 1000000000000) :
    Calls Try.prog 13 #[.pointer (some ⟨rp, 0, none⟩), .int .i64 N] w fun e w' => e = .returned (.int .i64 0) ∧ RefAt base w' rp most wait (keepB [] wait N) N (d + (([] : List Rb).length - (keepB [] wait N).length)) ∧ Fq base w w' := by
  have h1 : ¬ 1125899906842624 < N := by intro e; simp [rE, e] at hE
  have h2 : ¬ N < now := by intro e; simp [rE, h1, e] at hE
  obtain ⟨dr, Hdr⟩ : ∃ x : Int, Hid (((d : Nat) : Int) = x) := ⟨_, rfl⟩
  rw [Hdr.out] at ht
  have hdr : 0 ≤ dr ∧ dr ≤ 1000000000000 := by rw [← Hdr.out]; omega
  have T0 : Hid ((w.setCell ⟨rp, 3, none⟩ (.int .i64 N)).heap[rp]? = some (refC (.slice none 0 0) most wait N dr)) := lies_set ht 3 _
  have F0 : Hid (Fq base w (w.setCell ⟨rp, 3, none⟩ (.int .i64 N))) := Fq.grown (Bi.grown_set rp 3 _) hrp hb ht (.inl rfl)
  have hB0 : Hid (base ≤ (w.setCell ⟨rp, 3, none⟩ (.int .i64 N)).heap.size) := by
    have := (Bi.grown_set (w := w) rp 3 (.int .i64 N)).size
    show _ ≤ _; omega
  have hc3 : w.cell? ⟨rp, 3, none⟩ = some (.int .i64 now) := lies_cell ht 3
  have hf3 := lies_frozen ht 3
  have HRP := Lib.hid hrp
  clear ht hE hrp hb hd
  go_enter Try.func13, Try.ntmps13
  go_wp2
  generalize w.setCell ⟨rp, 3, none⟩ (.int .i64 N) = W0 at T0 F0 hB0 ⊢
  clear hc3 hf3
  go_loopw [5, 6] (fun v5 v6 wr => v6 = .int .i64 0 ∧ v5 = .slice none 0 0 ∧ wr = W0) (fun _ _ _ => 0)
  case atStart => exact ⟨rfl, rfl, rfl⟩
  case round =>
    obtain ⟨rfl, rfl, hw⟩ := hrel
    have HT : Hid (wr.heap[rp]? = some (refC (.slice none 0 0) most wait N dr)) := by show _ = _; rw [hw]; exact T0.out
    have FW : Hid (Fq base w wr) := by show Fq _ _ _; rw [hw]; exact F0.out
    have hbs : base ≤ wr.heap.size := by rw [hw]; exact hB0.out
    clear hw
    have hc0 : wr.cell? ⟨rp, 0, none⟩ = some (.slice none 0 0) := lies_cell HT.out 0
    have HL2 : Hid (wr.drew.heap[rp]? = some (refC (.slice none 0 0) most wait N dr)) := HT.out
    obtain ⟨D2, HD2⟩ : ∃ x : Int, Hid (((d + (0 - 0) : Nat) : Int) = x) := ⟨_, rfl⟩
    obtain rfl : dr = D2 := by have e := Hdr.out; have e2 := HD2.out; omega
    have s1 : IntKind.i64.wrap dr = dr := IntWalk.i64_in _ (by omega)
    have s1' : wrap64 dr = dr := by rw [wrap64]; omega
    go_upto_region 12 with (fail)
    refine wp_region_held_drew (S := fun w' => ∃ d', w'.heap[rp]? = some (refC (.slice none 0 0) most wait N d')) (by kernel_rfl) ?_ (fun hHeld => ?_)
    · exact ⟨dr, HT.out⟩
    refine wpAnyH_take (i := 0) (oi := { dst := some 53, op := Go.Op.move (Go.Operand.tmp 0), type := 27, pos := "ref.go:48", after := #[], guard := none }) (v := ?_) rfl (by kernel_rfl) (by kernel_rfl) (by kernel_rfl) (fun _ _ _ h => h) (Or.inl ⟨by rfl, ?_⟩) (by assumption) ?_
    rotate_left
    focus ((intro w hSw; (try dsimp only at hSw); clear hSw; go_simp) <;> (with_reducible rfl))
    try simp only [Act.put, List.setIfInBounds_toArray, List.set_cons_zero, List.set_cons_succ]
    refine wpAnyH_take (i := 1) (oi := { dst := some 54, op := Go.Op.move (Go.Operand.tmp 0), type := 27, pos := "ref.go:48", after := #[], guard := none }) (v := ?_) rfl (by kernel_rfl) (by kernel_rfl) (by kernel_rfl) (fun _ _ _ h => h) (Or.inl ⟨by rfl, ?_⟩) (by assumption) ?_
    rotate_left
    focus ((intro w hSw; (try dsimp only at hSw); clear hSw; go_simp) <;> (with_reducible rfl))
    try simp only [Act.put, List.setIfInBounds_toArray, List.set_cons_zero, List.set_cons_succ]
    refine wpAnyH_take (i := 2) (oi := { dst := some 55, op := Go.Op.nilCheck (Go.Operand.tmp 54), type := 0, pos := "ref.go:48", after := #[{ on := 1, ground := Go.Ground.data }], guard := none }) (v := ?_) rfl (by kernel_rfl) (by kernel_rfl) (by kernel_rfl) (fun _ _ _ h => h) (Or.inl ⟨by rfl, ?_⟩) (by assumption) ?_
    rotate_left
    focus ((intro w hSw; (try dsimp only at hSw); clear hSw; go_simp) <;> (with_reducible rfl))
    try simp only [Act.put, List.setIfInBounds_toArray, List.set_cons_zero, List.set_cons_succ]
    refine wpAnyH_take (i := 3) (oi := { dst := some 56, op := Go.Op.fieldAddr 49 (Go.Operand.tmp 55) 4, type := 0, pos := "ref.go:48", after := #[{ on := 2, ground := Go.Ground.data }], guard := none }) (v := ?_) rfl (by kernel_rfl) (by kernel_rfl) (by kernel_rfl) (fun _ _ _ h => h) (Or.inl ⟨by rfl, ?_⟩) (by assumption) ?_
    rotate_left
    focus ((intro w hSw; (try dsimp only at hSw); clear hSw; go_simp) <;> (with_reducible rfl))
    try simp only [Act.put, List.setIfInBounds_toArray, List.set_cons_zero, List.set_cons_succ]
    refine wpAnyH_take (i := 5) (oi := { dst := some 58, op := Go.Op.move (Go.Operand.tmp 0), type := 27, pos := "ref.go:48", after := #[], guard := none }) (v := ?_) rfl (by kernel_rfl) (by kernel_rfl) (by kernel_rfl) (fun _ _ _ h => h) (Or.inl ⟨by rfl, ?_⟩) (by assumption) ?_
    rotate_left
    focus ((intro w hSw; (try dsimp only at hSw); clear hSw; go_simp) <;> (with_reducible rfl))
    try simp only [Act.put, List.setIfInBounds_toArray, List.set_cons_zero, List.set_cons_succ]
    refine wpAnyH_take (i := 6) (oi := { dst := some 59, op := Go.Op.nilCheck (Go.Operand.tmp 58), type := 0, pos := "ref.go:48", after := #[{ on := 5, ground := Go.Ground.data }], guard := none }) (v := ?_) rfl (by kernel_rfl) (by kernel_rfl) (by kernel_rfl) (fun _ _ _ h => h) (Or.inl ⟨by rfl, ?_⟩) (by assumption) ?_
    rotate_left
    focus ((intro w hSw; (try dsimp only at hSw); clear hSw; go_simp) <;> (with_reducible rfl))
    try simp only [Act.put, List.setIfInBounds_toArray, List.set_cons_zero, List.set_cons_succ]
    refine wpAnyH_take (i := 7) (oi := { dst := some 60, op := Go.Op.fieldAddr 49 (Go.Operand.tmp 59) 0, type := 0, pos := "ref.go:48", after := #[{ on := 6, ground := Go.Ground.data }], guard := none }) (v := ?_) rfl (by kernel_rfl) (by kernel_rfl) (by kernel_rfl) (fun _ _ _ h => h) (Or.inl ⟨by rfl, ?_⟩) (by assumption) ?_
    rotate_left
    focus ((intro w hSw; (try dsimp only at hSw); clear hSw; go_simp) <;> (with_reducible rfl))
    try simp only [Act.put, List.setIfInBounds_toArray, List.set_cons_zero, List.set_cons_succ]
    refine wpAnyH_take (i := 8) (oi := { dst := some 61, op := Go.Op.load 47 (Go.Operand.tmp 60), type := 47, pos := "ref.go:48", after := #[{ on := 7, ground := Go.Ground.data }], guard := none }) (v := ?_) rfl (by kernel_rfl) (by kernel_rfl) (by kernel_rfl) (fun _ _ _ h => h) (Or.inl ⟨by rfl, ?_⟩) (by assumption) ?_
    rotate_left
    focus ((intro w hSw; (try dsimp only at hSw); have hSx := hSw; obtain ⟨d2, hd2⟩ := hSx; have hc : w.cell? ⟨rp, 0, none⟩ = some (.slice none 0 0) := lies_cell hd2 0; clear hSw; go_simp) <;> (with_reducible rfl))
    try simp only [Act.put, List.setIfInBounds_toArray, List.set_cons_zero, List.set_cons_succ]
    refine wpAnyH_take (i := 9) (oi := { dst := some 62, op := Go.Op.call { callee := Go.Callee.builtin Go.Builtin.len, args := #[Go.Operand.tmp 61], argTypes := #[47] }, type := 3, pos := "ref.go:48", after := #[{ on := 8, ground := Go.Ground.data }], guard := none }) (v := ?_) rfl (by kernel_rfl) (by kernel_rfl) (by kernel_rfl) (fun _ _ _ h => h) (Or.inl ⟨by rfl, ?_⟩) (by assumption) ?_
    rotate_left
    focus ((intro w hSw; (try dsimp only at hSw); clear hSw; go_simp) <;> (with_reducible rfl))
    try simp only [Act.put, List.setIfInBounds_toArray, List.set_cons_zero, List.set_cons_succ]
    refine wpAnyH_take (i := 11) (oi := { dst := some 64, op := Go.Op.move (Go.Operand.tmp 5), type := 47, pos := "ref.go:48", after := #[], guard := none }) (v := ?_) rfl (by kernel_rfl) (by kernel_rfl) (by kernel_rfl) (fun _ _ _ h => h) (Or.inl ⟨by rfl, ?_⟩) (by assumption) ?_
    rotate_left
    focus ((intro w hSw; (try dsimp only at hSw); clear hSw; go_simp) <;> (with_reducible rfl))
    try simp only [Act.put, List.setIfInBounds_toArray, List.set_cons_zero, List.set_cons_succ]
    refine wpAnyH_take (i := 12) (oi := { dst := some 65, op := Go.Op.call { callee := Go.Callee.builtin Go.Builtin.len, args := #[Go.Operand.tmp 64], argTypes := #[47] }, type := 3, pos := "ref.go:48", after := #[{ on := 11, ground := Go.Ground.data }], guard := none }) (v := ?_) rfl (by kernel_rfl) (by kernel_rfl) (by kernel_rfl) (fun _ _ _ h => h) (Or.inl ⟨by rfl, ?_⟩) (by assumption) ?_
    rotate_left
    focus ((intro w hSw; (try dsimp only at hSw); clear hSw; go_simp) <;> (with_reducible rfl))
    try simp only [Act.put, List.setIfInBounds_toArray, List.set_cons_zero, List.set_cons_succ]
    refine wpAnyH_ready (rs := [4]) (by kernel_rfl) (by simp) ?_
    refine AllReadyH.cons (o := { dst := some 57, op := Go.Op.load 3 (Go.Operand.tmp 56), type := 3, pos := "ref.go:48", after := #[{ on := 3, ground := Go.Ground.data }], guard := none }) rfl (fun K hK => ?_) AllReadyH.nil
    have hcl : wr.drew.cell? ⟨rp, 4, none⟩ = some (.int .i64 dr) := lies_cell HL2.out 4
    go_simp
    clear hcl
    refine hK.out _ _ ?_ (fun hHeld => ?_)
    · exact hHeld
    clear hK K
    try simp only [Act.put, List.setIfInBounds_toArray, List.set_cons_zero, List.set_cons_succ]
    refine wpAnyH_take (i := 10) (oi := { dst := some 63, op := Go.Op.binOp Go.BinOp.add 3 (Go.Operand.tmp 57) (Go.Operand.tmp 62) 3, type := 3, pos := "ref.go:48", after := #[{ on := 4, ground := Go.Ground.data }, { on := 9, ground := Go.Ground.data }], guard := none }) (v := ?_) rfl (by kernel_rfl) (by kernel_rfl) (by kernel_rfl) (fun _ _ _ h => h) (Or.inl ⟨by rfl, ?_⟩) (by assumption) ?_
    rotate_left
    focus ((intro w hSw; (try dsimp only at hSw); clear hSw; go_simp) <;> (with_reducible rfl))
    try simp only [Act.put, List.setIfInBounds_toArray, List.set_cons_zero, List.set_cons_succ]
    refine wpAnyH_take (i := 13) (oi := { dst := some 66, op := Go.Op.binOp Go.BinOp.sub 3 (Go.Operand.tmp 63) (Go.Operand.tmp 65) 3, type := 3, pos := "ref.go:48", after := #[{ on := 10, ground := Go.Ground.data }, { on := 12, ground := Go.Ground.data }], guard := none }) (v := ?_) rfl (by kernel_rfl) (by kernel_rfl) (by kernel_rfl) (fun _ _ _ h => h) (Or.inl ⟨by rfl, ?_⟩) (by assumption) ?_
    rotate_left
    focus ((intro w hSw; (try dsimp only at hSw); clear hSw; go_simp) <;> (with_reducible rfl))
    try simp only [Act.put, List.setIfInBounds_toArray, List.set_cons_zero, List.set_cons_succ]
    refine wpAnyH_take (i := 14) (oi := { dst := some 67, op := Go.Op.nilCheck (Go.Operand.tmp 53), type := 0, pos := "ref.go:48", after := #[{ on := 0, ground := Go.Ground.data }, { on := 0, ground := Go.Ground.phase }, { on := 1, ground := Go.Ground.phase }, { on := 2, ground := Go.Ground.phase }, { on := 3, ground := Go.Ground.phase }, { on := 4, ground := Go.Ground.phase }, { on := 5, ground := Go.Ground.phase }, { on := 6, ground := Go.Ground.phase }, { on := 7, ground := Go.Ground.phase }, { on := 8, ground := Go.Ground.phase }, { on := 9, ground := Go.Ground.phase }, { on := 10, ground := Go.Ground.phase }, { on := 11, ground := Go.Ground.phase }, { on := 12, ground := Go.Ground.phase }, { on := 13, ground := Go.Ground.phase }], guard := none }) (v := ?_) rfl (by kernel_rfl) (by kernel_rfl) (by kernel_rfl) (fun _ _ _ h => h) (Or.inl ⟨by rfl, ?_⟩) (by assumption) ?_
    rotate_left
    focus ((intro w hSw; (try dsimp only at hSw); clear hSw; go_simp) <;> (with_reducible rfl))
    try simp only [Act.put, List.setIfInBounds_toArray, List.set_cons_zero, List.set_cons_succ]
    refine wpAnyH_take (i := 15) (oi := { dst := some 68, op := Go.Op.fieldAddr 49 (Go.Operand.tmp 67) 4, type := 0, pos := "ref.go:48", after := #[{ on := 14, ground := Go.Ground.data }, { on := 0, ground := Go.Ground.phase }, { on := 1, ground := Go.Ground.phase }, { on := 2, ground := Go.Ground.phase }, { on := 3, ground := Go.Ground.phase }, { on := 4, ground := Go.Ground.phase }, { on := 5, ground := Go.Ground.phase }, { on := 6, ground := Go.Ground.phase }, { on := 7, ground := Go.Ground.phase }, { on := 8, ground := Go.Ground.phase }, { on := 9, ground := Go.Ground.phase }, { on := 10, ground := Go.Ground.phase }, { on := 11, ground := Go.Ground.phase }, { on := 12, ground := Go.Ground.phase }, { on := 13, ground := Go.Ground.phase }], guard := none }) (v := ?_) rfl (by kernel_rfl) (by kernel_rfl) (by kernel_rfl) (fun _ _ _ h => h) (Or.inl ⟨by rfl, ?_⟩) (by assumption) ?_
    rotate_left
    focus ((intro w hSw; (try dsimp only at hSw); clear hSw; go_simp) <;> (with_reducible rfl))
    try simp only [Act.put, List.setIfInBounds_toArray, List.set_cons_zero, List.set_cons_succ]
    refine wpAnyH_ready (rs := [16]) (by kernel_rfl) (by simp) ?_
    refine AllReadyH.cons (o := { dst := none, op := Go.Op.store 3 (Go.Operand.tmp 68) (Go.Operand.tmp 66), type := 0, pos := "ref.go:48", after := #[{ on := 15, ground := Go.Ground.data }, { on := 13, ground := Go.Ground.data }, { on := 0, ground := Go.Ground.phase }, { on := 1, ground := Go.Ground.phase }, { on := 2, ground := Go.Ground.phase }, { on := 3, ground := Go.Ground.phase }, { on := 4, ground := Go.Ground.phase }, { on := 5, ground := Go.Ground.phase }, { on := 6, ground := Go.Ground.phase }, { on := 7, ground := Go.Ground.phase }, { on := 8, ground := Go.Ground.phase }, { on := 9, ground := Go.Ground.phase }, { on := 10, ground := Go.Ground.phase }, { on := 11, ground := Go.Ground.phase }, { on := 12, ground := Go.Ground.phase }, { on := 13, ground := Go.Ground.phase }], guard := none }) rfl (fun K hK => ?_) AllReadyH.nil
    have hcl : wr.drew.cell? ⟨rp, 4, none⟩ = some (.int .i64 dr) := lies_cell HL2.out 4
    have hfl : wr.drew.frozen? ⟨rp, 4, none⟩ = false := lies_frozen HL2.out 4
    go_simp
    clear hcl hfl
    refine hK.out _ _ ?_ (fun hHeld => ?_)
    · exact ⟨_, lies_set (w := wr) HL2.out 4 _⟩
    clear hK K
    try simp only [Act.put, List.setIfInBounds_toArray, List.set_cons_zero, List.set_cons_succ]
    refine wpAnyH_done (by kernel_rfl) ?_ _
    clear hHeld s1 s1' hc0
    have hcr : (wr.setCell ⟨rp, 4, none⟩ (.int .i64 dr)).drew.heap[rp]? = some (refC (.slice none 0 0) most wait N dr) := lies_set (w := wr) HT.out 4 _
    have hc0 : (wr.setCell ⟨rp, 4, none⟩ (.int .i64 dr)).drew.cell? ⟨rp, 0, none⟩ = some (.slice none 0 0) := lies_cell hcr 0
    have hf0 := lies_frozen hcr 0
    have Hcr := Lib.hid hcr; clear hcr
    go_wp2
    go_returns
    have hfin := pass_fin (K := []) HRP.out FW.out Fq.refl hbs HT.out ⟨rfl, .inl ⟨rfl, rfl⟩⟩ rfl HD2.out
    exact ⟨rfl, hfin.1, hfin.2⟩
set_option maxHeartbeats 4000000 in
theorem pass_row {base : Nat} (w : World) (rp o cap n : Nat) (most wait now N : Int) (d : Nat) (L : List Rb) (hn : n = L.length) (hle : n ≤ 64) (hrp : base ≤ rp) (hb : base ≤ w.heap.size) (ht : w.heap[rp]? = some (refC (.slice (some ⟨o, 0, none⟩) n cap) most wait now d)) (hr : RowB w o cap L)
    (hE : rE now N = 0) (hw0 : 0 ≤ wait) (hw1 : wait ≤ 1125899906842624) (hnow : 0 ≤ now) (htm : ∀ b ∈ L, 0 ≤ b.at_ ∧ b.at_ ≤ now) (hd : d ≤ 1000000000000) :
    Calls Try.prog 13 #[.pointer (some ⟨rp, 0, none⟩), .int .i64 N] w fun e w' => e = .returned (.int .i64 0) ∧ RefAt base w' rp most wait (keepB L wait N) N (d + (n - (keepB L wait N).length)) ∧ Fq base w w' := by
  have h1 : ¬ 1125899906842624 < N := by intro e; simp [rE, e] at hE
  have h2 : ¬ N < now := by intro e; simp [rE, h1, e] at hE
  have hcap : n ≤ cap ∧ cap ≤ 9223372036854775807 := by
    obtain ⟨cur, _, _, h3, h4, _⟩ := hr
    unfold maxLen at h4
    omega
  obtain ⟨dr, Hdr⟩ : ∃ x : Int, Hid (((d : Nat) : Int) = x) := ⟨_, rfl⟩
  rw [Hdr.out] at ht
  have hdr : 0 ≤ dr ∧ dr ≤ 1000000000000 := by rw [← Hdr.out]; omega
  have T0 : Hid ((w.setCell ⟨rp, 3, none⟩ (.int .i64 N)).heap[rp]? = some (refC (.slice (some ⟨o, 0, none⟩) n cap) most wait N dr)) := lies_set ht 3 _
  have hne : o ≠ rp := fun e => by
    obtain ⟨cur, h3, _⟩ := hr
    subst e; rw [ht] at h3; injection h3 with h3; injection h3 with _ e2; exact absurd e2 (by decide)
  have R0 : Hid (RowB (w.setCell ⟨rp, 3, none⟩ (.int .i64 N)) o cap L) := row_on' hr (Bi.grown_set rp 3 _) (by intro e; injection e with e; exact hne e.symm)
  have F0 : Hid (Fq base w (w.setCell ⟨rp, 3, none⟩ (.int .i64 N))) := Fq.grown (Bi.grown_set rp 3 _) hrp hb ht (.inl rfl)
  have O0 : Hid ((w.setCell ⟨rp, 3, none⟩ (.int .i64 N)).ownsRow base 55 10 (.slice none 0 0) 0 (flatB [])) := ⟨rfl, .inl ⟨rfl, rfl⟩⟩
  have hB0 : Hid (base ≤ (w.setCell ⟨rp, 3, none⟩ (.int .i64 N)).heap.size) := by
    have := (Bi.grown_set (w := w) rp 3 (.int .i64 N)).size
    show _ ≤ _; omega
  have hc3 : w.cell? ⟨rp, 3, none⟩ = some (.int .i64 now) := lies_cell ht 3
  have hf3 := lies_frozen ht 3
  have Hn := Lib.hid hn; have HTM := Lib.hid htm; have HRP := Lib.hid hrp
  have HNw := Lib.hid (show now ≤ N by omega)
  clear hn htm ht hr hE hrp hb hd
  obtain ⟨i0, hi0, hz0, hs0, hb0⟩ := info_parts info55
  go_enter Try.func13, Try.ntmps13
  go_wp2
  generalize w.setCell ⟨rp, 3, none⟩ (.int .i64 N) = W0 at T0 R0 F0 O0 hB0 ⊢
  clear hc3 hf3
  go_loopw [5, 6] (fun v5 v6 wr => ∃ (i k5 : Nat) (A5 : Option Addr) (c5 : Nat), i ≤ n ∧ v6 = .int .i64 i ∧ v5 = .slice A5 k5 c5 ∧ k5 = (keepB (L.take i) wait N).length ∧ wr.ownsRow base 55 10 (.slice A5 k5 c5) k5 (flatB (keepB (L.take i) wait N)) ∧ (Value.slice A5 k5 c5).ownBlock ≠ some o ∧ wr.heap[rp]? = some (refC (.slice (some ⟨o, 0, none⟩) n cap) most wait N dr) ∧ RowB wr o cap L ∧ Fq base W0 wr ∧ base ≤ wr.heap.size) (fun _ v6 _ => n - (intOf v6).toNat)
  case atStart => exact ⟨0, 0, none, 0, Nat.zero_le _, rfl, rfl, rfl, O0.out, by simp [Value.ownBlock], T0.out, R0.out, Fq.refl, hB0.out⟩
  case round =>
    obtain ⟨i, k5, A5, c5, hi, rfl, rfl, hk5, hO, hno, hT, hR, hF, hbs⟩ := hrel
    have Hk5 := Lib.hid hk5; have HO := Lib.hid hO; have HNO := Lib.hid hno; have HT := Lib.hid hT; have HR := Lib.hid hR; have HF := Lib.hid hF
    have hk64 : k5 ≤ 64 := by
      have h3 := keepB_len (L.take i) wait N
      simp only [List.length_take] at h3
      have := Hn.out
      omega
    clear hk5 hO hno hT hR hF
    have hc0 : wr.cell? ⟨rp, 0, none⟩ = some (.slice (some ⟨o, 0, none⟩) n cap) := lies_cell HT.out 0
    by_cases hin : i < n
    · have hil : i < L.length := by rw [← Hn.out]; exact hin
      have iInt : (i : Int) < n := by omega
      obtain ⟨x, HX⟩ : ∃ x, Hid (L[i] = x) := ⟨L[i], Lib.hid rfl⟩
      have htx := HTM.out _ (List.getElem_mem hil)
      rw [HX.out] at htx
      have hstep := keepB_step L wait N i hil
      rw [HX.out] at hstep
      have HSt := Lib.hid hstep; clear hstep
      have hNw := HNw.out
      have e8 : wrap64 (N - x.at_) = N - x.at_ := by rw [wrap64]; omega
      have e9 : IntKind.i64.wrap (N - x.at_) = N - x.at_ := IntWalk.i64_in _ (by omega)
      clear hNw
      by_cases hex : N - x.at_ ≤ wait
      · have hdec : decide (N - x.at_ ≤ wait) = true := decide_eq_true hex
        go_upto_region 10 with (fail)
        refine wp_region_held_drew (S := fun w' => w'.heap[rp]? = some (refC (.slice (some ⟨o, 0, none⟩) n cap) most wait N dr) ∧ RowB w' o cap L) (by kernel_rfl) ?_ (fun hHeld => ?_)
        · exact ⟨HT.out, HR.out⟩
        refine wpAnyH_take (i := 0) (oi := { dst := some 28, op := Go.Op.move (Go.Operand.tmp 1), type := 3, pos := "ref.go:44", after := #[], guard := none }) (v := ?_) rfl (by kernel_rfl) (by kernel_rfl) (by kernel_rfl) (fun _ _ _ h => h) (Or.inl ⟨by rfl, ?_⟩) (by assumption) ?_
        rotate_left
        focus ((intro w hSw; (try dsimp only at hSw); clear hSw; go_simp) <;> (with_reducible rfl))
        try simp only [Act.put, List.setIfInBounds_toArray, List.set_cons_zero, List.set_cons_succ]
        refine wpAnyH_take (i := 1) (oi := { dst := some 29, op := Go.Op.move (Go.Operand.tmp 0), type := 27, pos := "ref.go:44", after := #[], guard := none }) (v := ?_) rfl (by kernel_rfl) (by kernel_rfl) (by kernel_rfl) (fun _ _ _ h => h) (Or.inl ⟨by rfl, ?_⟩) (by assumption) ?_
        rotate_left
        focus ((intro w hSw; (try dsimp only at hSw); clear hSw; go_simp) <;> (with_reducible rfl))
        try simp only [Act.put, List.setIfInBounds_toArray, List.set_cons_zero, List.set_cons_succ]
        refine wpAnyH_take (i := 2) (oi := { dst := some 30, op := Go.Op.nilCheck (Go.Operand.tmp 29), type := 0, pos := "ref.go:44", after := #[{ on := 1, ground := Go.Ground.data }], guard := none }) (v := ?_) rfl (by kernel_rfl) (by kernel_rfl) (by kernel_rfl) (fun _ _ _ h => h) (Or.inl ⟨by rfl, ?_⟩) (by assumption) ?_
        rotate_left
        focus ((intro w hSw; (try dsimp only at hSw); clear hSw; go_simp) <;> (with_reducible rfl))
        try simp only [Act.put, List.setIfInBounds_toArray, List.set_cons_zero, List.set_cons_succ]
        refine wpAnyH_take (i := 3) (oi := { dst := some 31, op := Go.Op.fieldAddr 49 (Go.Operand.tmp 30) 0, type := 0, pos := "ref.go:44", after := #[{ on := 2, ground := Go.Ground.data }], guard := none }) (v := ?_) rfl (by kernel_rfl) (by kernel_rfl) (by kernel_rfl) (fun _ _ _ h => h) (Or.inl ⟨by rfl, ?_⟩) (by assumption) ?_
        rotate_left
        focus ((intro w hSw; (try dsimp only at hSw); clear hSw; go_simp) <;> (with_reducible rfl))
        try simp only [Act.put, List.setIfInBounds_toArray, List.set_cons_zero, List.set_cons_succ]
        refine wpAnyH_take (i := 4) (oi := { dst := some 32, op := Go.Op.load 47 (Go.Operand.tmp 31), type := 47, pos := "ref.go:44", after := #[{ on := 3, ground := Go.Ground.data }], guard := none }) (v := ?_) rfl (by kernel_rfl) (by kernel_rfl) (by kernel_rfl) (fun _ _ _ h => h) (Or.inl ⟨by rfl, ?_⟩) (by assumption) ?_
        rotate_left
        focus ((intro w hSw; (try dsimp only at hSw); have hc : w.cell? ⟨rp, 0, none⟩ = some (.slice (some ⟨o, 0, none⟩) n cap) := lies_cell hSw.1 0; clear hSw; go_simp) <;> (with_reducible rfl))
        try simp only [Act.put, List.setIfInBounds_toArray, List.set_cons_zero, List.set_cons_succ]
        refine wpAnyH_take (i := 5) (oi := { dst := some 33, op := Go.Op.move (Go.Operand.tmp 6), type := 3, pos := "ref.go:44", after := #[], guard := none }) (v := ?_) rfl (by kernel_rfl) (by kernel_rfl) (by kernel_rfl) (fun _ _ _ h => h) (Or.inl ⟨by rfl, ?_⟩) (by assumption) ?_
        rotate_left
        focus ((intro w hSw; (try dsimp only at hSw); clear hSw; go_simp) <;> (with_reducible rfl))
        try simp only [Act.put, List.setIfInBounds_toArray, List.set_cons_zero, List.set_cons_succ]
        refine wpAnyH_take (i := 6) (oi := { dst := some 34, op := Go.Op.indexAddr 47 (Go.Operand.tmp 32) (Go.Operand.tmp 33), type := 0, pos := "ref.go:44", after := #[{ on := 4, ground := Go.Ground.data }, { on := 5, ground := Go.Ground.data }], guard := none }) (v := ?_) rfl (by kernel_rfl) (by kernel_rfl) (by kernel_rfl) (fun _ _ _ h => h) (Or.inl ⟨by rfl, ?_⟩) (by assumption) ?_
        rotate_left
        focus ((intro w hSw; (try dsimp only at hSw); clear hSw; go_simp) <;> (with_reducible rfl))
        try simp only [Act.put, List.setIfInBounds_toArray, List.set_cons_zero, List.set_cons_succ]
        refine wpAnyH_take (i := 7) (oi := { dst := some 35, op := Go.Op.fieldAddr 55 (Go.Operand.tmp 34) 1, type := 0, pos := "ref.go:44", after := #[{ on := 6, ground := Go.Ground.data }], guard := none }) (v := ?_) rfl (by kernel_rfl) (by kernel_rfl) (by kernel_rfl) (fun _ _ _ h => h) (Or.inl ⟨by rfl, ?_⟩) (by assumption) ?_
        rotate_left
        focus ((intro w hSw; (try dsimp only at hSw); clear hSw; go_simp) <;> (with_reducible rfl))
        try simp only [Act.put, List.setIfInBounds_toArray, List.set_cons_zero, List.set_cons_succ]
        refine wpAnyH_take (i := 8) (oi := { dst := some 36, op := Go.Op.load 3 (Go.Operand.tmp 35), type := 3, pos := "ref.go:44", after := #[{ on := 7, ground := Go.Ground.data }], guard := none }) (v := ?_) rfl (by kernel_rfl) (by kernel_rfl) (by kernel_rfl) (fun _ _ _ h => h) (Or.inl ⟨by rfl, ?_⟩) (by assumption) ?_
        rotate_left
        focus ((intro w hSw; (try dsimp only at hSw); have hb := hSw.2.at i hil; rw [HX.out] at hb; obtain ⟨b0, b1, b2, b3, b4, b5, b6, b7, b8, b9⟩ := hb; clear hSw; go_simp) <;> (with_reducible rfl))
        try simp only [Act.put, List.setIfInBounds_toArray, List.set_cons_zero, List.set_cons_succ]
        refine wpAnyH_take (i := 9) (oi := { dst := some 37, op := Go.Op.binOp Go.BinOp.sub 3 (Go.Operand.tmp 28) (Go.Operand.tmp 36) 3, type := 3, pos := "ref.go:44", after := #[{ on := 0, ground := Go.Ground.data }, { on := 8, ground := Go.Ground.data }], guard := none }) (v := ?_) rfl (by kernel_rfl) (by kernel_rfl) (by kernel_rfl) (fun _ _ _ h => h) (Or.inl ⟨by rfl, ?_⟩) (by assumption) ?_
        rotate_left
        focus ((intro w hSw; (try dsimp only at hSw); clear hSw; go_simp) <;> (with_reducible rfl))
        try simp only [Act.put, List.setIfInBounds_toArray, List.set_cons_zero, List.set_cons_succ]
        refine wpAnyH_take (i := 10) (oi := { dst := some 38, op := Go.Op.move (Go.Operand.tmp 0), type := 27, pos := "ref.go:44", after := #[], guard := none }) (v := ?_) rfl (by kernel_rfl) (by kernel_rfl) (by kernel_rfl) (fun _ _ _ h => h) (Or.inl ⟨by rfl, ?_⟩) (by assumption) ?_
        rotate_left
        focus ((intro w hSw; (try dsimp only at hSw); clear hSw; go_simp) <;> (with_reducible rfl))
        try simp only [Act.put, List.setIfInBounds_toArray, List.set_cons_zero, List.set_cons_succ]
        refine wpAnyH_take (i := 11) (oi := { dst := some 39, op := Go.Op.nilCheck (Go.Operand.tmp 38), type := 0, pos := "ref.go:44", after := #[{ on := 10, ground := Go.Ground.data }], guard := none }) (v := ?_) rfl (by kernel_rfl) (by kernel_rfl) (by kernel_rfl) (fun _ _ _ h => h) (Or.inl ⟨by rfl, ?_⟩) (by assumption) ?_
        rotate_left
        focus ((intro w hSw; (try dsimp only at hSw); clear hSw; go_simp) <;> (with_reducible rfl))
        try simp only [Act.put, List.setIfInBounds_toArray, List.set_cons_zero, List.set_cons_succ]
        refine wpAnyH_take (i := 12) (oi := { dst := some 40, op := Go.Op.fieldAddr 49 (Go.Operand.tmp 39) 2, type := 0, pos := "ref.go:44", after := #[{ on := 11, ground := Go.Ground.data }], guard := none }) (v := ?_) rfl (by kernel_rfl) (by kernel_rfl) (by kernel_rfl) (fun _ _ _ h => h) (Or.inl ⟨by rfl, ?_⟩) (by assumption) ?_
        rotate_left
        focus ((intro w hSw; (try dsimp only at hSw); clear hSw; go_simp) <;> (with_reducible rfl))
        try simp only [Act.put, List.setIfInBounds_toArray, List.set_cons_zero, List.set_cons_succ]
        refine wpAnyH_take (i := 13) (oi := { dst := some 41, op := Go.Op.load 3 (Go.Operand.tmp 40), type := 3, pos := "ref.go:44", after := #[{ on := 12, ground := Go.Ground.data }], guard := none }) (v := ?_) rfl (by kernel_rfl) (by kernel_rfl) (by kernel_rfl) (fun _ _ _ h => h) (Or.inl ⟨by rfl, ?_⟩) (by assumption) ?_
        rotate_left
        focus ((intro w hSw; (try dsimp only at hSw); have hc : w.cell? ⟨rp, 2, none⟩ = some (.int .i64 wait) := lies_cell hSw.1 2; clear hSw; go_simp) <;> (with_reducible rfl))
        try simp only [Act.put, List.setIfInBounds_toArray, List.set_cons_zero, List.set_cons_succ]
        refine wpAnyH_take (i := 14) (oi := { dst := some 42, op := Go.Op.binOp Go.BinOp.leq 3 (Go.Operand.tmp 37) (Go.Operand.tmp 41) 3, type := 4, pos := "ref.go:44", after := #[{ on := 9, ground := Go.Ground.data }, { on := 13, ground := Go.Ground.data }], guard := none }) (v := ?_) rfl (by kernel_rfl) (by kernel_rfl) (by kernel_rfl) (fun _ _ _ h => h) (Or.inl ⟨by rfl, ?_⟩) (by assumption) ?_
        rotate_left
        focus ((intro w hSw; (try dsimp only at hSw); clear hSw; go_simp) <;> (with_reducible rfl))
        try simp only [Act.put, List.setIfInBounds_toArray, List.set_cons_zero, List.set_cons_succ]
        refine wpAnyH_done (by kernel_rfl) ?_ _
        clear hHeld hdec e8 e9 hc0
        have HT1 : Hid (wr.drew.heap[rp]? = some (refC (.slice (some ⟨o, 0, none⟩) n cap) most wait N dr)) := HT.out
        have HR1 : Hid (RowB wr.drew o cap L) := HR.out
        have HO1 : Hid (wr.drew.ownsRow base 55 10 (.slice A5 k5 c5) k5 (flatB (keepB (L.take i) wait N))) := World.ownsRow.drew HO.out
        have HF1 : Hid (Fq base W0 wr.drew) := HF.out.drew
        have hbs1 : base ≤ wr.drew.heap.size := hbs
        generalize wr.drew = W1 at HT1 HR1 HO1 HF1 hbs1 ⊢
        have hc0 : W1.cell? ⟨rp, 0, none⟩ = some (.slice (some ⟨o, 0, none⟩) n cap) := lies_cell HT1.out 0
        have hbx := HR1.out.at i hil
        rw [HX.out] at hbx
        obtain ⟨b0, b1, b2, b3, b4, b5, b6, b7, b8, b9⟩ := hbx
        have hol := HR1.out.lt
        go_wp2_with (first
          | (at_builtin; refine wpList_append_lies _ rfl _ _ 47 (by rfl) base 55 i0 _ 10 112 Try.underlying47 hi0 hz0 hs0 hb0 rfl (by omega) (.slice A5 k5 c5) k5 (flatB (keepB (L.take i) wait N)) (by rfl) (HO1.out.alloc _) ⟨W1.heap.size, 0, none⟩ 1 1 x.enc (by rfl) (by rfl) (World.news_of_block (heap_alloc_new W1 _)) x.enc_one (by omega) (by unfold maxLen; omega) (by omega) (by simp; omega) _ rfl ?_; intro g5 cc5 w5 hrow5 hg5 hgb5 hgl5))
        go_roundw
        case rel =>
          have hA : Below W1.heap.size W1 (W1.alloc (.cells #[.int .i64 x.p.id, .bool x.p.m, .int .i64 x.p.off, .int .i64 x.p.ttl, .int .i64 x.p.pr, .string (ipB x.p.a), .string (ipB x.p.b), .string x.p.s, .int .i64 x.at_, .string (bl x.d)] 55)) := (Below.refl _ W1).alloc (Nat.le_refl _) _
          exact pass_rel (i := i) hin HSt.out hex Hk5.out HO1.out HNO.out HT1.out HR1.out HF1.out hbs1 hA hrow5 hg5 hgb5
        case measure => simp [intOf]; omega
      · have hdec : decide (N - x.at_ ≤ wait) = false := decide_eq_false hex
        go_upto_region 10 with (fail)
        refine wp_region_held_drew (S := fun w' => w'.heap[rp]? = some (refC (.slice (some ⟨o, 0, none⟩) n cap) most wait N dr) ∧ RowB w' o cap L) (by kernel_rfl) ?_ (fun hHeld => ?_)
        · exact ⟨HT.out, HR.out⟩
        refine wpAnyH_take (i := 0) (oi := { dst := some 28, op := Go.Op.move (Go.Operand.tmp 1), type := 3, pos := "ref.go:44", after := #[], guard := none }) (v := ?_) rfl (by kernel_rfl) (by kernel_rfl) (by kernel_rfl) (fun _ _ _ h => h) (Or.inl ⟨by rfl, ?_⟩) (by assumption) ?_
        rotate_left
        focus ((intro w hSw; (try dsimp only at hSw); clear hSw; go_simp) <;> (with_reducible rfl))
        try simp only [Act.put, List.setIfInBounds_toArray, List.set_cons_zero, List.set_cons_succ]
        refine wpAnyH_take (i := 1) (oi := { dst := some 29, op := Go.Op.move (Go.Operand.tmp 0), type := 27, pos := "ref.go:44", after := #[], guard := none }) (v := ?_) rfl (by kernel_rfl) (by kernel_rfl) (by kernel_rfl) (fun _ _ _ h => h) (Or.inl ⟨by rfl, ?_⟩) (by assumption) ?_
        rotate_left
        focus ((intro w hSw; (try dsimp only at hSw); clear hSw; go_simp) <;> (with_reducible rfl))
        try simp only [Act.put, List.setIfInBounds_toArray, List.set_cons_zero, List.set_cons_succ]
        refine wpAnyH_take (i := 2) (oi := { dst := some 30, op := Go.Op.nilCheck (Go.Operand.tmp 29), type := 0, pos := "ref.go:44", after := #[{ on := 1, ground := Go.Ground.data }], guard := none }) (v := ?_) rfl (by kernel_rfl) (by kernel_rfl) (by kernel_rfl) (fun _ _ _ h => h) (Or.inl ⟨by rfl, ?_⟩) (by assumption) ?_
        rotate_left
        focus ((intro w hSw; (try dsimp only at hSw); clear hSw; go_simp) <;> (with_reducible rfl))
        try simp only [Act.put, List.setIfInBounds_toArray, List.set_cons_zero, List.set_cons_succ]
        refine wpAnyH_take (i := 3) (oi := { dst := some 31, op := Go.Op.fieldAddr 49 (Go.Operand.tmp 30) 0, type := 0, pos := "ref.go:44", after := #[{ on := 2, ground := Go.Ground.data }], guard := none }) (v := ?_) rfl (by kernel_rfl) (by kernel_rfl) (by kernel_rfl) (fun _ _ _ h => h) (Or.inl ⟨by rfl, ?_⟩) (by assumption) ?_
        rotate_left
        focus ((intro w hSw; (try dsimp only at hSw); clear hSw; go_simp) <;> (with_reducible rfl))
        try simp only [Act.put, List.setIfInBounds_toArray, List.set_cons_zero, List.set_cons_succ]
        refine wpAnyH_take (i := 4) (oi := { dst := some 32, op := Go.Op.load 47 (Go.Operand.tmp 31), type := 47, pos := "ref.go:44", after := #[{ on := 3, ground := Go.Ground.data }], guard := none }) (v := ?_) rfl (by kernel_rfl) (by kernel_rfl) (by kernel_rfl) (fun _ _ _ h => h) (Or.inl ⟨by rfl, ?_⟩) (by assumption) ?_
        rotate_left
        focus ((intro w hSw; (try dsimp only at hSw); have hc : w.cell? ⟨rp, 0, none⟩ = some (.slice (some ⟨o, 0, none⟩) n cap) := lies_cell hSw.1 0; clear hSw; go_simp) <;> (with_reducible rfl))
        try simp only [Act.put, List.setIfInBounds_toArray, List.set_cons_zero, List.set_cons_succ]
        refine wpAnyH_take (i := 5) (oi := { dst := some 33, op := Go.Op.move (Go.Operand.tmp 6), type := 3, pos := "ref.go:44", after := #[], guard := none }) (v := ?_) rfl (by kernel_rfl) (by kernel_rfl) (by kernel_rfl) (fun _ _ _ h => h) (Or.inl ⟨by rfl, ?_⟩) (by assumption) ?_
        rotate_left
        focus ((intro w hSw; (try dsimp only at hSw); clear hSw; go_simp) <;> (with_reducible rfl))
        try simp only [Act.put, List.setIfInBounds_toArray, List.set_cons_zero, List.set_cons_succ]
        refine wpAnyH_take (i := 6) (oi := { dst := some 34, op := Go.Op.indexAddr 47 (Go.Operand.tmp 32) (Go.Operand.tmp 33), type := 0, pos := "ref.go:44", after := #[{ on := 4, ground := Go.Ground.data }, { on := 5, ground := Go.Ground.data }], guard := none }) (v := ?_) rfl (by kernel_rfl) (by kernel_rfl) (by kernel_rfl) (fun _ _ _ h => h) (Or.inl ⟨by rfl, ?_⟩) (by assumption) ?_
        rotate_left
        focus ((intro w hSw; (try dsimp only at hSw); clear hSw; go_simp) <;> (with_reducible rfl))
        try simp only [Act.put, List.setIfInBounds_toArray, List.set_cons_zero, List.set_cons_succ]
        refine wpAnyH_take (i := 7) (oi := { dst := some 35, op := Go.Op.fieldAddr 55 (Go.Operand.tmp 34) 1, type := 0, pos := "ref.go:44", after := #[{ on := 6, ground := Go.Ground.data }], guard := none }) (v := ?_) rfl (by kernel_rfl) (by kernel_rfl) (by kernel_rfl) (fun _ _ _ h => h) (Or.inl ⟨by rfl, ?_⟩) (by assumption) ?_
        rotate_left
        focus ((intro w hSw; (try dsimp only at hSw); clear hSw; go_simp) <;> (with_reducible rfl))
        try simp only [Act.put, List.setIfInBounds_toArray, List.set_cons_zero, List.set_cons_succ]
        refine wpAnyH_take (i := 8) (oi := { dst := some 36, op := Go.Op.load 3 (Go.Operand.tmp 35), type := 3, pos := "ref.go:44", after := #[{ on := 7, ground := Go.Ground.data }], guard := none }) (v := ?_) rfl (by kernel_rfl) (by kernel_rfl) (by kernel_rfl) (fun _ _ _ h => h) (Or.inl ⟨by rfl, ?_⟩) (by assumption) ?_
        rotate_left
        focus ((intro w hSw; (try dsimp only at hSw); have hb := hSw.2.at i hil; rw [HX.out] at hb; obtain ⟨b0, b1, b2, b3, b4, b5, b6, b7, b8, b9⟩ := hb; clear hSw; go_simp) <;> (with_reducible rfl))
        try simp only [Act.put, List.setIfInBounds_toArray, List.set_cons_zero, List.set_cons_succ]
        refine wpAnyH_take (i := 9) (oi := { dst := some 37, op := Go.Op.binOp Go.BinOp.sub 3 (Go.Operand.tmp 28) (Go.Operand.tmp 36) 3, type := 3, pos := "ref.go:44", after := #[{ on := 0, ground := Go.Ground.data }, { on := 8, ground := Go.Ground.data }], guard := none }) (v := ?_) rfl (by kernel_rfl) (by kernel_rfl) (by kernel_rfl) (fun _ _ _ h => h) (Or.inl ⟨by rfl, ?_⟩) (by assumption) ?_
        rotate_left
        focus ((intro w hSw; (try dsimp only at hSw); clear hSw; go_simp) <;> (with_reducible rfl))
        try simp only [Act.put, List.setIfInBounds_toArray, List.set_cons_zero, List.set_cons_succ]
        refine wpAnyH_take (i := 10) (oi := { dst := some 38, op := Go.Op.move (Go.Operand.tmp 0), type := 27, pos := "ref.go:44", after := #[], guard := none }) (v := ?_) rfl (by kernel_rfl) (by kernel_rfl) (by kernel_rfl) (fun _ _ _ h => h) (Or.inl ⟨by rfl, ?_⟩) (by assumption) ?_
        rotate_left
        focus ((intro w hSw; (try dsimp only at hSw); clear hSw; go_simp) <;> (with_reducible rfl))
        try simp only [Act.put, List.setIfInBounds_toArray, List.set_cons_zero, List.set_cons_succ]
        refine wpAnyH_take (i := 11) (oi := { dst := some 39, op := Go.Op.nilCheck (Go.Operand.tmp 38), type := 0, pos := "ref.go:44", after := #[{ on := 10, ground := Go.Ground.data }], guard := none }) (v := ?_) rfl (by kernel_rfl) (by kernel_rfl) (by kernel_rfl) (fun _ _ _ h => h) (Or.inl ⟨by rfl, ?_⟩) (by assumption) ?_
        rotate_left
        focus ((intro w hSw; (try dsimp only at hSw); clear hSw; go_simp) <;> (with_reducible rfl))
        try simp only [Act.put, List.setIfInBounds_toArray, List.set_cons_zero, List.set_cons_succ]
        refine wpAnyH_take (i := 12) (oi := { dst := some 40, op := Go.Op.fieldAddr 49 (Go.Operand.tmp 39) 2, type := 0, pos := "ref.go:44", after := #[{ on := 11, ground := Go.Ground.data }], guard := none }) (v := ?_) rfl (by kernel_rfl) (by kernel_rfl) (by kernel_rfl) (fun _ _ _ h => h) (Or.inl ⟨by rfl, ?_⟩) (by assumption) ?_
        rotate_left
        focus ((intro w hSw; (try dsimp only at hSw); clear hSw; go_simp) <;> (with_reducible rfl))
        try simp only [Act.put, List.setIfInBounds_toArray, List.set_cons_zero, List.set_cons_succ]
        refine wpAnyH_take (i := 13) (oi := { dst := some 41, op := Go.Op.load 3 (Go.Operand.tmp 40), type := 3, pos := "ref.go:44", after := #[{ on := 12, ground := Go.Ground.data }], guard := none }) (v := ?_) rfl (by kernel_rfl) (by kernel_rfl) (by kernel_rfl) (fun _ _ _ h => h) (Or.inl ⟨by rfl, ?_⟩) (by assumption) ?_
        rotate_left
        focus ((intro w hSw; (try dsimp only at hSw); have hc : w.cell? ⟨rp, 2, none⟩ = some (.int .i64 wait) := lies_cell hSw.1 2; clear hSw; go_simp) <;> (with_reducible rfl))
        try simp only [Act.put, List.setIfInBounds_toArray, List.set_cons_zero, List.set_cons_succ]
        refine wpAnyH_take (i := 14) (oi := { dst := some 42, op := Go.Op.binOp Go.BinOp.leq 3 (Go.Operand.tmp 37) (Go.Operand.tmp 41) 3, type := 4, pos := "ref.go:44", after := #[{ on := 9, ground := Go.Ground.data }, { on := 13, ground := Go.Ground.data }], guard := none }) (v := ?_) rfl (by kernel_rfl) (by kernel_rfl) (by kernel_rfl) (fun _ _ _ h => h) (Or.inl ⟨by rfl, ?_⟩) (by assumption) ?_
        rotate_left
        focus ((intro w hSw; (try dsimp only at hSw); clear hSw; go_simp) <;> (with_reducible rfl))
        try simp only [Act.put, List.setIfInBounds_toArray, List.set_cons_zero, List.set_cons_succ]
        refine wpAnyH_done (by kernel_rfl) ?_ _
        go_wp2
        go_roundw
        case rel =>
          refine ⟨i + 1, k5, A5, c5, by omega, by go_num, rfl, ?_, ?_, HNO.out, hHeld.1, hHeld.2, HF.out.drew, hbs⟩
          · rw [HSt.out, if_neg hex, List.append_nil]; exact Hk5.out
          · rw [HSt.out, if_neg hex, List.append_nil]; exact World.ownsRow.drew HO.out
        case measure => simp [intOf]; omega
    · obtain rfl : i = n := by omega
      have iInt : ¬ (i : Int) < i := by omega
      have HL2 : Hid (wr.drew.heap[rp]? = some (refC (.slice (some ⟨o, 0, none⟩) i cap) most wait N dr)) := HT.out
      have htake : L.take i = L := List.take_of_length_le (by rw [← Hn.out]; exact Nat.le_refl _)
      rw [htake] at Hk5 HO
      have hkl : k5 ≤ i := by rw [Hk5.out, Hn.out]; exact keepB_len _ _ _
      have s1 : IntKind.i64.wrap (dr + (i : Int)) = dr + i := IntWalk.i64_in _ (by omega)
      obtain ⟨D2, HD2⟩ : ∃ x : Int, Hid (((d + (i - k5) : Nat) : Int) = x) := ⟨_, rfl⟩
      have s2 : IntKind.i64.wrap (dr + (i : Int) - (k5 : Int)) = D2 := by have e2 := HD2.out; have e := Hdr.out; rw [IntWalk.i64_in _ (by omega)]; omega
      have s1' : wrap64 (dr + (i : Int)) = dr + i := by rw [wrap64]; omega
      have s2' : wrap64 (dr + (i : Int) - (k5 : Int)) = D2 := by have e2 := HD2.out; have e := Hdr.out; rw [wrap64]; omega
      clear htake hkl
      go_upto_region 12 with (fail)
      refine wp_region_held_drew (S := fun w' => ∃ d', w'.heap[rp]? = some (refC (.slice (some ⟨o, 0, none⟩) i cap) most wait N d')) (by kernel_rfl) ?_ (fun hHeld => ?_)
      · exact ⟨dr, HT.out⟩
      refine wpAnyH_take (i := 0) (oi := { dst := some 53, op := Go.Op.move (Go.Operand.tmp 0), type := 27, pos := "ref.go:48", after := #[], guard := none }) (v := ?_) rfl (by kernel_rfl) (by kernel_rfl) (by kernel_rfl) (fun _ _ _ h => h) (Or.inl ⟨by rfl, ?_⟩) (by assumption) ?_
      rotate_left
      focus ((intro w hSw; (try dsimp only at hSw); clear hSw; go_simp) <;> (with_reducible rfl))
      try simp only [Act.put, List.setIfInBounds_toArray, List.set_cons_zero, List.set_cons_succ]
      refine wpAnyH_take (i := 1) (oi := { dst := some 54, op := Go.Op.move (Go.Operand.tmp 0), type := 27, pos := "ref.go:48", after := #[], guard := none }) (v := ?_) rfl (by kernel_rfl) (by kernel_rfl) (by kernel_rfl) (fun _ _ _ h => h) (Or.inl ⟨by rfl, ?_⟩) (by assumption) ?_
      rotate_left
      focus ((intro w hSw; (try dsimp only at hSw); clear hSw; go_simp) <;> (with_reducible rfl))
      try simp only [Act.put, List.setIfInBounds_toArray, List.set_cons_zero, List.set_cons_succ]
      refine wpAnyH_take (i := 2) (oi := { dst := some 55, op := Go.Op.nilCheck (Go.Operand.tmp 54), type := 0, pos := "ref.go:48", after := #[{ on := 1, ground := Go.Ground.data }], guard := none }) (v := ?_) rfl (by kernel_rfl) (by kernel_rfl) (by kernel_rfl) (fun _ _ _ h => h) (Or.inl ⟨by rfl, ?_⟩) (by assumption) ?_
      rotate_left
      focus ((intro w hSw; (try dsimp only at hSw); clear hSw; go_simp) <;> (with_reducible rfl))
      try simp only [Act.put, List.setIfInBounds_toArray, List.set_cons_zero, List.set_cons_succ]
      refine wpAnyH_take (i := 3) (oi := { dst := some 56, op := Go.Op.fieldAddr 49 (Go.Operand.tmp 55) 4, type := 0, pos := "ref.go:48", after := #[{ on := 2, ground := Go.Ground.data }], guard := none }) (v := ?_) rfl (by kernel_rfl) (by kernel_rfl) (by kernel_rfl) (fun _ _ _ h => h) (Or.inl ⟨by rfl, ?_⟩) (by assumption) ?_
      rotate_left
      focus ((intro w hSw; (try dsimp only at hSw); clear hSw; go_simp) <;> (with_reducible rfl))
      try simp only [Act.put, List.setIfInBounds_toArray, List.set_cons_zero, List.set_cons_succ]
      refine wpAnyH_take (i := 5) (oi := { dst := some 58, op := Go.Op.move (Go.Operand.tmp 0), type := 27, pos := "ref.go:48", after := #[], guard := none }) (v := ?_) rfl (by kernel_rfl) (by kernel_rfl) (by kernel_rfl) (fun _ _ _ h => h) (Or.inl ⟨by rfl, ?_⟩) (by assumption) ?_
      rotate_left
      focus ((intro w hSw; (try dsimp only at hSw); clear hSw; go_simp) <;> (with_reducible rfl))
      try simp only [Act.put, List.setIfInBounds_toArray, List.set_cons_zero, List.set_cons_succ]
      refine wpAnyH_take (i := 6) (oi := { dst := some 59, op := Go.Op.nilCheck (Go.Operand.tmp 58), type := 0, pos := "ref.go:48", after := #[{ on := 5, ground := Go.Ground.data }], guard := none }) (v := ?_) rfl (by kernel_rfl) (by kernel_rfl) (by kernel_rfl) (fun _ _ _ h => h) (Or.inl ⟨by rfl, ?_⟩) (by assumption) ?_
      rotate_left
      focus ((intro w hSw; (try dsimp only at hSw); clear hSw; go_simp) <;> (with_reducible rfl))
      try simp only [Act.put, List.setIfInBounds_toArray, List.set_cons_zero, List.set_cons_succ]
      refine wpAnyH_take (i := 7) (oi := { dst := some 60, op := Go.Op.fieldAddr 49 (Go.Operand.tmp 59) 0, type := 0, pos := "ref.go:48", after := #[{ on := 6, ground := Go.Ground.data }], guard := none }) (v := ?_) rfl (by kernel_rfl) (by kernel_rfl) (by kernel_rfl) (fun _ _ _ h => h) (Or.inl ⟨by rfl, ?_⟩) (by assumption) ?_
      rotate_left
      focus ((intro w hSw; (try dsimp only at hSw); clear hSw; go_simp) <;> (with_reducible rfl))
      try simp only [Act.put, List.setIfInBounds_toArray, List.set_cons_zero, List.set_cons_succ]
      refine wpAnyH_take (i := 8) (oi := { dst := some 61, op := Go.Op.load 47 (Go.Operand.tmp 60), type := 47, pos := "ref.go:48", after := #[{ on := 7, ground := Go.Ground.data }], guard := none }) (v := ?_) rfl (by kernel_rfl) (by kernel_rfl) (by kernel_rfl) (fun _ _ _ h => h) (Or.inl ⟨by rfl, ?_⟩) (by assumption) ?_
      rotate_left
      focus ((intro w hSw; (try dsimp only at hSw); have hSx := hSw; obtain ⟨d2, hd2⟩ := hSx; have hc : w.cell? ⟨rp, 0, none⟩ = some (.slice (some ⟨o, 0, none⟩) i cap) := lies_cell hd2 0; clear hSw; go_simp) <;> (with_reducible rfl))
      try simp only [Act.put, List.setIfInBounds_toArray, List.set_cons_zero, List.set_cons_succ]
      refine wpAnyH_take (i := 9) (oi := { dst := some 62, op := Go.Op.call { callee := Go.Callee.builtin Go.Builtin.len, args := #[Go.Operand.tmp 61], argTypes := #[47] }, type := 3, pos := "ref.go:48", after := #[{ on := 8, ground := Go.Ground.data }], guard := none }) (v := ?_) rfl (by kernel_rfl) (by kernel_rfl) (by kernel_rfl) (fun _ _ _ h => h) (Or.inl ⟨by rfl, ?_⟩) (by assumption) ?_
      rotate_left
      focus ((intro w hSw; (try dsimp only at hSw); clear hSw; go_simp) <;> (with_reducible rfl))
      try simp only [Act.put, List.setIfInBounds_toArray, List.set_cons_zero, List.set_cons_succ]
      refine wpAnyH_take (i := 11) (oi := { dst := some 64, op := Go.Op.move (Go.Operand.tmp 5), type := 47, pos := "ref.go:48", after := #[], guard := none }) (v := ?_) rfl (by kernel_rfl) (by kernel_rfl) (by kernel_rfl) (fun _ _ _ h => h) (Or.inl ⟨by rfl, ?_⟩) (by assumption) ?_
      rotate_left
      focus ((intro w hSw; (try dsimp only at hSw); clear hSw; go_simp) <;> (with_reducible rfl))
      try simp only [Act.put, List.setIfInBounds_toArray, List.set_cons_zero, List.set_cons_succ]
      refine wpAnyH_take (i := 12) (oi := { dst := some 65, op := Go.Op.call { callee := Go.Callee.builtin Go.Builtin.len, args := #[Go.Operand.tmp 64], argTypes := #[47] }, type := 3, pos := "ref.go:48", after := #[{ on := 11, ground := Go.Ground.data }], guard := none }) (v := ?_) rfl (by kernel_rfl) (by kernel_rfl) (by kernel_rfl) (fun _ _ _ h => h) (Or.inl ⟨by rfl, ?_⟩) (by assumption) ?_
      rotate_left
      focus ((intro w hSw; (try dsimp only at hSw); clear hSw; go_simp) <;> (with_reducible rfl))
      try simp only [Act.put, List.setIfInBounds_toArray, List.set_cons_zero, List.set_cons_succ]
      refine wpAnyH_ready (rs := [4]) (by kernel_rfl) (by simp) ?_
      refine AllReadyH.cons (o := { dst := some 57, op := Go.Op.load 3 (Go.Operand.tmp 56), type := 3, pos := "ref.go:48", after := #[{ on := 3, ground := Go.Ground.data }], guard := none }) rfl (fun K hK => ?_) AllReadyH.nil
      have hcl : wr.drew.cell? ⟨rp, 4, none⟩ = some (.int .i64 dr) := lies_cell HL2.out 4
      go_simp
      clear hcl
      refine hK.out _ _ ?_ (fun hHeld => ?_)
      · exact hHeld
      clear hK K
      try simp only [Act.put, List.setIfInBounds_toArray, List.set_cons_zero, List.set_cons_succ]
      refine wpAnyH_take (i := 10) (oi := { dst := some 63, op := Go.Op.binOp Go.BinOp.add 3 (Go.Operand.tmp 57) (Go.Operand.tmp 62) 3, type := 3, pos := "ref.go:48", after := #[{ on := 4, ground := Go.Ground.data }, { on := 9, ground := Go.Ground.data }], guard := none }) (v := ?_) rfl (by kernel_rfl) (by kernel_rfl) (by kernel_rfl) (fun _ _ _ h => h) (Or.inl ⟨by rfl, ?_⟩) (by assumption) ?_
      rotate_left
      focus ((intro w hSw; (try dsimp only at hSw); clear hSw; go_simp) <;> (with_reducible rfl))
      try simp only [Act.put, List.setIfInBounds_toArray, List.set_cons_zero, List.set_cons_succ]
      refine wpAnyH_take (i := 13) (oi := { dst := some 66, op := Go.Op.binOp Go.BinOp.sub 3 (Go.Operand.tmp 63) (Go.Operand.tmp 65) 3, type := 3, pos := "ref.go:48", after := #[{ on := 10, ground := Go.Ground.data }, { on := 12, ground := Go.Ground.data }], guard := none }) (v := ?_) rfl (by kernel_rfl) (by kernel_rfl) (by kernel_rfl) (fun _ _ _ h => h) (Or.inl ⟨by rfl, ?_⟩) (by assumption) ?_
      rotate_left
      focus ((intro w hSw; (try dsimp only at hSw); clear hSw; go_simp) <;> (with_reducible rfl))
      try simp only [Act.put, List.setIfInBounds_toArray, List.set_cons_zero, List.set_cons_succ]
      refine wpAnyH_take (i := 14) (oi := { dst := some 67, op := Go.Op.nilCheck (Go.Operand.tmp 53), type := 0, pos := "ref.go:48", after := #[{ on := 0, ground := Go.Ground.data }, { on := 0, ground := Go.Ground.phase }, { on := 1, ground := Go.Ground.phase }, { on := 2, ground := Go.Ground.phase }, { on := 3, ground := Go.Ground.phase }, { on := 4, ground := Go.Ground.phase }, { on := 5, ground := Go.Ground.phase }, { on := 6, ground := Go.Ground.phase }, { on := 7, ground := Go.Ground.phase }, { on := 8, ground := Go.Ground.phase }, { on := 9, ground := Go.Ground.phase }, { on := 10, ground := Go.Ground.phase }, { on := 11, ground := Go.Ground.phase }, { on := 12, ground := Go.Ground.phase }, { on := 13, ground := Go.Ground.phase }], guard := none }) (v := ?_) rfl (by kernel_rfl) (by kernel_rfl) (by kernel_rfl) (fun _ _ _ h => h) (Or.inl ⟨by rfl, ?_⟩) (by assumption) ?_
      rotate_left
      focus ((intro w hSw; (try dsimp only at hSw); clear hSw; go_simp) <;> (with_reducible rfl))
      try simp only [Act.put, List.setIfInBounds_toArray, List.set_cons_zero, List.set_cons_succ]
      refine wpAnyH_take (i := 15) (oi := { dst := some 68, op := Go.Op.fieldAddr 49 (Go.Operand.tmp 67) 4, type := 0, pos := "ref.go:48", after := #[{ on := 14, ground := Go.Ground.data }, { on := 0, ground := Go.Ground.phase }, { on := 1, ground := Go.Ground.phase }, { on := 2, ground := Go.Ground.phase }, { on := 3, ground := Go.Ground.phase }, { on := 4, ground := Go.Ground.phase }, { on := 5, ground := Go.Ground.phase }, { on := 6, ground := Go.Ground.phase }, { on := 7, ground := Go.Ground.phase }, { on := 8, ground := Go.Ground.phase }, { on := 9, ground := Go.Ground.phase }, { on := 10, ground := Go.Ground.phase }, { on := 11, ground := Go.Ground.phase }, { on := 12, ground := Go.Ground.phase }, { on := 13, ground := Go.Ground.phase }], guard := none }) (v := ?_) rfl (by kernel_rfl) (by kernel_rfl) (by kernel_rfl) (fun _ _ _ h => h) (Or.inl ⟨by rfl, ?_⟩) (by assumption) ?_
      rotate_left
      focus ((intro w hSw; (try dsimp only at hSw); clear hSw; go_simp) <;> (with_reducible rfl))
      try simp only [Act.put, List.setIfInBounds_toArray, List.set_cons_zero, List.set_cons_succ]
      refine wpAnyH_ready (rs := [16]) (by kernel_rfl) (by simp) ?_
      refine AllReadyH.cons (o := { dst := none, op := Go.Op.store 3 (Go.Operand.tmp 68) (Go.Operand.tmp 66), type := 0, pos := "ref.go:48", after := #[{ on := 15, ground := Go.Ground.data }, { on := 13, ground := Go.Ground.data }, { on := 0, ground := Go.Ground.phase }, { on := 1, ground := Go.Ground.phase }, { on := 2, ground := Go.Ground.phase }, { on := 3, ground := Go.Ground.phase }, { on := 4, ground := Go.Ground.phase }, { on := 5, ground := Go.Ground.phase }, { on := 6, ground := Go.Ground.phase }, { on := 7, ground := Go.Ground.phase }, { on := 8, ground := Go.Ground.phase }, { on := 9, ground := Go.Ground.phase }, { on := 10, ground := Go.Ground.phase }, { on := 11, ground := Go.Ground.phase }, { on := 12, ground := Go.Ground.phase }, { on := 13, ground := Go.Ground.phase }], guard := none }) rfl (fun K hK => ?_) AllReadyH.nil
      have hcl : wr.drew.cell? ⟨rp, 4, none⟩ = some (.int .i64 dr) := lies_cell HL2.out 4
      have hfl : wr.drew.frozen? ⟨rp, 4, none⟩ = false := lies_frozen HL2.out 4
      go_simp
      clear hcl hfl
      refine hK.out _ _ ?_ (fun hHeld => ?_)
      · exact ⟨_, lies_set (w := wr) HL2.out 4 _⟩
      clear hK K
      try simp only [Act.put, List.setIfInBounds_toArray, List.set_cons_zero, List.set_cons_succ]
      refine wpAnyH_done (by kernel_rfl) ?_ _
      clear hHeld s1 s2 s1' s2' hc0
      have hcr : (wr.setCell ⟨rp, 4, none⟩ (.int .i64 D2)).drew.heap[rp]? = some (refC (.slice (some ⟨o, 0, none⟩) i cap) most wait N D2) := lies_set (w := wr) HT.out 4 _
      have hc0 : (wr.setCell ⟨rp, 4, none⟩ (.int .i64 D2)).drew.cell? ⟨rp, 0, none⟩ = some (.slice (some ⟨o, 0, none⟩) i cap) := lies_cell hcr 0
      have hf0 := lies_frozen hcr 0
      have Hcr := Lib.hid hcr; clear hcr
      go_wp2
      go_returns
      have hfin := pass_fin HRP.out F0.out HF.out hbs HT.out HO.out Hk5.out HD2.out
      rw [← Hk5.out]
      exact ⟨rfl, hfin.1, hfin.2⟩
theorem refPass_ok {base : Nat} {w : World} {rp : Nat} {most wait : Int} {L : List Rb} {now : Int} {d : Nat} (h : RefAt base w rp most wait L now d) (hle : L.length ≤ 64) (N : Int) (hE : rE now N = 0) (hw0 : 0 ≤ wait) (hw1 : wait ≤ 1125899906842624) (hnow : 0 ≤ now) (htm : ∀ b ∈ L, 0 ≤ b.at_ ∧ b.at_ ≤ now) (hd : d ≤ 1000000000000) :
    Calls Try.prog 13 #[.pointer (some ⟨rp, 0, none⟩), .int .i64 N] w fun e w' => e = .returned (.int .i64 0) ∧ RefAt base w' rp most wait (keepB L wait N) N (d + (L.length - (keepB L wait N).length)) ∧ Fq base w w' := by
  obtain ⟨lv, h⟩ := h
  rcases h.row.2 with ⟨e, h0⟩ | ⟨g, cap, cur, e, _, hg, k1, k2, k3, k4⟩
  · have ht := h.tab
    rw [e] at ht
    have hnil : L = [] := List.length_eq_zero_iff.1 h0
    subst hnil
    exact pass_none w rp most wait now N d h.hp h.lt.2 ht hE hd
  · have ht := h.tab
    rw [e] at ht
    exact pass_row w rp g cap L.length most wait now N d L rfl hle h.hp h.lt.2 ht ⟨cur, hg, k3, k1, k2, k4⟩ hE hw0 hw1 hnow htm hd
end Go.Proofs.Ytgdjcoodjdckkaa
