/- For every packet and number the law FragLeast answers true: fewer parts would not do. No conditions. -/
import Derived.Test.YtiedfdnjnjohdaaRows
import Derived.Test.YtiedfdnjnjohdaaSq
import Derived.Test.YtiedfdnjnjohdaaPo
import Derived.WalkKit
import Derived.Deep.RegionHeld3
import Derived.StillTailTactics
import Derived.ProofKit
import Derived.OpenShut
import Derived.ShutString
import Derived.ChangeOld
import Derived.Below
namespace Go.Proofs.Ytiedfdnjnjohdaa
open Go.ChangeShapes Go.WideShapes Go.ChangeAt Go.RowKit
open Go.ChangeMaps (open_string shut_string)
set_option linter.unusedVariables false

theorem fragLeast_own : ownKnob Try.prog.godebug = none := by kernel_rfl
theorem fragLeast_laid : laidOutB Try.prog = true := by kernel_rfl


open Go.Proofs.PitotFrag
open Go.Proofs.Ytiedfdnjnjohdaa.Bi (lies_lt lies_cell lies_frozen lies_alloc)
set_option maxRecDepth 100000 in
set_option maxHeartbeats 4000000 in
theorem least_cells {w : World} {base g n cap m : Nat} {p : Pk} (h : w.ownsRow base 31 14 (.slice (some ⟨g, 0, none⟩) n cap) n (flatP (spl p m))) (h1 : 25 ≤ m) :
    (∀ k, k < cnt p.s.size m (m / 8 * 8) → ∃ S : ByteArray, w.cell? ⟨g, k * 14 + 13, none⟩ = some (.string S) ∧ S.size = m / 8 * 8) ∧
    ∃ S : ByteArray, w.cell? ⟨g, cnt p.s.size m (m / 8 * 8) * 14 + 13, none⟩ = some (.string S) ∧ S.size ≤ m ∧ ∀ c, cnt p.s.size m (m / 8 * 8) = c + 1 → m < m / 8 * 8 + S.size := by
  have hl := spl_length p m
  refine ⟨fun k hk => ?_, ?_⟩
  · have h3 := row_get h k (by rw [hl, cn]; omega)
    rw [spl_part p m k hk] at h3
    obtain ⟨_, _, _, _, _, _, _, _, _, _, _, _, _, h13⟩ := h3
    exact ⟨_, h13, part_size p m k h1 hk⟩
  · have h3 := row_get h (cnt p.s.size m (m / 8 * 8)) (by rw [hl, cn]; omega)
    rw [spl_last p m] at h3
    obtain ⟨_, _, _, _, _, _, _, _, _, _, _, _, _, h13⟩ := h3
    exact ⟨_, h13, rest_size p m h1, fun c hc => by rw [hc]; exact rest_two p m c h1 hc⟩

theorem fragLeast_no (p : Pk) (x E : Int) (he : ¬ E = 0) (h14 : ∀ w, Calls Try.prog 14 #[p.val, .int .i64 x] w fun e w' => e = .returned (noParts E) ∧ Below w.heap.size w w') (w : World) :
    Calls Try.prog 7 #[p.val, .int .i64 x] w fun e w' => e = .returned (.bool true) ∧ Below w.heap.size w w' := by
  obtain ⟨id, mo, off, ttl, pr, a, b, s⟩ := p
  have H14 := Lib.hid h14; clear h14
  have he0 : (E != 0) = true := by simpa using he
  have kb : Hid (Below w.heap.size w (w.alloc (pkC id mo off ttl pr a b s))) := (Below.refl _ w).alloc (Nat.le_refl _) _
  go_enter Try.func7, Try.ntmps7
  go_wp2_with (first
    | (go_at_call 14; (with_reducible refine (H14.out _).mono ?_); rintro r w1 ⟨rfl, hb1⟩)
    | (go_at_call 13; (with_reducible refine (awake_any _).mono ?_); rintro r w2 ⟨rfl, hb2⟩))
  go_returns
  have k1 := kb.out.trans (hb1.mono kb.out.size)
  exact ⟨rfl, k1.trans (hb2.mono k1.size)⟩

set_option maxRecDepth 100000 in
set_option maxHeartbeats 4000000 in
theorem fragLeast_ok (p : Pk) (m : Nat) (h1 : 25 ≤ m) (hm : m ≤ 1479) (hmo : p.m = false) (ho : p.off = 0) (hs : p.s.size ≤ 65515) (w : World) :
    Calls Try.prog 7 #[p.val, .int .i64 (m + 39)] w fun e w' => e = .returned (.bool true) ∧ Below w.heap.size w w' := by
  have H14 := Lib.hid (fun w => split_ok p m h1 hm hmo ho hs w)
  have hpart := fun k (hk : k < cnt p.s.size m (m / 8 * 8)) => part_size p m k h1 hk
  have hlast := rest_size p m h1
  have htwo := fun n (hn : cnt p.s.size m (m / 8 * 8) = n + 1) => rest_two p m n h1 hn
  have gpart := fun k (hk : k < cnt p.s.size m (m / 8 * 8)) => spl_part p m k hk (by rw [spl_length, cn]; omega)
  have glast := spl_last p m (by rw [spl_length, cn]; omega)
  have hlen := spl_length p m
  have H9 := room_ok m h1 hm
  obtain ⟨id, mo, off, ttl, pr, a, b, s⟩ := p
  simp only at hmo ho hs
  subst hmo ho
  have kb : Hid (Below w.heap.size w (w.alloc (pkC id false 0 ttl pr a b s))) := (Below.refl _ w).alloc (Nat.le_refl _) _
  by_cases hbig : 20000 < s.size
  · clear hpart hlast htwo gpart glast hlen H9
    go_enter Try.func7, Try.ntmps7
    go_wp2_with (first
      | (go_at_call 14; (with_reducible refine (H14.out _).mono ?_); rintro r w1 ⟨g, cap, rfl, hown, hb1⟩
         (have L1 := lies_below (heap_alloc_new w (pkC id false 0 ttl pr a b s)) hb1 (by simp))
         (have c13 : w1.cell? ⟨w.heap.size, 13, none⟩ = some (.string s) := lies_cell L1 13)
         (clear L1))
      | (go_at_call 13; (with_reducible refine (awake_any _).mono ?_); rintro r w2 ⟨rfl, hb2⟩))
    go_returns
    have k1 := kb.out.trans (hb1.mono kb.out.size)
    exact ⟨rfl, k1.trans (hb2.mono k1.size)⟩
  · have eA : decide (20000 < (s.size : Int)) = false := decide_eq_false (by omega)
    clear hpart hlast htwo gpart glast hlen
    have HCL := fun (w1 : World) (g cap : Nat) (h : w1.ownsRow (w.heap.size + 1) 31 14 (.slice (some ⟨g, 0, none⟩) (cn s.size m) cap) (cn s.size m) (flatP (spl ⟨id, false, 0, ttl, pr, a, b, s⟩ m))) => least_cells (p := ⟨id, false, 0, ttl, pr, a, b, s⟩) h h1
    have hcn : cn s.size m = cnt s.size m (m / 8 * 8) + 1 := rfl
    simp only at H14 HCL
    rw [hcn] at HCL
    have H14 := H14.out
    simp only [hcn] at H14
    clear hcn
    have hC2 : cnt s.size m (m / 8 * 8) ≤ 65515 := by
      have h3 := cnt_mul_le (l := s.size) (m := m) (show 0 < m / 8 * 8 by omega) (by omega)
      have : cnt s.size m (m / 8 * 8) * 1 ≤ cnt s.size m (m / 8 * 8) * (m / 8 * 8) := Nat.mul_le_mul_left _ (by omega)
      omega
    generalize cnt s.size m (m / 8 * 8) = C at H14 HCL hC2
    generalize spl ⟨id, false, 0, ttl, pr, a, b, s⟩ m = LS at H14 HCL
    obtain ⟨R, hR⟩ : ∃ R, R = m / 8 * 8 := ⟨_, rfl⟩
    rw [← hR] at H9 HCL
    have hq8 : (R : Int) % 8 = 0 := by omega
    have eB : ((R : Int) % 8 != 0) = false := by simp [hq8]
    have eC : decide ((R : Int) < 24) = false := decide_eq_false (by omega)
    have eD : decide ((m : Int) < (R : Int)) = false := decide_eq_false (by omega)
    have eE : decide ((R : Int) + 8 ≤ (m : Int)) = false := decide_eq_false (by omega)
    have eD2 : decide (m < R) = false := decide_eq_false (by omega)
    have eE2 : decide (R + 8 ≤ m) = false := decide_eq_false (by omega)
    have r1 : R ≤ 1479 := by omega
    have r2 : R ≤ m := by omega
    have r3 : 24 ≤ R := by omega
    have r4 : m < R + 8 := by omega
    clear hR
    obtain ⟨n, hn⟩ : ∃ n, n = C + 1 := ⟨_, rfl⟩
    rw [← hn] at H14 HCL
    have H14 := Lib.hid H14; have H9 := Lib.hid H9; have HCL := Lib.hid HCL
    have z1 : (n : Int) - 1 = (C : Int) := by omega
    have i1 : (C : Int) < (n : Int) := by omega
    have i1' : C < n := by omega
    have n0 : ((n : Int) == 0) = false := by simp; omega
    have hn2 : n ≤ 65516 := by omega
    have n0' : 0 < n := by omega
    have y0 : IntKind.i64.wrap (m : Int) = (m : Int) := IntWalk.i64_in _ (by omega)
    have y1 : IntKind.i64.wrap (C : Int) = (C : Int) := IntWalk.i64_in _ (by omega)
    have HN := Lib.hid hn
    clear hn
    go_enter Try.func7, Try.ntmps7
    go_wp2_with (first
      | (go_at_call 14; (with_reducible refine (H14.out _).mono ?_); rintro r w1 ⟨g, cap, rfl, hown, hb1⟩
         (have L1 := lies_below (heap_alloc_new w (pkC id false 0 ttl pr a b s)) hb1 (by simp))
         (have c13 : w1.cell? ⟨w.heap.size, 13, none⟩ = some (.string s) := lies_cell L1 13)
         (obtain ⟨HP, S2, hS2, hS2a, hS2b⟩ := HCL.out w1 g cap (by simpa using hown))
         (have HP := Lib.hid HP)
         (have gl : Hid (g < w1.heap.size) := by (obtain ⟨g', cap', hv', _, hg'⟩ := hown.form (by omega)); cases hv'; exact hg')
         (have hS2b := Lib.hid hS2b)
         (have k1 := Lib.hid (kb.out.trans (hb1.mono kb.out.size)))
         (clear L1 hown))
      | (go_at_call 9; (with_reducible refine (H9.out _).mono ?_); rintro r w2 ⟨rfl, rfl⟩))
    go_loop [9] (fun v9 => ∃ k : Nat, k ≤ C ∧ v9 = .int .i64 k) (fun v9 => C - (intOf v9).toNat)
    case atStart => exact ⟨0, by omega, rfl⟩
    case round =>
      obtain ⟨k, hk, rfl⟩ := hrel
      by_cases hlt : k < C
      · obtain ⟨S, hS, hSs⟩ := HP.out k hlt
        have e1 : (k : Int) + 1 < (n : Int) := by have := HN.out; omega
        have e2 : k + 1 < n := by have := HN.out; omega
        go_wp2
        go_round
        case rel => exact ⟨k + 1, by omega, by go_num⟩
        case measure => simp [intOf]; omega
      · obtain rfl : k = C := by omega
        have e1 : ¬ (k : Int) + 1 < (n : Int) := by have := HN.out; omega
        have e2 : ¬ k + 1 < n := by have := HN.out; omega
        have eH : decide ((S2.size : Int) ≤ (m : Int)) = true := decide_eq_true (by omega)
        have eH2 : decide (S2.size ≤ m) = true := decide_eq_true (by omega)
        have D2 : Hid (w1.drew.cell? ⟨g, k * 14 + 13, none⟩ = some (.string S2)) := hS2
        rcases Nat.eq_zero_or_pos k with hC0 | hC0
        · have eF : ((n : Int) == 1) = true := by have := HN.out; simp; omega
          clear hlt eA eB eC eD eE eD2 eE2 hS2 hC0
          go_upto_region 13 with fail
          refine wp_region_held_drew (S := fun w' => w'.cell? ⟨g, k * 14 + 13, none⟩ = some (.string S2)) (by kernel_rfl) ?_ (fun hHeld => ?_)
          · exact D2.out
          refine wpAnyH_take (i := 0) (oi := { dst := some 77, op := Go.Op.move (Go.Operand.tmp 10), type := 3, pos := "law.go:116", after := #[], guard := none }) (v := ?_) rfl (by kernel_rfl) (by kernel_rfl) (by kernel_rfl) (fun _ _ _ h => h) (Or.inl ⟨by rfl, ?_⟩) (by assumption) ?_
          rotate_left
          focus ((intro w hSw; (try dsimp only at hSw); go_simp) <;> (with_reducible rfl))
          try simp only [Act.put, List.setIfInBounds_toArray, List.set_cons_zero, List.set_cons_succ]
          refine wpAnyH_take (i := 1) (oi := { dst := some 78, op := Go.Op.binOp Go.BinOp.eql 3 (Go.Operand.tmp 77) (Go.Operand.const (Go.Value.int Go.IntKind.i64 1)) 3, type := 4, pos := "law.go:116", after := #[{ on := 0, ground := Go.Ground.data }], guard := none }) (v := ?_) rfl (by kernel_rfl) (by kernel_rfl) (by kernel_rfl) (fun _ _ _ h => h) (Or.inl ⟨by rfl, ?_⟩) (by assumption) ?_
          rotate_left
          focus ((intro w hSw; (try dsimp only at hSw); go_simp) <;> (with_reducible rfl))
          try simp only [Act.put, List.setIfInBounds_toArray, List.set_cons_zero, List.set_cons_succ]
          refine wpAnyH_take (i := 2) (oi := { dst := some 79, op := Go.Op.move (Go.Operand.tmp 78), type := 4, pos := "law.go:116", after := #[{ on := 1, ground := Go.Ground.data }], guard := none }) (v := ?_) rfl (by kernel_rfl) (by kernel_rfl) (by kernel_rfl) (fun _ _ _ h => h) (Or.inl ⟨by rfl, ?_⟩) (by assumption) ?_
          rotate_left
          focus ((intro w hSw; (try dsimp only at hSw); go_simp) <;> (with_reducible rfl))
          try simp only [Act.put, List.setIfInBounds_toArray, List.set_cons_zero, List.set_cons_succ]
          refine wpAnyH_take (i := 3) (oi := { dst := some 80, op := Go.Op.move (Go.Operand.tmp 5), type := 32, pos := "law.go:116", after := #[{ on := 2, ground := Go.Ground.guard }], guard := some (2, false) }) (v := undef) rfl (by kernel_rfl) (by kernel_rfl) (by kernel_rfl) (fun _ _ _ h => h) (Or.inr ⟨by rfl, rfl⟩) (by assumption) ?_
          try simp only [Act.put, List.setIfInBounds_toArray, List.set_cons_zero, List.set_cons_succ]
          refine wpAnyH_take (i := 4) (oi := { dst := some 81, op := Go.Op.move (Go.Operand.tmp 10), type := 3, pos := "law.go:116", after := #[{ on := 2, ground := Go.Ground.guard }], guard := some (2, false) }) (v := undef) rfl (by kernel_rfl) (by kernel_rfl) (by kernel_rfl) (fun _ _ _ h => h) (Or.inr ⟨by rfl, rfl⟩) (by assumption) ?_
          try simp only [Act.put, List.setIfInBounds_toArray, List.set_cons_zero, List.set_cons_succ]
          refine wpAnyH_take (i := 5) (oi := { dst := some 82, op := Go.Op.binOp Go.BinOp.sub 3 (Go.Operand.tmp 81) (Go.Operand.const (Go.Value.int Go.IntKind.i64 2)) 3, type := 3, pos := "law.go:116", after := #[{ on := 4, ground := Go.Ground.data }, { on := 2, ground := Go.Ground.guard }], guard := some (2, false) }) (v := undef) rfl (by kernel_rfl) (by kernel_rfl) (by kernel_rfl) (fun _ _ _ h => h) (Or.inr ⟨by rfl, rfl⟩) (by assumption) ?_
          try simp only [Act.put, List.setIfInBounds_toArray, List.set_cons_zero, List.set_cons_succ]
          refine wpAnyH_take (i := 6) (oi := { dst := some 83, op := Go.Op.indexAddr 32 (Go.Operand.tmp 80) (Go.Operand.tmp 82), type := 0, pos := "law.go:116", after := #[{ on := 3, ground := Go.Ground.data }, { on := 5, ground := Go.Ground.data }, { on := 2, ground := Go.Ground.guard }], guard := some (2, false) }) (v := undef) rfl (by kernel_rfl) (by kernel_rfl) (by kernel_rfl) (fun _ _ _ h => h) (Or.inr ⟨by rfl, rfl⟩) (by assumption) ?_
          try simp only [Act.put, List.setIfInBounds_toArray, List.set_cons_zero, List.set_cons_succ]
          refine wpAnyH_take (i := 7) (oi := { dst := some 84, op := Go.Op.fieldAddr 31 (Go.Operand.tmp 83) 7, type := 0, pos := "law.go:116", after := #[{ on := 6, ground := Go.Ground.data }, { on := 2, ground := Go.Ground.guard }], guard := some (2, false) }) (v := undef) rfl (by kernel_rfl) (by kernel_rfl) (by kernel_rfl) (fun _ _ _ h => h) (Or.inr ⟨by rfl, rfl⟩) (by assumption) ?_
          try simp only [Act.put, List.setIfInBounds_toArray, List.set_cons_zero, List.set_cons_succ]
          refine wpAnyH_take (i := 8) (oi := { dst := some 85, op := Go.Op.load 9 (Go.Operand.tmp 84), type := 9, pos := "law.go:116", after := #[{ on := 7, ground := Go.Ground.data }, { on := 2, ground := Go.Ground.guard }], guard := some (2, false) }) (v := undef) rfl (by kernel_rfl) (by kernel_rfl) (by kernel_rfl) (fun _ _ _ h => h) (Or.inr ⟨by rfl, rfl⟩) (by assumption) ?_
          try simp only [Act.put, List.setIfInBounds_toArray, List.set_cons_zero, List.set_cons_succ]
          refine wpAnyH_take (i := 9) (oi := { dst := some 86, op := Go.Op.call { callee := Go.Callee.builtin Go.Builtin.len, args := #[Go.Operand.tmp 85], argTypes := #[9] }, type := 3, pos := "law.go:116", after := #[{ on := 8, ground := Go.Ground.data }, { on := 2, ground := Go.Ground.guard }], guard := some (2, false) }) (v := undef) rfl (by kernel_rfl) (by kernel_rfl) (by kernel_rfl) (fun _ _ _ h => h) (Or.inr ⟨by rfl, rfl⟩) (by assumption) ?_
          try simp only [Act.put, List.setIfInBounds_toArray, List.set_cons_zero, List.set_cons_succ]
          refine wpAnyH_take (i := 10) (oi := { dst := some 87, op := Go.Op.move (Go.Operand.tmp 5), type := 32, pos := "law.go:116", after := #[{ on := 2, ground := Go.Ground.guard }], guard := some (2, false) }) (v := undef) rfl (by kernel_rfl) (by kernel_rfl) (by kernel_rfl) (fun _ _ _ h => h) (Or.inr ⟨by rfl, rfl⟩) (by assumption) ?_
          try simp only [Act.put, List.setIfInBounds_toArray, List.set_cons_zero, List.set_cons_succ]
          refine wpAnyH_take (i := 11) (oi := { dst := some 88, op := Go.Op.move (Go.Operand.tmp 10), type := 3, pos := "law.go:116", after := #[{ on := 2, ground := Go.Ground.guard }], guard := some (2, false) }) (v := undef) rfl (by kernel_rfl) (by kernel_rfl) (by kernel_rfl) (fun _ _ _ h => h) (Or.inr ⟨by rfl, rfl⟩) (by assumption) ?_
          try simp only [Act.put, List.setIfInBounds_toArray, List.set_cons_zero, List.set_cons_succ]
          refine wpAnyH_take (i := 12) (oi := { dst := some 89, op := Go.Op.binOp Go.BinOp.sub 3 (Go.Operand.tmp 88) (Go.Operand.const (Go.Value.int Go.IntKind.i64 1)) 3, type := 3, pos := "law.go:116", after := #[{ on := 11, ground := Go.Ground.data }, { on := 2, ground := Go.Ground.guard }], guard := some (2, false) }) (v := undef) rfl (by kernel_rfl) (by kernel_rfl) (by kernel_rfl) (fun _ _ _ h => h) (Or.inr ⟨by rfl, rfl⟩) (by assumption) ?_
          try simp only [Act.put, List.setIfInBounds_toArray, List.set_cons_zero, List.set_cons_succ]
          refine wpAnyH_take (i := 13) (oi := { dst := some 90, op := Go.Op.indexAddr 32 (Go.Operand.tmp 87) (Go.Operand.tmp 89), type := 0, pos := "law.go:116", after := #[{ on := 10, ground := Go.Ground.data }, { on := 12, ground := Go.Ground.data }, { on := 2, ground := Go.Ground.guard }], guard := some (2, false) }) (v := undef) rfl (by kernel_rfl) (by kernel_rfl) (by kernel_rfl) (fun _ _ _ h => h) (Or.inr ⟨by rfl, rfl⟩) (by assumption) ?_
          try simp only [Act.put, List.setIfInBounds_toArray, List.set_cons_zero, List.set_cons_succ]
          refine wpAnyH_take (i := 14) (oi := { dst := some 91, op := Go.Op.fieldAddr 31 (Go.Operand.tmp 90) 7, type := 0, pos := "law.go:116", after := #[{ on := 13, ground := Go.Ground.data }, { on := 2, ground := Go.Ground.guard }], guard := some (2, false) }) (v := undef) rfl (by kernel_rfl) (by kernel_rfl) (by kernel_rfl) (fun _ _ _ h => h) (Or.inr ⟨by rfl, rfl⟩) (by assumption) ?_
          try simp only [Act.put, List.setIfInBounds_toArray, List.set_cons_zero, List.set_cons_succ]
          refine wpAnyH_take (i := 15) (oi := { dst := some 92, op := Go.Op.load 9 (Go.Operand.tmp 91), type := 9, pos := "law.go:116", after := #[{ on := 14, ground := Go.Ground.data }, { on := 2, ground := Go.Ground.guard }], guard := some (2, false) }) (v := undef) rfl (by kernel_rfl) (by kernel_rfl) (by kernel_rfl) (fun _ _ _ h => h) (Or.inr ⟨by rfl, rfl⟩) (by assumption) ?_
          try simp only [Act.put, List.setIfInBounds_toArray, List.set_cons_zero, List.set_cons_succ]
          refine wpAnyH_take (i := 16) (oi := { dst := some 93, op := Go.Op.call { callee := Go.Callee.builtin Go.Builtin.len, args := #[Go.Operand.tmp 92], argTypes := #[9] }, type := 3, pos := "law.go:116", after := #[{ on := 15, ground := Go.Ground.data }, { on := 2, ground := Go.Ground.guard }], guard := some (2, false) }) (v := undef) rfl (by kernel_rfl) (by kernel_rfl) (by kernel_rfl) (fun _ _ _ h => h) (Or.inr ⟨by rfl, rfl⟩) (by assumption) ?_
          try simp only [Act.put, List.setIfInBounds_toArray, List.set_cons_zero, List.set_cons_succ]
          refine wpAnyH_take (i := 17) (oi := { dst := some 94, op := Go.Op.binOp Go.BinOp.add 3 (Go.Operand.tmp 86) (Go.Operand.tmp 93) 3, type := 3, pos := "law.go:116", after := #[{ on := 9, ground := Go.Ground.data }, { on := 16, ground := Go.Ground.data }, { on := 2, ground := Go.Ground.guard }], guard := some (2, false) }) (v := undef) rfl (by kernel_rfl) (by kernel_rfl) (by kernel_rfl) (fun _ _ _ h => h) (Or.inr ⟨by rfl, rfl⟩) (by assumption) ?_
          try simp only [Act.put, List.setIfInBounds_toArray, List.set_cons_zero, List.set_cons_succ]
          refine wpAnyH_take (i := 18) (oi := { dst := some 95, op := Go.Op.move (Go.Operand.tmp 1), type := 3, pos := "law.go:116", after := #[{ on := 2, ground := Go.Ground.guard }], guard := some (2, false) }) (v := undef) rfl (by kernel_rfl) (by kernel_rfl) (by kernel_rfl) (fun _ _ _ h => h) (Or.inr ⟨by rfl, rfl⟩) (by assumption) ?_
          try simp only [Act.put, List.setIfInBounds_toArray, List.set_cons_zero, List.set_cons_succ]
          refine wpAnyH_take (i := 19) (oi := { dst := some 96, op := Go.Op.binOp Go.BinOp.sub 3 (Go.Operand.tmp 95) (Go.Operand.const (Go.Value.int Go.IntKind.i64 39)) 3, type := 3, pos := "law.go:116", after := #[{ on := 18, ground := Go.Ground.data }, { on := 2, ground := Go.Ground.guard }], guard := some (2, false) }) (v := undef) rfl (by kernel_rfl) (by kernel_rfl) (by kernel_rfl) (fun _ _ _ h => h) (Or.inr ⟨by rfl, rfl⟩) (by assumption) ?_
          try simp only [Act.put, List.setIfInBounds_toArray, List.set_cons_zero, List.set_cons_succ]
          refine wpAnyH_take (i := 20) (oi := { dst := some 97, op := Go.Op.binOp Go.BinOp.gtr 3 (Go.Operand.tmp 94) (Go.Operand.tmp 96) 3, type := 4, pos := "law.go:116", after := #[{ on := 17, ground := Go.Ground.data }, { on := 19, ground := Go.Ground.data }, { on := 2, ground := Go.Ground.guard }], guard := some (2, false) }) (v := undef) rfl (by kernel_rfl) (by kernel_rfl) (by kernel_rfl) (fun _ _ _ h => h) (Or.inr ⟨by rfl, rfl⟩) (by assumption) ?_
          try simp only [Act.put, List.setIfInBounds_toArray, List.set_cons_zero, List.set_cons_succ]
          refine wpAnyH_take (i := 21) (oi := { dst := some 98, op := Go.Op.pick (Go.Operand.tmp 79) (Go.Operand.const (Go.Value.bool true)) (Go.Operand.tmp 97), type := 4, pos := "law.go:116", after := #[{ on := 2, ground := Go.Ground.data }, { on := 20, ground := Go.Ground.data }], guard := none }) (v := ?_) rfl (by kernel_rfl) (by kernel_rfl) (by kernel_rfl) (fun _ _ _ h => h) (Or.inl ⟨by rfl, ?_⟩) (by assumption) ?_
          rotate_left
          focus ((intro w hSw; (try dsimp only at hSw); go_simp) <;> (with_reducible rfl))
          try simp only [Act.put, List.setIfInBounds_toArray, List.set_cons_zero, List.set_cons_succ]
          refine wpAnyH_take (i := 22) (oi := { dst := some 99, op := Go.Op.move (Go.Operand.tmp 98), type := 4, pos := "law.go:116", after := #[{ on := 21, ground := Go.Ground.data }, { on := 2, ground := Go.Ground.chain }], guard := none }) (v := ?_) rfl (by kernel_rfl) (by kernel_rfl) (by kernel_rfl) (fun _ _ _ h => h) (Or.inl ⟨by rfl, ?_⟩) (by assumption) ?_
          rotate_left
          focus ((intro w hSw; (try dsimp only at hSw); go_simp) <;> (with_reducible rfl))
          try simp only [Act.put, List.setIfInBounds_toArray, List.set_cons_zero, List.set_cons_succ]
          refine wpAnyH_take (i := 23) (oi := { dst := some 100, op := Go.Op.move (Go.Operand.tmp 5), type := 32, pos := "law.go:116", after := #[{ on := 22, ground := Go.Ground.guard }], guard := some (22, true) }) (v := ?_) rfl (by kernel_rfl) (by kernel_rfl) (by kernel_rfl) (fun _ _ _ h => h) (Or.inl ⟨by rfl, ?_⟩) (by assumption) ?_
          rotate_left
          focus ((intro w hSw; (try dsimp only at hSw); go_simp) <;> (with_reducible rfl))
          try simp only [Act.put, List.setIfInBounds_toArray, List.set_cons_zero, List.set_cons_succ]
          refine wpAnyH_take (i := 24) (oi := { dst := some 101, op := Go.Op.move (Go.Operand.tmp 10), type := 3, pos := "law.go:116", after := #[{ on := 22, ground := Go.Ground.guard }], guard := some (22, true) }) (v := ?_) rfl (by kernel_rfl) (by kernel_rfl) (by kernel_rfl) (fun _ _ _ h => h) (Or.inl ⟨by rfl, ?_⟩) (by assumption) ?_
          rotate_left
          focus ((intro w hSw; (try dsimp only at hSw); go_simp) <;> (with_reducible rfl))
          try simp only [Act.put, List.setIfInBounds_toArray, List.set_cons_zero, List.set_cons_succ]
          refine wpAnyH_take (i := 25) (oi := { dst := some 102, op := Go.Op.binOp Go.BinOp.sub 3 (Go.Operand.tmp 101) (Go.Operand.const (Go.Value.int Go.IntKind.i64 1)) 3, type := 3, pos := "law.go:116", after := #[{ on := 24, ground := Go.Ground.data }, { on := 22, ground := Go.Ground.guard }], guard := some (22, true) }) (v := ?_) rfl (by kernel_rfl) (by kernel_rfl) (by kernel_rfl) (fun _ _ _ h => h) (Or.inl ⟨by rfl, ?_⟩) (by assumption) ?_
          rotate_left
          focus ((intro w hSw; (try dsimp only at hSw); go_simp) <;> (with_reducible rfl))
          try simp only [Act.put, List.setIfInBounds_toArray, List.set_cons_zero, List.set_cons_succ]
          refine wpAnyH_take (i := 26) (oi := { dst := some 103, op := Go.Op.indexAddr 32 (Go.Operand.tmp 100) (Go.Operand.tmp 102), type := 0, pos := "law.go:116", after := #[{ on := 23, ground := Go.Ground.data }, { on := 25, ground := Go.Ground.data }, { on := 22, ground := Go.Ground.guard }], guard := some (22, true) }) (v := ?_) rfl (by kernel_rfl) (by kernel_rfl) (by kernel_rfl) (fun _ _ _ h => h) (Or.inl ⟨by rfl, ?_⟩) (by assumption) ?_
          rotate_left
          focus ((intro w hSw; (try dsimp only at hSw); go_simp) <;> (with_reducible rfl))
          try simp only [Act.put, List.setIfInBounds_toArray, List.set_cons_zero, List.set_cons_succ]
          refine wpAnyH_take (i := 27) (oi := { dst := some 104, op := Go.Op.fieldAddr 31 (Go.Operand.tmp 103) 7, type := 0, pos := "law.go:116", after := #[{ on := 26, ground := Go.Ground.data }, { on := 22, ground := Go.Ground.guard }], guard := some (22, true) }) (v := ?_) rfl (by kernel_rfl) (by kernel_rfl) (by kernel_rfl) (fun _ _ _ h => h) (Or.inl ⟨by rfl, ?_⟩) (by assumption) ?_
          rotate_left
          focus ((intro w hSw; (try dsimp only at hSw); go_simp) <;> (with_reducible rfl))
          try simp only [Act.put, List.setIfInBounds_toArray, List.set_cons_zero, List.set_cons_succ]
          refine wpAnyH_take (i := 28) (oi := { dst := some 105, op := Go.Op.load 9 (Go.Operand.tmp 104), type := 9, pos := "law.go:116", after := #[{ on := 27, ground := Go.Ground.data }, { on := 22, ground := Go.Ground.guard }], guard := some (22, true) }) (v := ?_) rfl (by kernel_rfl) (by kernel_rfl) (by kernel_rfl) (fun _ _ _ h => h) (Or.inl ⟨by rfl, ?_⟩) (by assumption) ?_
          rotate_left
          focus ((intro w hSw; (try dsimp only at hSw); go_simp) <;> (with_reducible rfl))
          try simp only [Act.put, List.setIfInBounds_toArray, List.set_cons_zero, List.set_cons_succ]
          refine wpAnyH_take (i := 29) (oi := { dst := some 106, op := Go.Op.call { callee := Go.Callee.builtin Go.Builtin.len, args := #[Go.Operand.tmp 105], argTypes := #[9] }, type := 3, pos := "law.go:116", after := #[{ on := 28, ground := Go.Ground.data }, { on := 22, ground := Go.Ground.guard }], guard := some (22, true) }) (v := ?_) rfl (by kernel_rfl) (by kernel_rfl) (by kernel_rfl) (fun _ _ _ h => h) (Or.inl ⟨by rfl, ?_⟩) (by assumption) ?_
          rotate_left
          focus ((intro w hSw; (try dsimp only at hSw); go_simp) <;> (with_reducible rfl))
          try simp only [Act.put, List.setIfInBounds_toArray, List.set_cons_zero, List.set_cons_succ]
          refine wpAnyH_take (i := 30) (oi := { dst := some 107, op := Go.Op.move (Go.Operand.tmp 1), type := 3, pos := "law.go:116", after := #[{ on := 22, ground := Go.Ground.guard }], guard := some (22, true) }) (v := ?_) rfl (by kernel_rfl) (by kernel_rfl) (by kernel_rfl) (fun _ _ _ h => h) (Or.inl ⟨by rfl, ?_⟩) (by assumption) ?_
          rotate_left
          focus ((intro w hSw; (try dsimp only at hSw); go_simp) <;> (with_reducible rfl))
          try simp only [Act.put, List.setIfInBounds_toArray, List.set_cons_zero, List.set_cons_succ]
          refine wpAnyH_take (i := 31) (oi := { dst := some 108, op := Go.Op.binOp Go.BinOp.sub 3 (Go.Operand.tmp 107) (Go.Operand.const (Go.Value.int Go.IntKind.i64 39)) 3, type := 3, pos := "law.go:116", after := #[{ on := 30, ground := Go.Ground.data }, { on := 22, ground := Go.Ground.guard }], guard := some (22, true) }) (v := ?_) rfl (by kernel_rfl) (by kernel_rfl) (by kernel_rfl) (fun _ _ _ h => h) (Or.inl ⟨by rfl, ?_⟩) (by assumption) ?_
          rotate_left
          focus ((intro w hSw; (try dsimp only at hSw); go_simp) <;> (with_reducible rfl))
          try simp only [Act.put, List.setIfInBounds_toArray, List.set_cons_zero, List.set_cons_succ]
          refine wpAnyH_take (i := 32) (oi := { dst := some 109, op := Go.Op.binOp Go.BinOp.leq 3 (Go.Operand.tmp 106) (Go.Operand.tmp 108) 3, type := 4, pos := "law.go:116", after := #[{ on := 29, ground := Go.Ground.data }, { on := 31, ground := Go.Ground.data }, { on := 22, ground := Go.Ground.guard }], guard := some (22, true) }) (v := ?_) rfl (by kernel_rfl) (by kernel_rfl) (by kernel_rfl) (fun _ _ _ h => h) (Or.inl ⟨by rfl, ?_⟩) (by assumption) ?_
          rotate_left
          focus ((intro w hSw; (try dsimp only at hSw); go_simp) <;> (with_reducible rfl))
          try simp only [Act.put, List.setIfInBounds_toArray, List.set_cons_zero, List.set_cons_succ]
          refine wpAnyH_take (i := 33) (oi := { dst := some 110, op := Go.Op.pick (Go.Operand.tmp 99) (Go.Operand.tmp 109) (Go.Operand.const (Go.Value.bool false)), type := 4, pos := "law.go:116", after := #[{ on := 22, ground := Go.Ground.data }, { on := 32, ground := Go.Ground.data }], guard := none }) (v := ?_) rfl (by kernel_rfl) (by kernel_rfl) (by kernel_rfl) (fun _ _ _ h => h) (Or.inl ⟨by rfl, ?_⟩) (by assumption) ?_
          rotate_left
          focus ((intro w hSw; (try dsimp only at hSw); go_simp) <;> (with_reducible rfl))
          try simp only [Act.put, List.setIfInBounds_toArray, List.set_cons_zero, List.set_cons_succ]
          refine wpAnyH_take (i := 34) (oi := { dst := some 111, op := Go.Op.move (Go.Operand.tmp 110), type := 4, pos := "law.go:116", after := #[{ on := 33, ground := Go.Ground.data }, { on := 22, ground := Go.Ground.chain }], guard := none }) (v := ?_) rfl (by kernel_rfl) (by kernel_rfl) (by kernel_rfl) (fun _ _ _ h => h) (Or.inl ⟨by rfl, ?_⟩) (by assumption) ?_
          rotate_left
          focus ((intro w hSw; (try dsimp only at hSw); go_simp) <;> (with_reducible rfl))
          try simp only [Act.put, List.setIfInBounds_toArray, List.set_cons_zero, List.set_cons_succ]
          refine wpAnyH_ready (rs := [35]) (by kernel_rfl) (by simp) ?_
          refine AllReadyH.cons (o := { dst := some 112, op := Go.Op.call { callee := Go.Callee.value (Go.Operand.func 13), args := #[], argTypes := #[] }, type := 4, pos := "law.go:116", after := #[{ on := 34, ground := Go.Ground.chain }, { on := 34, ground := Go.Ground.guard }], guard := some (34, true) }) rfl (fun K hK => ?_) AllReadyH.nil
          go_simp
          go_at_call 13; (with_reducible refine (awake_any _).mono ?_); rintro r w5 ⟨rfl, hb5⟩; go_wp2_with fail
          refine hK.out _ _ ?_ (fun hHeld => ?_)
          · exact (hb5.cell gl.out).trans D2.out
          clear hK K
          try simp only [Act.put, List.setIfInBounds_toArray, List.set_cons_zero, List.set_cons_succ]
          refine wpAnyH_take (i := 36) (oi := { dst := some 113, op := Go.Op.pick (Go.Operand.tmp 111) (Go.Operand.tmp 112) (Go.Operand.const (Go.Value.bool false)), type := 4, pos := "law.go:116", after := #[{ on := 34, ground := Go.Ground.data }, { on := 35, ground := Go.Ground.data }], guard := none }) (v := ?_) rfl (by kernel_rfl) (by kernel_rfl) (by kernel_rfl) (fun _ _ _ h => h) (Or.inl ⟨by rfl, ?_⟩) (by assumption) ?_
          rotate_left
          focus ((intro w hSw; (try dsimp only at hSw); go_simp) <;> (with_reducible rfl))
          try simp only [Act.put, List.setIfInBounds_toArray, List.set_cons_zero, List.set_cons_succ]
          refine wpAnyH_take (i := 37) (oi := { dst := some 4, op := Go.Op.assign (Go.Operand.tmp 113), type := 4, pos := "law.go:116", after := #[{ on := 36, ground := Go.Ground.data }, { on := 35, ground := Go.Ground.chain }, { on := 0, ground := Go.Ground.phase }, { on := 1, ground := Go.Ground.phase }, { on := 2, ground := Go.Ground.phase }, { on := 3, ground := Go.Ground.phase }, { on := 4, ground := Go.Ground.phase }, { on := 5, ground := Go.Ground.phase }, { on := 6, ground := Go.Ground.phase }, { on := 7, ground := Go.Ground.phase }, { on := 8, ground := Go.Ground.phase }, { on := 9, ground := Go.Ground.phase }, { on := 10, ground := Go.Ground.phase }, { on := 11, ground := Go.Ground.phase }, { on := 12, ground := Go.Ground.phase }, { on := 13, ground := Go.Ground.phase }, { on := 14, ground := Go.Ground.phase }, { on := 15, ground := Go.Ground.phase }, { on := 16, ground := Go.Ground.phase }, { on := 17, ground := Go.Ground.phase }, { on := 18, ground := Go.Ground.phase }, { on := 19, ground := Go.Ground.phase }, { on := 20, ground := Go.Ground.phase }, { on := 21, ground := Go.Ground.phase }, { on := 22, ground := Go.Ground.phase }, { on := 23, ground := Go.Ground.phase }, { on := 24, ground := Go.Ground.phase }, { on := 25, ground := Go.Ground.phase }, { on := 26, ground := Go.Ground.phase }, { on := 27, ground := Go.Ground.phase }, { on := 28, ground := Go.Ground.phase }, { on := 29, ground := Go.Ground.phase }, { on := 30, ground := Go.Ground.phase }, { on := 31, ground := Go.Ground.phase }, { on := 32, ground := Go.Ground.phase }, { on := 33, ground := Go.Ground.phase }, { on := 34, ground := Go.Ground.phase }, { on := 35, ground := Go.Ground.phase }, { on := 36, ground := Go.Ground.phase }], guard := none }) (v := ?_) rfl (by kernel_rfl) (by kernel_rfl) (by kernel_rfl) (fun _ _ _ h => h) (Or.inl ⟨by rfl, ?_⟩) (by assumption) ?_
          rotate_left
          focus ((intro w hSw; (try dsimp only at hSw); go_simp) <;> (with_reducible rfl))
          try simp only [Act.put, List.setIfInBounds_toArray, List.set_cons_zero, List.set_cons_succ]
          refine wpAnyH_done (by kernel_rfl) ?_ _
          go_wp2
          go_returns
          exact ⟨rfl, k1.out.drew.trans (hb5.mono k1.out.size)⟩
        · obtain ⟨c, hc⟩ : ∃ c, k = c + 1 := ⟨k - 1, by omega⟩
          obtain ⟨S1, hS1, hS1s⟩ := HP.out c (by omega)
          have hS2c := hS2b.out c hc
          have eF : ((n : Int) == 1) = false := by have := HN.out; simp; omega
          have eG : decide ((m : Int) < (S1.size : Int) + (S2.size : Int)) = true := decide_eq_true (by omega)
          have eG2 : decide (m < S1.size + S2.size) = true := decide_eq_true (by omega)
          have z2 : (n : Int) - 2 = (c : Int) := by have := HN.out; omega
          have i2 : (c : Int) < (n : Int) := by omega
          have i2' : c < n := by omega
          have y2 : IntKind.i64.wrap (c : Int) = (c : Int) := IntWalk.i64_in _ (by omega)
          have s1 : S1.size ≤ 1479 := by omega
          have y3 : IntKind.i64.wrap ((S1.size : Int) + (S2.size : Int)) = (S1.size : Int) + (S2.size : Int) := IntWalk.i64_in _ (by omega)
          have D1 : Hid (w1.drew.cell? ⟨g, c * 14 + 13, none⟩ = some (.string S1)) := hS1
          clear hS1s hS2c hlt eA eB eC eD eE eD2 eE2 hS1 hS2 hc hC0
          go_upto_region 13 with fail
          go_region_held3 (fun w' => w'.cell? ⟨g, c * 14 + 13, none⟩ = some (.string S1) ∧ w'.cell? ⟨g, k * 14 + 13, none⟩ = some (.string S2))
            (first | exact ⟨D1.out, D2.out⟩ | exact ⟨D3.out, D4.out⟩)
            (first
              | (go_at_call 13; (with_reducible refine (awake_any _).mono ?_); rintro r w5 ⟨rfl, hb5⟩
                 (have D3 : Hid (w5.cell? ⟨g, c * 14 + 13, none⟩ = some (.string S1)) := (hb5.cell gl.out).trans D1.out)
                 (have D4 : Hid (w5.cell? ⟨g, k * 14 + 13, none⟩ = some (.string S2)) := (hb5.cell gl.out).trans D2.out)))
          all_goals
            go_wp2
            go_returns
            exact ⟨rfl, k1.out.drew.trans (hb5.mono k1.out.size)⟩

theorem fragLeast_walk (id : Int) (m : Bool) (off ttl pr : Int) (a b : PitotIp.Q4) (s : ByteArray) (_hi : (Lit.int .i64 id).wf = true) (_ho : (Lit.int .i64 off).wf = true) (_ht : (Lit.int .i64 ttl).wf = true) (_hp : (Lit.int .i64 pr).wf = true) (hs : s.size ≤ maxLen) (x : Int) (_hx : (Lit.int .i64 x).wf = true) (w : World) :
    Calls Try.prog 7 #[pk id m off ttl pr a b s, .int .i64 x] w fun e w' => e = .returned (.bool true) ∧ Below w.heap.size w w' := by
  unfold maxLen at hs
  by_cases hx : x < 64 ∨ 1518 < x
  · exact fragLeast_no ⟨id, m, off, ttl, pr, a, b, s⟩ x 1 (by omega) (split_arg _ x hx) w
  · obtain ⟨n, rfl⟩ : ∃ n : Nat, x = n + 39 := ⟨(x - 39).toNat, by omega⟩
    have h1 : 25 ≤ n := by omega
    have h2 : n ≤ 1479 := by omega
    by_cases hf : m = true ∨ off ≠ 0
    · exact fragLeast_no ⟨id, m, off, ttl, pr, a, b, s⟩ _ 15 (by omega) (split_field _ n h1 h2 hf) w
    · have hm0 : m = false := by cases m; rfl; exact absurd (.inl rfl) hf
      have ho0 : off = 0 := Classical.byContradiction fun h => hf (.inr h)
      by_cases hl : 65515 < s.size
      · exact fragLeast_no ⟨id, m, off, ttl, pr, a, b, s⟩ _ 11 (by omega) (split_long _ n h1 h2 hm0 ho0 hl (by show s.size ≤ _; omega)) w
      · exact fragLeast_ok ⟨id, m, off, ttl, pr, a, b, s⟩ n h1 h2 hm0 ho0 (by show s.size ≤ _; omega) w


set_option maxRecDepth 100000 in
theorem fragLeast_lifted (os : Os) (started : os.Started) (H : Type) (enc : TypeId × Value → H) :
    ReturnsInHanded {} Try.checked os 7 .any (Rows.fragLeastSpec.pre6 enc Try.prog Try.f7 Rows.fragLeastRow.domain false) (Rows.fragLeastSpec.post enc Try.prog Try.f7 false true false false) := by
  refine returnsInHanded_of_change (C := Try.checked) fragLeast_own started (by kernel_rfl) Try.func7
    (ChangeSpec.witness6 (enc := enc) (C := Try.checked) false ⟨#[], #[.agg #[.int .i64 0, .bool false, .int .i64 0, .int .i64 0, .int .i64 0, .int .u8 0, .int .u8 0, .int .u8 0, .int .u8 0, .int .u8 0, .int .u8 0, .int .u8 0, .int .u8 0, .string ByteArray.empty], .int .i64 0], []⟩ 8 (by kernel_rfl) (by kernel_rfl) (by kernel_rfl) (by kernel_rfl)) ?_
  intro W base args ds gs before hval0 hW hcnd _
  have hval : ∀ (j : Nat) t v, Try.f7.params[j]? = some t → args[j]? = some v → Value.okWide Try.prog W .any base t v := hval0
  have hW' := hW
  obtain ⟨p, q, hA0, hV, rfl, hfz, hnd⟩ := hW
  have hA : DataW.TrodAll enc Try.prog W 0 (fun _ => true) true Try.f7.params.toList args.toList ds p := hA0
  rw [Try.params7] at hA hval
  obtain ⟨v0, vs0, d0, ds0, p0, q0, hargs, rfl, rfl, h0, r0⟩ := trodAll_cons hA
  obtain ⟨v1, vs1, d1, ds1, p1, q1, rfl, rfl, rfl, h1, r1⟩ := trodAll_cons r0
  obtain ⟨rfl, rfl, rfl⟩ := trodAll_nil r1
  obtain rfl : args = #[v0, v1] := by cases args; simp_all
  obtain ⟨rfl, rfl⟩ := trodVars_none hV
  have k0 := h0
  have lt0 : ∀ x ∈ p0, x.block < W.heap.size := by obtain ⟨m, hm⟩ := k0; exact DataW.trod_lt m _ _ _ hm
  obtain ⟨fu0, hf0⟩ := h0
  obtain ⟨fi0, fm0, fo0, ft0, fp0, fa0, fb0, fs0, gi0, go0, gt0, gp0, gs0, rfl⟩ := packet_open (hval 0 31 v0 rfl rfl) hf0
  obtain ⟨a1, rfl, rfl, rfl, w1⟩ := open_int Try.underlying3 (hval 1 3 v1 rfl rfl) h1
  clear hA0 hval0
  have hwalk := fragLeast_walk fi0 fm0 fo0 ft0 fp0 fa0 fb0 fs0 gi0 go0 gt0 gp0 gs0 a1 w1 W

  refine hwalk.mono fun e W' ⟨he, bel⟩ => ?_
  subst he
  exact ⟨_, rfl, _, _, _, [], _, [], hW', trodAll_mk1 (shut_bool Try.underlying4 _), (trodAll_cons_mk (Below.trod fragLeast_laid (by kernel_rfl) (of_decide_eq_true (by kernel_rfl)) k0 bel lt0) (trodAll_cons_mk (shut_int Try.underlying3 w1) trodAll_mk0)), rfl, bel.frame _, fun h => by cases h⟩

theorem fragLeast_over : Rows.fragLeastRow.holds Try.pinned (OpenSpec.ofChange Rows.fragLeastSpec) :=
  OpenClaim.holds_of_wide 7 Try.f7 rfl rfl rfl rfl rfl rfl rfl ⟨rfl, rfl, rfl, rfl, rfl⟩ rfl rfl rfl rfl rfl (by kernel_rfl) Try.func7 (by kernel_rfl)
    (of_decide_eq_true (by kernel_rfl)) (by unfold Func.isWrapper; first | (rw [if_pos (by decide +kernel)]; kernel_rfl) | (rw [if_neg (by decide +kernel)]; exact ⟨rfl, rfl⟩))
    (fun os started H enc _ => fragLeast_lifted os started H enc)

theorem fragLeast_holds : Rows.FragLeastSaid := fragLeast_over
#print axioms fragLeast_holds
end Go.Proofs.Ytiedfdnjnjohdaa
