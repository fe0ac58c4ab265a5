/- For every string and every place the law BitsParts answers true: bytes may be read in two parts, and numbers of two and four bytes are those of their bytes. No conditions. -/
import Derived.Test.YtbdhneoicfciiaaRows
import Derived.Test.YtbdhneoicfciiaaAwake
import Derived.Test.YtbdhneoicfciiaaRd
import Derived.Deep.RegionHeld3
import Derived.WalkKit
import Derived.ProofKit
import Derived.OpenShut
import Derived.ShutString
import Derived.ChangeOld
import Derived.Below
namespace Go.Proofs.Ytbdhneoicfciiaa
open Go.ChangeShapes Go.WideShapes Go.ChangeAt Go.RowKit
open Go.ChangeMaps (open_string shut_string)
set_option linter.unusedVariables false

theorem bitsParts_own : ownKnob Try.prog.godebug = none := by kernel_rfl

open Go.Proofs.PitotMath

theorem ru2 (r : Nat) (a b : List UInt8) (w : World) (h : RdAt w r (a ++ b) 0) (hn : a.length = 2) (hl : (a ++ b).length ≤ 100000000) :
    Calls Try.prog 19 #[.pointer (some ⟨r, 0, none⟩)] w fun e w' => e = .returned (.int .i64 (num a : Nat)) ∧ RdAt w' r b 0 ∧ w.grownBy w' (some r) := ru_ok 2 (by simp) r a b w h hn hl
theorem ru4 (r : Nat) (a b : List UInt8) (w : World) (h : RdAt w r (a ++ b) 0) (hn : a.length = 4) (hl : (a ++ b).length ≤ 100000000) :
    Calls Try.prog 20 #[.pointer (some ⟨r, 0, none⟩)] w fun e w' => e = .returned (.int .i64 (num a : Nat)) ∧ RdAt w' r b 0 ∧ w.grownBy w' (some r) := ru_ok 4 (by simp) r a b w h hn hl

set_option maxHeartbeats 400000 in
theorem parts_out (s : ByteArray) (n : Int) (hs : s.size ≤ 9223372036854775807) (w : World) (h : 2000 < s.size ∨ n < 0 ∨ (s.size : Int) < n) :
    Calls Try.prog 8 #[.string s, .int .i64 n] w fun e w' => e = .returned (.bool true) ∧ Below w.heap.size w w' := by
  by_cases h1 : 2000 < s.size
  · go_enter Try.func8, Try.ntmps8
    go_wp2_with (go_at_call 10; refine (awake_any _).mono ?_; rintro e w1 ⟨rfl, hb1⟩)
    go_returns
    exact ⟨rfl, hb1⟩
  · by_cases h2 : n < 0
    · go_enter Try.func8, Try.ntmps8
      go_wp2_with (go_at_call 10; refine (awake_any _).mono ?_; rintro e w1 ⟨rfl, hb1⟩)
      go_returns
      exact ⟨rfl, hb1⟩
    · have h3 : (s.size : Int) < n := by omega
      go_enter Try.func8, Try.ntmps8
      go_wp2_with (go_at_call 10; refine (awake_any _).mono ?_; rintro e w1 ⟨rfl, hb1⟩)
      go_returns
      exact ⟨rfl, hb1⟩

theorem num_four (c0 c1 c2 c3 : UInt8) : num [c0, c1, c2, c3] = num [c0, c1] * 65536 + num [c2, c3] ∧ num [c0, c1, c2, c3] = c0.toNat * 16777216 + c1.toNat * 65536 + c2.toNat * 256 + c3.toNat ∧ num [c0, c1] < 65536 ∧ num [c2, c3] < 65536 := by
  have h0 := c0.toNat_lt
  have h1 := c1.toNat_lt
  have h2 := c2.toNat_lt
  have h3 := c3.toNat_lt
  simp only [num, List.foldl_cons, List.foldl_nil]
  omega

theorem list_at {s : ByteArray} {l m : List UInt8} (hs : s = ⟨l.toArray⟩) (hl : l = m) (i : Nat) (h : i < s.size) {c : UInt8} (hc : m[i]? = some c) : s[i]'h = c := by
  subst hl
  subst hs
  have : (⟨l.toArray⟩ : ByteArray)[i]'h = l.toArray[i]'h := rfl
  rw [this]
  simp
  exact (List.getElem?_eq_some_iff.1 hc).2

theorem HX2 (w3 : World) (l m : List UInt8) (e : l = m) : RdAt ((w3.alloc (.cells #[.string ⟨l.toArray⟩, .int .i64 0] 67)).alloc (.cells #[.string ⟨l.toArray⟩, .int .i64 0] 67)) w3.heap.size m 0 := by
  subst e
  exact lies_alloc (heap_alloc_new w3 _) _

set_option maxHeartbeats 4000000 in
theorem parts_in (a b : List UInt8) (s : ByteArray) (hs : s = ⟨(a ++ b).toArray⟩) (n : Nat) (hn : n = a.length) (hl : s.size ≤ 2000) (w : World) :
    Calls Try.prog 8 #[.string s, .int .i64 n] w fun e w' => e = .returned (.bool true) ∧ Below w.heap.size w w' := by
  have hsz : s.size = a.length + b.length := by rw [hs, size_list]; simp
  have HS := Lib.hid hs; clear hs
  have hne : ((a.length : Int) != (n : Int)) = false := by rw [hn]; simp
  have HN := Lib.hid hn; clear hn
  have hns : n ≤ s.size := by rw [hsz, HN.out]; omega
  have hab : ((a ++ b).length) ≤ 100000000 := by simp; omega
  have hab' : a.length + b.length ≤ 100000000 := by omega
  have hcat : ((⟨a.toArray⟩ : ByteArray) ++ (⟨b.toArray⟩ : ByteArray)).toList = s.toList := by
    have : (⟨a.toArray⟩ : ByteArray) ++ (⟨b.toArray⟩ : ByteArray) = s := by rw [HS.out]; apply ByteArray.ext; simp
    rw [this]
  have HSZ := Lib.hid hsz; clear hsz
  have hr0 : ∀ w : World, Calls Try.prog 17 #[.string s] w fun e w' => e = .returned (.pointer (some ⟨w.heap.size, 0, none⟩)) ∧ w' = w.alloc (.cells #[.string ⟨(a ++ b).toArray⟩, .int .i64 0] 67) := by
    rw [HS.out]; exact read_any (a ++ b)
  have HR0 := Lib.hid hr0; clear hr0
  by_cases h4 : s.size < 4
  · go_enter Try.func8, Try.ntmps8
    go_wp2_with (first
      | (go_at_call 17; refine (HR0.out w).mono ?_; rintro e w1 ⟨rfl, rfl⟩; have hA : RdAt (w.alloc (.cells #[.string ⟨(a ++ b).toArray⟩, .int .i64 0] 67)) w.heap.size (a ++ b) 0 := heap_alloc_new w _)
      | (go_at_call 21; refine (rtext_ok w.heap.size a b n _ hA HN.out hab).mono ?_; rintro e w2 ⟨rfl, hB, hg2⟩)
      | (go_at_call 31; refine (rest_ok w.heap.size b w2 hB (by omega)).mono ?_; rintro e w3 ⟨rfl, hC, hg3⟩)
      | (go_at_call 24; refine (left_any w.heap.size [] 0 w3 hC).mono ?_; rintro e w' ⟨rfl, rfl⟩)
      | (go_at_call 25; refine (err_any w.heap.size [] 0 w3 hC).mono ?_; rintro e w' ⟨rfl, rfl⟩)
      | (go_at_call 10; refine (awake_any w3).mono ?_; rintro e w4 ⟨rfl, hb4⟩))
    go_returns
    have k1 : Below w.heap.size w (w.alloc (.cells #[.string ⟨(a ++ b).toArray⟩, .int .i64 0] 67)) := (Below.refl _ _).alloc (Nat.le_refl _) _
    have k2 := k1.grown hg2 k1.size (fun k hk => by cases hk; exact Nat.le_refl _)
    have k3 := k2.grown hg3 k2.size (fun k hk => by cases hk; exact Nat.le_refl _)
    exact ⟨rfl, k3.trans (hb4.mono k3.size)⟩
  · obtain ⟨c0, c1, c2, c3, rest, hc⟩ : ∃ c0 c1 c2 c3 rest, a ++ b = c0 :: c1 :: c2 :: c3 :: rest := by
      have : 4 ≤ (a ++ b).length := by have := HSZ.out; simp; omega
      match hh : a ++ b, this with
      | c0 :: c1 :: c2 :: c3 :: rest, _ => exact ⟨c0, c1, c2, c3, rest, rfl⟩
    have e4 : a ++ b = [c0, c1, c2, c3] ++ rest := hc
    have e2 : a ++ b = [c0, c1] ++ ([c2, c3] ++ rest) := hc
    obtain ⟨f1, f2, f3, f4⟩ := num_four c0 c1 c2 c3
    have HC := Lib.hid hc; clear hc
    have E4 := Lib.hid e4; clear e4
    have E2 := Lib.hid e2; clear e2
    obtain ⟨N4, HN4⟩ : ∃ N4, Hid (N4 = num [c0, c1, c2, c3]) := ⟨_, rfl⟩
    obtain ⟨U, HU⟩ : ∃ U, Hid (U = num [c0, c1]) := ⟨_, rfl⟩
    obtain ⟨V, HV⟩ : ∃ V, Hid (V = num [c2, c3]) := ⟨_, rfl⟩
    rw [← HN4.out] at f1 f2
    rw [← HU.out] at f1 f3
    rw [← HV.out] at f1 f4
    have F1 := Lib.hid f1; clear f1
    have F2 := Lib.hid f2; clear f2
    go_enter Try.func8, Try.ntmps8
    go_wp2_with (first
      | (go_at_call 17; (with_reducible refine (HR0.out w).mono ?_); rintro e w1 ⟨rfl, rfl⟩; have hA : RdAt (w.alloc (.cells #[.string ⟨(a ++ b).toArray⟩, .int .i64 0] 67)) w.heap.size (a ++ b) 0 := heap_alloc_new w _)
      | (go_at_call 21; refine (rtext_ok w.heap.size a b n _ hA HN.out hab).mono ?_; rintro e w2 ⟨rfl, hB, hg2⟩)
      | (go_at_call 31; refine (rest_ok w.heap.size b w2 hB (by omega)).mono ?_; rintro e w3 ⟨rfl, hC, hg3⟩)
      | (go_at_call 24; refine (left_any w.heap.size [] 0 w3 hC).mono ?_; rintro e w' ⟨rfl, rfl⟩)
      | (go_at_call 25; refine (err_any w.heap.size [] 0 w3 hC).mono ?_; rintro e w' ⟨rfl, rfl⟩)
      | (go_at_call 17; (with_reducible refine (HR0.out w3).mono ?_); rintro e w4 ⟨rfl, rfl⟩; have hX : RdAt (w3.alloc (.cells #[.string ⟨(a ++ b).toArray⟩, .int .i64 0] 67)) w3.heap.size (a ++ b) 0 := heap_alloc_new w3 _)
      | (go_at_call 17; (with_reducible refine (HR0.out _).mono ?_); rintro e w5 ⟨rfl, rfl⟩)
      | (go_at_call 20; refine (ru4 w3.heap.size [c0, c1, c2, c3] rest _ (HX2 w3 _ _ E4.out) rfl (by have := hab; rw [E4.out] at this; exact this)).mono ?_; rintro e w6 ⟨rfl, hX6, hg6⟩; rw [← HN4.out]))
    have hY6 : RdAt w6 (w3.heap.size + 1) ([c0, c1] ++ ([c2, c3] ++ rest)) 0 := by
      unfold RdAt
      rw [hg6.block (w3.heap.size + 1) (by simp) (by simp), ← E2.out]
      have := heap_alloc_new (w3.alloc (.cells #[.string ⟨(a ++ b).toArray⟩, .int .i64 0] 67)) (.cells #[.string ⟨(a ++ b).toArray⟩, .int .i64 0] 67)
      simpa using this
    have k1 : Below w.heap.size w (w.alloc (.cells #[.string ⟨(a ++ b).toArray⟩, .int .i64 0] 67)) := (Below.refl _ _).alloc (Nat.le_refl _) _
    have k2 := k1.grown hg2 k1.size (fun k hk => by cases hk; exact Nat.le_refl _)
    have k3 := k2.grown hg3 k2.size (fun k hk => by cases hk; exact Nat.le_refl _)
    have k5 := (k3.alloc k3.size (.cells #[.string ⟨(a ++ b).toArray⟩, .int .i64 0] 67)).alloc (by simp; have := k3.size; omega) (.cells #[.string ⟨(a ++ b).toArray⟩, .int .i64 0] 67)
    have k6 := k5.grown hg6 k5.size (fun k hk => by cases hk; exact k3.size)
    have hlt6 : w3.heap.size + 1 < w6.heap.size := by have := hg6.size; simp at this; omega
    have k3s := k3.size
    generalize w3.heap.size = q at *
    clear k1 k2 k3 k5 hg6 hg3 hg2 hA hB hC hX6
    have hL2 : ([c0, c1] ++ ([c2, c3] ++ rest)).length ≤ 100000000 := by have := hab; rw [E2.out] at this; exact this
    have hl0 : (0 : Int) < (s.size : Int) := by omega
    have m0 : 0 < s.size := by omega
    have m1 : 1 < s.size := by omega
    have m2 : 2 < s.size := by omega
    have m3 : 3 < s.size := by omega
    have hl1 : (1 : Int) < (s.size : Int) := by omega
    have hl2 : (2 : Int) < (s.size : Int) := by omega
    have hl3 : (3 : Int) < (s.size : Int) := by omega
    have hY7 : RdAt w6.drew (q + 1) ([c0, c1] ++ ([c2, c3] ++ rest)) 0 := hY6
    have b0 : s[0]'(by omega) = c0 := list_at HS.out HC.out 0 _ rfl
    have b1 : s[1]'(by omega) = c1 := list_at HS.out HC.out 1 _ rfl
    have b2 : s[2]'(by omega) = c2 := list_at HS.out HC.out 2 _ rfl
    have b3 : s[3]'(by omega) = c3 := list_at HS.out HC.out 3 _ rfl
    have t0 := c0.toNat_lt
    have t1 := c1.toNat_lt
    have t2 := c2.toNat_lt
    have t3 := c3.toNat_lt
    have g1 : ((N4 : Int) == (U : Int) * 65536 + (V : Int)) = true := by have := F1.out; simp; omega
    have g2 : ((N4 : Int) == (c0.toNat : Int) * 16777216 + (c1.toNat : Int) * 65536 + (c2.toNat : Int) * 256 + (c3.toNat : Int)) = true := by have := F2.out; simp; omega
    have w1 : IntKind.i64.wrap ((U : Int) * 65536) = (U : Int) * 65536 := IntWalk.i64_in _ (by omega)
    have w2 : IntKind.i64.wrap ((U : Int) * 65536 + (V : Int)) = (U : Int) * 65536 + (V : Int) := IntWalk.i64_in _ (by omega)
    have x0 : IntKind.i64.wrap (c0.toNat : Int) = (c0.toNat : Int) := IntWalk.i64_in _ (by omega)
    have x1 : IntKind.i64.wrap (c1.toNat : Int) = (c1.toNat : Int) := IntWalk.i64_in _ (by omega)
    have x2 : IntKind.i64.wrap (c2.toNat : Int) = (c2.toNat : Int) := IntWalk.i64_in _ (by omega)
    have x3 : IntKind.i64.wrap (c3.toNat : Int) = (c3.toNat : Int) := IntWalk.i64_in _ (by omega)
    have y0 : IntKind.i64.wrap ((c0.toNat : Int) * 16777216) = (c0.toNat : Int) * 16777216 := IntWalk.i64_in _ (by omega)
    have y1 : IntKind.i64.wrap ((c1.toNat : Int) * 65536) = (c1.toNat : Int) * 65536 := IntWalk.i64_in _ (by omega)
    have y2 : IntKind.i64.wrap ((c2.toNat : Int) * 256) = (c2.toNat : Int) * 256 := IntWalk.i64_in _ (by omega)
    have z1 : IntKind.i64.wrap ((c0.toNat : Int) * 16777216 + (c1.toNat : Int) * 65536) = (c0.toNat : Int) * 16777216 + (c1.toNat : Int) * 65536 := IntWalk.i64_in _ (by omega)
    have z2 : IntKind.i64.wrap ((c0.toNat : Int) * 16777216 + (c1.toNat : Int) * 65536 + (c2.toNat : Int) * 256) = (c0.toNat : Int) * 16777216 + (c1.toNat : Int) * 65536 + (c2.toNat : Int) * 256 := IntWalk.i64_in _ (by omega)
    have z3 : IntKind.i64.wrap ((c0.toNat : Int) * 16777216 + (c1.toNat : Int) * 65536 + (c2.toNat : Int) * 256 + (c3.toNat : Int)) = (c0.toNat : Int) * 16777216 + (c1.toNat : Int) * 65536 + (c2.toNat : Int) * 256 + (c3.toNat : Int) := IntWalk.i64_in _ (by omega)
    clear HR0 hab hab' hcat hX HSZ HC E4 E2 F1 F2 HN4 HN HS hne hY6
    refine wp_region_any (by kernel_rfl) ?_
    change wpAny _ _ _ _ _ _ _ (World.drew _)
    refine wpAny_take (i := 0) (oi := { dst := some 63, op := Go.Op.move (Go.Operand.tmp 10), type := 3, pos := "law.go:221", after := #[], guard := none }) (v := ?_) rfl (by kernel_rfl) (by kernel_rfl) (by kernel_rfl) (fun _ _ _ h => h) (Or.inl ⟨by rfl, ?_⟩) ?_
    rotate_left
    focus ((intro w; go_simp) <;> (with_reducible rfl))
    simp only [Act.put, List.setIfInBounds_toArray, List.set_cons_zero, List.set_cons_succ]
    refine wpAny_take (i := 1) (oi := { dst := some 64, op := Go.Op.move (Go.Operand.tmp 9), type := 42, pos := "law.go:221", after := #[], guard := none }) (v := ?_) rfl (by kernel_rfl) (by kernel_rfl) (by kernel_rfl) (fun _ _ _ h => h) (Or.inl ⟨by rfl, ?_⟩) ?_
    rotate_left
    focus ((intro w; go_simp) <;> (with_reducible rfl))
    simp only [Act.put, List.setIfInBounds_toArray, List.set_cons_zero, List.set_cons_succ]
    refine wpAny_take (i := 4) (oi := { dst := some 67, op := Go.Op.move (Go.Operand.tmp 9), type := 42, pos := "law.go:221", after := #[], guard := none }) (v := ?_) rfl (by kernel_rfl) (by kernel_rfl) (by kernel_rfl) (fun _ _ _ h => h) (Or.inl ⟨by rfl, ?_⟩) ?_
    rotate_left
    focus ((intro w; go_simp) <;> (with_reducible rfl))
    simp only [Act.put, List.setIfInBounds_toArray, List.set_cons_zero, List.set_cons_succ]
    refine wpAny_ready (rs := [2]) (by kernel_rfl) (by simp) ?_
    refine AllReady.cons rfl (fun K hK => ?_) AllReady.nil
    go_simp
    go_wp2_with (go_at_call 19; (with_reducible refine (ru2 (q + 1) [c0, c1] ([c2, c3] ++ rest) w6.drew hY7 rfl hL2).mono ?_); rintro e w7 ⟨rfl, hY8, hg7⟩; rw [← HU.out])
    refine wpAny_take (i := 3) (oi := { dst := some 66, op := Go.Op.binOp Go.BinOp.mul 3 (Go.Operand.tmp 65) (Go.Operand.const (Go.Value.int Go.IntKind.i64 65536)) 3, type := 3, pos := "law.go:221", after := #[{ on := 2, ground := Go.Ground.data }], guard := none }) (v := ?_) rfl (by kernel_rfl) (by kernel_rfl) (by kernel_rfl) (fun _ _ _ h => h) (Or.inl ⟨by rfl, ?_⟩) ?_
    rotate_left
    focus ((intro w; go_simp) <;> (with_reducible rfl))
    simp only [Act.put, List.setIfInBounds_toArray, List.set_cons_zero, List.set_cons_succ]
    refine wpAny_ready (rs := [5]) (by kernel_rfl) (by simp) ?_
    refine AllReady.cons rfl (fun K hK => ?_) AllReady.nil
    go_simp
    go_wp2_with (go_at_call 19; (with_reducible refine (ru2 (q + 1) [c2, c3] rest w7 hY8 rfl (by simp at hL2 ⊢; omega)).mono ?_); rintro e w8 ⟨rfl, hY9, hg8⟩; rw [← HV.out])
    refine wpAny_take (i := 6) (oi := { dst := some 69, op := Go.Op.binOp Go.BinOp.add 3 (Go.Operand.tmp 66) (Go.Operand.tmp 68) 3, type := 3, pos := "law.go:221", after := #[{ on := 3, ground := Go.Ground.data }, { on := 5, ground := Go.Ground.data }], guard := none }) (v := ?_) rfl (by kernel_rfl) (by kernel_rfl) (by kernel_rfl) (fun _ _ _ h => h) (Or.inl ⟨by rfl, ?_⟩) ?_
    rotate_left
    focus ((intro w; go_simp) <;> (with_reducible rfl))
    simp only [Act.put, List.setIfInBounds_toArray, List.set_cons_zero, List.set_cons_succ]
    refine wpAny_take (i := 7) (oi := { dst := some 70, op := Go.Op.binOp Go.BinOp.eql 3 (Go.Operand.tmp 63) (Go.Operand.tmp 69) 3, type := 4, pos := "law.go:221", after := #[{ on := 0, ground := Go.Ground.data }, { on := 6, ground := Go.Ground.data }], guard := none }) (v := ?_) rfl (by kernel_rfl) (by kernel_rfl) (by kernel_rfl) (fun _ _ _ h => h) (Or.inl ⟨by rfl, ?_⟩) ?_
    rotate_left
    focus ((intro w; go_simp) <;> (with_reducible rfl))
    simp only [Act.put, List.setIfInBounds_toArray, List.set_cons_zero, List.set_cons_succ]
    refine wpAny_take (i := 8) (oi := { dst := some 71, op := Go.Op.move (Go.Operand.tmp 70), type := 4, pos := "law.go:221", after := #[{ on := 7, ground := Go.Ground.data }, { on := 5, ground := Go.Ground.chain }], guard := none }) (v := ?_) rfl (by kernel_rfl) (by kernel_rfl) (by kernel_rfl) (fun _ _ _ h => h) (Or.inl ⟨by rfl, ?_⟩) ?_
    rotate_left
    focus ((intro w; go_simp) <;> (with_reducible rfl))
    simp only [Act.put, List.setIfInBounds_toArray, List.set_cons_zero, List.set_cons_succ]
    refine wpAny_take (i := 9) (oi := { dst := some 72, op := Go.Op.move (Go.Operand.tmp 10), type := 3, pos := "law.go:221", after := #[{ on := 8, ground := Go.Ground.guard }], guard := some (8, true) }) (v := ?_) rfl (by kernel_rfl) (by kernel_rfl) (by kernel_rfl) (fun _ _ _ h => h) (Or.inl ⟨by rfl, ?_⟩) ?_
    rotate_left
    focus ((intro w; go_simp) <;> (with_reducible rfl))
    simp only [Act.put, List.setIfInBounds_toArray, List.set_cons_zero, List.set_cons_succ]
    refine wpAny_take (i := 10) (oi := { dst := some 73, op := Go.Op.move (Go.Operand.tmp 0), type := 9, pos := "law.go:221", after := #[{ on := 8, ground := Go.Ground.guard }], guard := some (8, true) }) (v := ?_) rfl (by kernel_rfl) (by kernel_rfl) (by kernel_rfl) (fun _ _ _ h => h) (Or.inl ⟨by rfl, ?_⟩) ?_
    rotate_left
    focus ((intro w; go_simp) <;> (with_reducible rfl))
    simp only [Act.put, List.setIfInBounds_toArray, List.set_cons_zero, List.set_cons_succ]
    refine wpAny_take (i := 11) (oi := { dst := some 74, op := Go.Op.index 9 (Go.Operand.tmp 73) (Go.Operand.const (Go.Value.int Go.IntKind.i64 0)), type := 5, pos := "law.go:221", after := #[{ on := 10, ground := Go.Ground.data }, { on := 8, ground := Go.Ground.guard }], guard := some (8, true) }) (v := ?_) rfl (by kernel_rfl) (by kernel_rfl) (by kernel_rfl) (fun _ _ _ h => h) (Or.inl ⟨by rfl, ?_⟩) ?_
    rotate_left
    focus ((intro w; go_simp) <;> (with_reducible rfl))
    simp only [Act.put, List.setIfInBounds_toArray, List.set_cons_zero, List.set_cons_succ]
    refine wpAny_take (i := 12) (oi := { dst := some 75, op := Go.Op.convert 5 3 (Go.Operand.tmp 74), type := 3, pos := "law.go:221", after := #[{ on := 11, ground := Go.Ground.data }, { on := 8, ground := Go.Ground.guard }], guard := some (8, true) }) (v := ?_) rfl (by kernel_rfl) (by kernel_rfl) (by kernel_rfl) (fun _ _ _ h => h) (Or.inl ⟨by rfl, ?_⟩) ?_
    rotate_left
    focus ((intro w; go_simp) <;> (with_reducible rfl))
    simp only [Act.put, List.setIfInBounds_toArray, List.set_cons_zero, List.set_cons_succ]
    refine wpAny_take (i := 13) (oi := { dst := some 76, op := Go.Op.binOp Go.BinOp.shl 3 (Go.Operand.tmp 75) (Go.Operand.const (Go.Value.int Go.IntKind.u64 24)) 55, type := 3, pos := "law.go:221", after := #[{ on := 12, ground := Go.Ground.data }, { on := 8, ground := Go.Ground.guard }], guard := some (8, true) }) (v := ?_) rfl (by kernel_rfl) (by kernel_rfl) (by kernel_rfl) (fun _ _ _ h => h) (Or.inl ⟨by rfl, ?_⟩) ?_
    rotate_left
    focus ((intro w; go_simp) <;> (with_reducible rfl))
    simp only [Act.put, List.setIfInBounds_toArray, List.set_cons_zero, List.set_cons_succ]
    refine wpAny_take (i := 14) (oi := { dst := some 77, op := Go.Op.move (Go.Operand.tmp 0), type := 9, pos := "law.go:221", after := #[{ on := 8, ground := Go.Ground.guard }], guard := some (8, true) }) (v := ?_) rfl (by kernel_rfl) (by kernel_rfl) (by kernel_rfl) (fun _ _ _ h => h) (Or.inl ⟨by rfl, ?_⟩) ?_
    rotate_left
    focus ((intro w; go_simp) <;> (with_reducible rfl))
    simp only [Act.put, List.setIfInBounds_toArray, List.set_cons_zero, List.set_cons_succ]
    refine wpAny_take (i := 15) (oi := { dst := some 78, op := Go.Op.index 9 (Go.Operand.tmp 77) (Go.Operand.const (Go.Value.int Go.IntKind.i64 1)), type := 5, pos := "law.go:221", after := #[{ on := 14, ground := Go.Ground.data }, { on := 8, ground := Go.Ground.guard }], guard := some (8, true) }) (v := ?_) rfl (by kernel_rfl) (by kernel_rfl) (by kernel_rfl) (fun _ _ _ h => h) (Or.inl ⟨by rfl, ?_⟩) ?_
    rotate_left
    focus ((intro w; go_simp) <;> (with_reducible rfl))
    simp only [Act.put, List.setIfInBounds_toArray, List.set_cons_zero, List.set_cons_succ]
    refine wpAny_take (i := 16) (oi := { dst := some 79, op := Go.Op.convert 5 3 (Go.Operand.tmp 78), type := 3, pos := "law.go:221", after := #[{ on := 15, ground := Go.Ground.data }, { on := 8, ground := Go.Ground.guard }], guard := some (8, true) }) (v := ?_) rfl (by kernel_rfl) (by kernel_rfl) (by kernel_rfl) (fun _ _ _ h => h) (Or.inl ⟨by rfl, ?_⟩) ?_
    rotate_left
    focus ((intro w; go_simp) <;> (with_reducible rfl))
    simp only [Act.put, List.setIfInBounds_toArray, List.set_cons_zero, List.set_cons_succ]
    refine wpAny_take (i := 17) (oi := { dst := some 80, op := Go.Op.binOp Go.BinOp.shl 3 (Go.Operand.tmp 79) (Go.Operand.const (Go.Value.int Go.IntKind.u64 16)) 55, type := 3, pos := "law.go:221", after := #[{ on := 16, ground := Go.Ground.data }, { on := 8, ground := Go.Ground.guard }], guard := some (8, true) }) (v := ?_) rfl (by kernel_rfl) (by kernel_rfl) (by kernel_rfl) (fun _ _ _ h => h) (Or.inl ⟨by rfl, ?_⟩) ?_
    rotate_left
    focus ((intro w; go_simp) <;> (with_reducible rfl))
    simp only [Act.put, List.setIfInBounds_toArray, List.set_cons_zero, List.set_cons_succ]
    refine wpAny_take (i := 18) (oi := { dst := some 81, op := Go.Op.binOp Go.BinOp.add 3 (Go.Operand.tmp 76) (Go.Operand.tmp 80) 3, type := 3, pos := "law.go:221", after := #[{ on := 13, ground := Go.Ground.data }, { on := 17, ground := Go.Ground.data }, { on := 8, ground := Go.Ground.guard }], guard := some (8, true) }) (v := ?_) rfl (by kernel_rfl) (by kernel_rfl) (by kernel_rfl) (fun _ _ _ h => h) (Or.inl ⟨by rfl, ?_⟩) ?_
    rotate_left
    focus ((intro w; go_simp) <;> (with_reducible rfl))
    simp only [Act.put, List.setIfInBounds_toArray, List.set_cons_zero, List.set_cons_succ]
    refine wpAny_take (i := 19) (oi := { dst := some 82, op := Go.Op.move (Go.Operand.tmp 0), type := 9, pos := "law.go:221", after := #[{ on := 8, ground := Go.Ground.guard }], guard := some (8, true) }) (v := ?_) rfl (by kernel_rfl) (by kernel_rfl) (by kernel_rfl) (fun _ _ _ h => h) (Or.inl ⟨by rfl, ?_⟩) ?_
    rotate_left
    focus ((intro w; go_simp) <;> (with_reducible rfl))
    simp only [Act.put, List.setIfInBounds_toArray, List.set_cons_zero, List.set_cons_succ]
    refine wpAny_take (i := 20) (oi := { dst := some 83, op := Go.Op.index 9 (Go.Operand.tmp 82) (Go.Operand.const (Go.Value.int Go.IntKind.i64 2)), type := 5, pos := "law.go:221", after := #[{ on := 19, ground := Go.Ground.data }, { on := 8, ground := Go.Ground.guard }], guard := some (8, true) }) (v := ?_) rfl (by kernel_rfl) (by kernel_rfl) (by kernel_rfl) (fun _ _ _ h => h) (Or.inl ⟨by rfl, ?_⟩) ?_
    rotate_left
    focus ((intro w; go_simp) <;> (with_reducible rfl))
    simp only [Act.put, List.setIfInBounds_toArray, List.set_cons_zero, List.set_cons_succ]
    refine wpAny_take (i := 21) (oi := { dst := some 84, op := Go.Op.convert 5 3 (Go.Operand.tmp 83), type := 3, pos := "law.go:221", after := #[{ on := 20, ground := Go.Ground.data }, { on := 8, ground := Go.Ground.guard }], guard := some (8, true) }) (v := ?_) rfl (by kernel_rfl) (by kernel_rfl) (by kernel_rfl) (fun _ _ _ h => h) (Or.inl ⟨by rfl, ?_⟩) ?_
    rotate_left
    focus ((intro w; go_simp) <;> (with_reducible rfl))
    simp only [Act.put, List.setIfInBounds_toArray, List.set_cons_zero, List.set_cons_succ]
    refine wpAny_take (i := 22) (oi := { dst := some 85, op := Go.Op.binOp Go.BinOp.shl 3 (Go.Operand.tmp 84) (Go.Operand.const (Go.Value.int Go.IntKind.u64 8)) 55, type := 3, pos := "law.go:221", after := #[{ on := 21, ground := Go.Ground.data }, { on := 8, ground := Go.Ground.guard }], guard := some (8, true) }) (v := ?_) rfl (by kernel_rfl) (by kernel_rfl) (by kernel_rfl) (fun _ _ _ h => h) (Or.inl ⟨by rfl, ?_⟩) ?_
    rotate_left
    focus ((intro w; go_simp) <;> (with_reducible rfl))
    simp only [Act.put, List.setIfInBounds_toArray, List.set_cons_zero, List.set_cons_succ]
    refine wpAny_take (i := 23) (oi := { dst := some 86, op := Go.Op.binOp Go.BinOp.add 3 (Go.Operand.tmp 81) (Go.Operand.tmp 85) 3, type := 3, pos := "law.go:221", after := #[{ on := 18, ground := Go.Ground.data }, { on := 22, ground := Go.Ground.data }, { on := 8, ground := Go.Ground.guard }], guard := some (8, true) }) (v := ?_) rfl (by kernel_rfl) (by kernel_rfl) (by kernel_rfl) (fun _ _ _ h => h) (Or.inl ⟨by rfl, ?_⟩) ?_
    rotate_left
    focus ((intro w; go_simp) <;> (with_reducible rfl))
    simp only [Act.put, List.setIfInBounds_toArray, List.set_cons_zero, List.set_cons_succ]
    refine wpAny_take (i := 24) (oi := { dst := some 87, op := Go.Op.move (Go.Operand.tmp 0), type := 9, pos := "law.go:221", after := #[{ on := 8, ground := Go.Ground.guard }], guard := some (8, true) }) (v := ?_) rfl (by kernel_rfl) (by kernel_rfl) (by kernel_rfl) (fun _ _ _ h => h) (Or.inl ⟨by rfl, ?_⟩) ?_
    rotate_left
    focus ((intro w; go_simp) <;> (with_reducible rfl))
    simp only [Act.put, List.setIfInBounds_toArray, List.set_cons_zero, List.set_cons_succ]
    refine wpAny_take (i := 25) (oi := { dst := some 88, op := Go.Op.index 9 (Go.Operand.tmp 87) (Go.Operand.const (Go.Value.int Go.IntKind.i64 3)), type := 5, pos := "law.go:221", after := #[{ on := 24, ground := Go.Ground.data }, { on := 8, ground := Go.Ground.guard }], guard := some (8, true) }) (v := ?_) rfl (by kernel_rfl) (by kernel_rfl) (by kernel_rfl) (fun _ _ _ h => h) (Or.inl ⟨by rfl, ?_⟩) ?_
    rotate_left
    focus ((intro w; go_simp) <;> (with_reducible rfl))
    simp only [Act.put, List.setIfInBounds_toArray, List.set_cons_zero, List.set_cons_succ]
    refine wpAny_take (i := 26) (oi := { dst := some 89, op := Go.Op.convert 5 3 (Go.Operand.tmp 88), type := 3, pos := "law.go:221", after := #[{ on := 25, ground := Go.Ground.data }, { on := 8, ground := Go.Ground.guard }], guard := some (8, true) }) (v := ?_) rfl (by kernel_rfl) (by kernel_rfl) (by kernel_rfl) (fun _ _ _ h => h) (Or.inl ⟨by rfl, ?_⟩) ?_
    rotate_left
    focus ((intro w; go_simp) <;> (with_reducible rfl))
    simp only [Act.put, List.setIfInBounds_toArray, List.set_cons_zero, List.set_cons_succ]
    refine wpAny_take (i := 27) (oi := { dst := some 90, op := Go.Op.binOp Go.BinOp.add 3 (Go.Operand.tmp 86) (Go.Operand.tmp 89) 3, type := 3, pos := "law.go:221", after := #[{ on := 23, ground := Go.Ground.data }, { on := 26, ground := Go.Ground.data }, { on := 8, ground := Go.Ground.guard }], guard := some (8, true) }) (v := ?_) rfl (by kernel_rfl) (by kernel_rfl) (by kernel_rfl) (fun _ _ _ h => h) (Or.inl ⟨by rfl, ?_⟩) ?_
    rotate_left
    focus ((intro w; go_simp) <;> (with_reducible rfl))
    simp only [Act.put, List.setIfInBounds_toArray, List.set_cons_zero, List.set_cons_succ]
    refine wpAny_take (i := 28) (oi := { dst := some 91, op := Go.Op.binOp Go.BinOp.eql 3 (Go.Operand.tmp 72) (Go.Operand.tmp 90) 3, type := 4, pos := "law.go:221", after := #[{ on := 9, ground := Go.Ground.data }, { on := 27, ground := Go.Ground.data }, { on := 8, ground := Go.Ground.guard }], guard := some (8, true) }) (v := ?_) rfl (by kernel_rfl) (by kernel_rfl) (by kernel_rfl) (fun _ _ _ h => h) (Or.inl ⟨by rfl, ?_⟩) ?_
    rotate_left
    focus ((intro w; go_simp) <;> (with_reducible rfl))
    simp only [Act.put, List.setIfInBounds_toArray, List.set_cons_zero, List.set_cons_succ]
    refine wpAny_take (i := 29) (oi := { dst := some 92, op := Go.Op.pick (Go.Operand.tmp 71) (Go.Operand.tmp 91) (Go.Operand.const (Go.Value.bool false)), type := 4, pos := "law.go:221", after := #[{ on := 8, ground := Go.Ground.data }, { on := 28, ground := Go.Ground.data }], guard := none }) (v := ?_) rfl (by kernel_rfl) (by kernel_rfl) (by kernel_rfl) (fun _ _ _ h => h) (Or.inl ⟨by rfl, ?_⟩) ?_
    rotate_left
    focus ((intro w; go_simp) <;> (with_reducible rfl))
    simp only [Act.put, List.setIfInBounds_toArray, List.set_cons_zero, List.set_cons_succ]
    refine wpAny_take (i := 30) (oi := { dst := some 93, op := Go.Op.move (Go.Operand.tmp 92), type := 4, pos := "law.go:221", after := #[{ on := 29, ground := Go.Ground.data }, { on := 8, ground := Go.Ground.chain }], guard := none }) (v := ?_) rfl (by kernel_rfl) (by kernel_rfl) (by kernel_rfl) (fun _ _ _ h => h) (Or.inl ⟨by rfl, ?_⟩) ?_
    rotate_left
    focus ((intro w; go_simp) <;> (with_reducible rfl))
    simp only [Act.put, List.setIfInBounds_toArray, List.set_cons_zero, List.set_cons_succ]
    refine wpAny_ready (rs := [31]) (by kernel_rfl) (by simp) ?_
    refine AllReady.cons rfl (fun K hK => ?_) AllReady.nil
    go_simp
    go_wp2_with (go_at_call 10; (with_reducible refine (awake_any w8).mono ?_); rintro e w9 ⟨rfl, hb9⟩)
    refine wpAny_take (i := 32) (oi := { dst := some 95, op := Go.Op.pick (Go.Operand.tmp 93) (Go.Operand.tmp 94) (Go.Operand.const (Go.Value.bool false)), type := 4, pos := "law.go:221", after := #[{ on := 30, ground := Go.Ground.data }, { on := 31, ground := Go.Ground.data }], guard := none }) (v := ?_) rfl (by kernel_rfl) (by kernel_rfl) (by kernel_rfl) (fun _ _ _ h => h) (Or.inl ⟨by rfl, ?_⟩) ?_
    rotate_left
    focus ((intro w; go_simp) <;> (with_reducible rfl))
    simp only [Act.put, List.setIfInBounds_toArray, List.set_cons_zero, List.set_cons_succ]
    refine wpAny_take (i := 33) (oi := { dst := some 4, op := Go.Op.assign (Go.Operand.tmp 95), type := 4, pos := "law.go:221", after := #[{ on := 32, ground := Go.Ground.data }, { on := 31, ground := Go.Ground.chain }, { on := 0, ground := Go.Ground.phase }, { on := 1, ground := Go.Ground.phase }, { on := 2, ground := Go.Ground.phase }, { on := 3, ground := Go.Ground.phase }, { on := 4, ground := Go.Ground.phase }, { on := 5, ground := Go.Ground.phase }, { on := 6, ground := Go.Ground.phase }, { on := 7, ground := Go.Ground.phase }, { on := 8, ground := Go.Ground.phase }, { on := 9, ground := Go.Ground.phase }, { on := 10, ground := Go.Ground.phase }, { on := 11, ground := Go.Ground.phase }, { on := 12, ground := Go.Ground.phase }, { on := 13, ground := Go.Ground.phase }, { on := 14, ground := Go.Ground.phase }, { on := 15, ground := Go.Ground.phase }, { on := 16, ground := Go.Ground.phase }, { on := 17, ground := Go.Ground.phase }, { on := 18, ground := Go.Ground.phase }, { on := 19, ground := Go.Ground.phase }, { on := 20, ground := Go.Ground.phase }, { on := 21, ground := Go.Ground.phase }, { on := 22, ground := Go.Ground.phase }, { on := 23, ground := Go.Ground.phase }, { on := 24, ground := Go.Ground.phase }, { on := 25, ground := Go.Ground.phase }, { on := 26, ground := Go.Ground.phase }, { on := 27, ground := Go.Ground.phase }, { on := 28, ground := Go.Ground.phase }, { on := 29, ground := Go.Ground.phase }, { on := 30, ground := Go.Ground.phase }, { on := 31, ground := Go.Ground.phase }, { on := 32, ground := Go.Ground.phase }], guard := none }) (v := ?_) rfl (by kernel_rfl) (by kernel_rfl) (by kernel_rfl) (fun _ _ _ h => h) (Or.inl ⟨by rfl, ?_⟩) ?_
    rotate_left
    focus ((intro w; go_simp) <;> (with_reducible rfl))
    simp only [Act.put, List.setIfInBounds_toArray, List.set_cons_zero, List.set_cons_succ]
    refine wpAny_done (by kernel_rfl) ?_ _
    go_wp2
    go_returns
    refine ⟨rfl, ?_⟩
    have k7 := k6.drew.grown hg7 k6.size (fun k hk => by cases hk; omega)
    have k8 := k7.grown hg8 k7.size (fun k hk => by cases hk; omega)
    exact k8.trans (hb9.mono k8.size)

theorem bitsParts_walk (s : ByteArray) (n : Int) (hs : s.size ≤ maxLen) (_hn : (Lit.int .i64 n).wf = true) (w : World) :
    Calls Try.prog 8 #[.string s, .int .i64 n] w fun e w' => e = .returned (.bool true) ∧ Below w.heap.size w w' := by
  unfold maxLen at hs
  by_cases h : 2000 < s.size ∨ n < 0 ∨ (s.size : Int) < n
  · exact parts_out s n (by omega) w h
  · obtain ⟨m, rfl⟩ := Int.eq_ofNat_of_zero_le (show 0 ≤ n by omega)
    exact parts_in (s.data.toList.take m) (s.data.toList.drop m) s (by rw [List.take_append_drop]) m (by simp; omega) (by omega) w


set_option maxRecDepth 100000 in
theorem bitsParts_lifted (os : Os) (started : os.Started) (H : Type) (enc : TypeId × Value → H) :
    ReturnsInHanded {} Try.checked os 8 .any (Rows.bitsPartsSpec.pre6 enc Try.prog Try.f8 Rows.bitsPartsRow.domain false) (Rows.bitsPartsSpec.post enc Try.prog Try.f8 false true false false) := by
  refine returnsInHanded_of_change (C := Try.checked) bitsParts_own started (by kernel_rfl) Try.func8
    (ChangeSpec.witness6 (enc := enc) (C := Try.checked) false ⟨#[], #[.string ByteArray.empty, .int .i64 0], []⟩ 8 (by kernel_rfl) (by kernel_rfl) (by kernel_rfl) (by kernel_rfl)) ?_
  intro W base args ds gs before hval0 hW hcnd _
  have hval : ∀ (j : Nat) t v, Try.f8.params[j]? = some t → args[j]? = some v → Value.okWide Try.prog W .any base t v := hval0
  have hW' := hW
  obtain ⟨p, q, hA0, hV, rfl, hfz, hnd⟩ := hW
  have hA : DataW.TrodAll enc Try.prog W 0 (fun _ => true) true Try.f8.params.toList args.toList ds p := hA0
  rw [Try.params8] at hA hval
  obtain ⟨v0, vs0, d0, ds0, p0, q0, hargs, rfl, rfl, h0, r0⟩ := trodAll_cons hA
  obtain ⟨v1, vs1, d1, ds1, p1, q1, rfl, rfl, rfl, h1, r1⟩ := trodAll_cons r0
  obtain ⟨rfl, rfl, rfl⟩ := trodAll_nil r1
  obtain rfl : args = #[v0, v1] := by cases args; simp_all
  obtain ⟨rfl, rfl⟩ := trodVars_none hV
  obtain ⟨a0, rfl, rfl, rfl, w0⟩ := open_string Try.underlying9 (hval 0 9 v0 rfl rfl) h0
  obtain ⟨a1, rfl, rfl, rfl, w1⟩ := open_int Try.underlying3 (hval 1 3 v1 rfl rfl) h1
  clear hA0 hval0
  refine (bitsParts_walk a0 a1 w0 w1 W).mono fun e W' ⟨he, bel⟩ => ?_
  subst he
  exact ⟨_, rfl, _, _, _, [], _, [], hW', trodAll_mk1 (shut_bool Try.underlying4 _), (trodAll_cons_mk (shut_string Try.underlying9 w0) (trodAll_cons_mk (shut_int Try.underlying3 w1) trodAll_mk0)), rfl, bel.frame _, fun h => by cases h⟩

theorem bitsParts_over : Rows.bitsPartsRow.holds Try.pinned (OpenSpec.ofChange Rows.bitsPartsSpec) :=
  OpenClaim.holds_of_wide 8 Try.f8 rfl rfl rfl rfl rfl rfl rfl ⟨rfl, rfl, rfl, rfl, rfl⟩ rfl rfl rfl rfl rfl (by kernel_rfl) Try.func8 (by kernel_rfl)
    (of_decide_eq_true (by kernel_rfl)) (by unfold Func.isWrapper; first | (rw [if_pos (by decide +kernel)]; kernel_rfl) | (rw [if_neg (by decide +kernel)]; exact ⟨rfl, rfl⟩))
    (fun os started H enc _ => bitsParts_lifted os started H enc)

theorem bitsParts_holds : Rows.BitsPartsSaid := bitsParts_over
#print axioms bitsParts_holds
end Go.Proofs.Ytbdhneoicfciiaa
