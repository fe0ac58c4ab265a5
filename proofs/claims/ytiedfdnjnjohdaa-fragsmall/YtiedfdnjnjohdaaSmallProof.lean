/- For every packet and number the law FragSmall answers true: a packet that one frame carries is its only part, and one byte more makes two. No conditions. -/
import Derived.Test.YtiedfdnjnjohdaaRows
import Derived.Test.YtiedfdnjnjohdaaSq
import Derived.Test.YtiedfdnjnjohdaaPo
import Derived.WalkKit
import Derived.Deep.RegionHeld3
import Derived.BigQuiet
import Derived.ProofKit
import Derived.OpenShut
import Derived.ShutString
import Derived.ChangeOld
import Derived.Below
namespace Go.Proofs.Ytiedfdnjnjohdaa
open Go.ChangeShapes Go.WideShapes Go.ChangeAt Go.RowKit
open Go.ChangeMaps (open_string shut_string)
set_option linter.unusedVariables false

theorem fragSmall_own : ownKnob Try.prog.godebug = none := by kernel_rfl
theorem fragSmall_laid : laidOutB Try.prog = true := by kernel_rfl


open Go.Proofs.PitotFrag
open Go.Proofs.Ytiedfdnjnjohdaa.Bi (lies_lt lies_cell lies_frozen lies_alloc)

theorem row_one {w : World} {base g cap : Nat} {p : Pk} (h : w.ownsRow base 31 14 (.slice (some ⟨g, 0, none⟩) 1 cap) 1 (flatP [p])) : PkAt w g 0 p := row_get h 0 (by simp)
theorem pk_zero {w : World} {g : Nat} {id : Int} {m : Bool} {off ttl pr : Int} {a b : PitotIp.Q4} {s : ByteArray} (h : PkAt w g 0 ⟨id, m, off, ttl, pr, a, b, s⟩) :
    (w.cell? ⟨g, 0, none⟩ = some (.int .i64 id)) ∧ (w.cell? ⟨g, 1, none⟩ = some (.bool m)) ∧ (w.cell? ⟨g, 2, none⟩ = some (.int .i64 off)) ∧ (w.cell? ⟨g, 3, none⟩ = some (.int .i64 ttl)) ∧ (w.cell? ⟨g, 4, none⟩ = some (.int .i64 pr)) ∧ (w.cell? ⟨g, 5, none⟩ = some (.int .u8 a.a.toNat)) ∧ (w.cell? ⟨g, 6, none⟩ = some (.int .u8 a.b.toNat)) ∧ (w.cell? ⟨g, 7, none⟩ = some (.int .u8 a.c.toNat)) ∧ (w.cell? ⟨g, 8, none⟩ = some (.int .u8 a.d.toNat)) ∧ (w.cell? ⟨g, 9, none⟩ = some (.int .u8 b.a.toNat)) ∧ (w.cell? ⟨g, 10, none⟩ = some (.int .u8 b.b.toNat)) ∧ (w.cell? ⟨g, 11, none⟩ = some (.int .u8 b.c.toNat)) ∧ (w.cell? ⟨g, 12, none⟩ = some (.int .u8 b.d.toNat)) ∧ (w.cell? ⟨g, 13, none⟩ = some (.string s)) := by
  simpa [PkAt] using h
theorem lies_set' {w : World} {g : Nat} {id : Int} {m : Bool} {off ttl pr : Int} {a b : PitotIp.Q4} {s : ByteArray} (h : w.heap[g]? = some (pkC id m off ttl pr a b s)) (Y : ByteArray) : (w.setCell ⟨g, 13, none⟩ (.string Y)).heap[g]? = some (pkC id m off ttl pr a b Y) := Bi.lies_set h 13 _
/-- How many bytes stand in a packet's cells. -/
def dataLen (w : World) (g : Nat) : Nat := match w.cell? ⟨g, 13, none⟩ with | some (.string d) => d.size | _ => 0
theorem dataLen_of {w : World} {g : Nat} {d : ByteArray} (h : w.cell? ⟨g, 13, none⟩ = some (.string d)) : dataLen w g = d.size := by unfold dataLen; rw [h]

set_option maxRecDepth 100000 in
set_option maxHeartbeats 4000000 in
theorem fragSmall_ok (id : Int) (ttl pr : Int) (a b : PitotIp.Q4) (s : ByteArray) (m : Nat) (h1 : 25 ≤ m) (hm : m ≤ 1479) (hs : s.size ≤ m) (w : World) :
    Calls Try.prog 8 #[pk id false 0 ttl pr a b s, .int .i64 (m + 39)] w fun e w' => e = .returned (.bool true) ∧ Below w.heap.size w w' := by
  have hs2 : s.size ≤ 65515 := by omega
  have H14 := fun w => split_ok ⟨id, false, 0, ttl, pr, a, b, s⟩ m h1 hm rfl rfl hs2 w
  have e1 : spl ⟨id, false, 0, ttl, pr, a, b, s⟩ m = [⟨id, false, 0, ttl, pr, a, b, s⟩] := spl_small ⟨id, false, 0, ttl, pr, a, b, s⟩ m h1 hs rfl
  have e2 : cn s.size m = 1 := cn_small h1 hs
  have H14 : Hid (∀ w, Calls Try.prog 14 #[pk id false 0 ttl pr a b s, .int .i64 (m + 39)] w fun e w' => ∃ g cap, e = .returned (.tuple #[.slice (some ⟨g, 0, none⟩) 1 cap, .int .i64 0]) ∧ w'.ownsRow w.heap.size 31 14 (.slice (some ⟨g, 0, none⟩) 1 cap) 1 (flatP [⟨id, false, 0, ttl, pr, a, b, s⟩]) ∧ Below w.heap.size w w') := by
    show ∀ w, _
    intro w
    have h := H14 w
    simp only [e1, e2] at h
    exact h
  clear e1 e2
  have H15 : Hid (∀ (D : ByteArray), D.size = m + 1 → ∀ w, Calls Try.prog 14 #[pk id false 0 ttl pr a b D, .int .i64 (m + 39)] w fun e w' => ∃ g cap, e = .returned (.tuple #[.slice (some ⟨g, 0, none⟩) 2 cap, .int .i64 0]) ∧ Below w.heap.size w w') := by
    show ∀ (D : ByteArray), _
    intro D hD w
    have hs3 : D.size ≤ 65515 := by omega
    have h := split_ok ⟨id, false, 0, ttl, pr, a, b, D⟩ m h1 hm rfl rfl hs3 w
    have e2 : cn D.size m = 2 := by rw [hD]; exact cn_two h1
    simp only [e2] at h
    exact h.mono fun e w' ⟨g, cap, he, _, hb⟩ => ⟨g, cap, he, hb⟩
  have hqa := same9 a
  have hqb := same9 b
  have e1 : decide ((m : Int) + 39 < 64) = false := decide_eq_false (by omega)
  have e2 : decide (1518 < (m : Int) + 39) = false := decide_eq_false (by omega)
  have e3 : decide ((m : Int) < (s.size : Int)) = false := decide_eq_false (by omega)
  have kb : Hid (Below w.heap.size w (w.alloc (pkC id false 0 ttl pr a b s))) := (Below.refl _ w).alloc (Nat.le_refl _) _
  go_enter Try.func8, Try.ntmps8
  go_upto_region 4 with (first
    | (go_at_call 14; (with_reducible refine (H14.out _).mono ?_); rintro r w1 ⟨g, cap, rfl, hown, hb1⟩
       (have L1 := lies_below (heap_alloc_new w (pkC id false 0 ttl pr a b s)) hb1 (by simp))
       (obtain ⟨c0, c1, c2, c3, c4, c5, c6, c7, c8, c9, c10, c11, c12, c13⟩ := cells14 L1)
       (obtain ⟨d0, d1, d2, d3, d4, d5, d6, d7, d8, d9, d10, d11, d12, d13⟩ := pk_zero (row_one hown))
       (have L1 := Lib.hid L1)
       (have k1 := Lib.hid (kb.out.trans (hb1.mono kb.out.size)))
       (clear hown hb1)))
  go_quiet (fail)
  have L2 : (w1.drewN nq).heap[w.heap.size]? = some (pkC id false 0 ttl pr a b s) := L1.out
  have k2 : Below w.heap.size w (w1.drewN nq) := below_drewN k1.out nq
  generalize w1.drewN nq = X at L2 k2 ⊢
  clear c0 c1 c2 c3 c4 c5 c6 c7 c8 c9 c10 c11 c12 c13 d0 d1 d2 d3 d4 d5 d6 d7 d8 d9 d10 d11 d12 d13 L1 k1 hqa hqb e1 e2 e3
  obtain ⟨c0, c1, c2, c3, c4, c5, c6, c7, c8, c9, c10, c11, c12, c13⟩ := cells14 L2
  have k2 := Lib.hid k2
  clear L2
  go_wp2
  clear c0 c1 c2 c3 c4 c5 c6 c7 c8 c9 c10 c11 c12 c13
  go_loopw [] (fun wr => ∃ D : ByteArray, wr.heap[X.heap.size]? = some (pkC id false 0 ttl pr a b D) ∧ D.size ≤ m + 1 ∧ Below w.heap.size w wr) (fun wr => m + 1 - dataLen wr X.heap.size)
  case atStart => exact ⟨s, heap_alloc_new X _, by omega, k2.out.alloc k2.out.size _⟩
  case round =>
    obtain ⟨D, hD, hDs, hb⟩ := hrel
    obtain ⟨c0, c1, c2, c3, c4, c5, c6, c7, c8, c9, c10, c11, c12, c13⟩ := cells14 hD
    have f13 := lies_frozen hD 13
    have HL := Lib.hid hD
    have hDL := Lib.hid (dataLen_of c13)
    have hXs : Hid (w.heap.size ≤ X.heap.size) := k2.out.size
    clear hD
    by_cases hlt : D.size ≤ m
    · have e4 : decide ((D.size : Int) ≤ (m : Int)) = true := decide_eq_true (by omega)
      obtain ⟨Y, hY⟩ : ∃ Y, D ++ (⟨#[120]⟩ : ByteArray) = Y := ⟨_, rfl⟩
      have hYs : Hid (Y.size = D.size + 1) := by show _ = _; rw [← hY, ByteArray.size_append]; rfl
      have b1 : ¬ 9223372036854775807 < D.size + 1 := by omega
      go_wp2
      go_roundw
      case rel => exact ⟨Y, lies_set' HL.out Y, by rw [hYs.out]; omega, hb.setCell (p := ⟨X.heap.size, 13, none⟩) hXs.out _⟩
      case measure =>
        rw [hDL.out, dataLen_of (lies_cell (lies_set' HL.out Y) 13), hYs.out]
        omega
    · have e4 : decide ((D.size : Int) ≤ (m : Int)) = false := decide_eq_false (by omega)
      have HS := Lib.hid (H15.out D (by omega))
      go_wp2_with (first
        | (go_at_call 14; (with_reducible refine (HS.out _).mono ?_); rintro r w3 ⟨g3, cap3, rfl, hb3⟩)
        | (go_at_call 13; (with_reducible refine (awake_any _).mono ?_); rintro r w4 ⟨rfl, hb4⟩))
      go_returns
      have q1 := hb.trans (hb3.mono hb.size)
      exact ⟨rfl, q1.trans (hb4.mono q1.size)⟩

set_option maxRecDepth 100000 in
set_option maxHeartbeats 4000000 in
theorem fragSmall_out (id : Int) (m : Bool) (off ttl pr : Int) (a b : PitotIp.Q4) (s : ByteArray) (x : Int) (hs : s.size ≤ 9223372036854775807) (B1 B2 B3 : Bool) (e1 : decide (x < 64) = B1) (e2 : decide (1518 < x) = B2) (e3 : decide (x - 39 < (s.size : Int)) = B3) (B4 : Bool) (e4 : (off != 0) = B4) (h : (B1 || B2 || B3 || m || B4) = true) (w : World) :
    Calls Try.prog 8 #[pk id m off ttl pr a b s, .int .i64 x] w fun e w' => e = .returned (.bool true) ∧ Below w.heap.size w w' := by
  have kb : Hid (Below w.heap.size w (w.alloc (pkC id m off ttl pr a b s))) := (Below.refl _ w).alloc (Nat.le_refl _) _
  cases B1
  · have hx1 : 64 ≤ x := by have := of_decide_eq_false e1; omega
    cases B2
    · have hx2 : x ≤ 1518 := by have := of_decide_eq_false e2; omega
      cases B3
      · cases m
        · cases B4
          · cases h
          · clear h
            go_enter Try.func8, Try.ntmps8
            go_wp2_with (go_at_call 13; (with_reducible refine (awake_any _).mono ?_); rintro r w2 ⟨rfl, hb2⟩)
            go_returns
            exact ⟨rfl, kb.out.trans (hb2.mono kb.out.size)⟩
        · clear h
          go_enter Try.func8, Try.ntmps8
          go_wp2_with (go_at_call 13; (with_reducible refine (awake_any _).mono ?_); rintro r w2 ⟨rfl, hb2⟩)
          go_returns
          exact ⟨rfl, kb.out.trans (hb2.mono kb.out.size)⟩
      · clear h
        go_enter Try.func8, Try.ntmps8
        go_wp2_with (go_at_call 13; (with_reducible refine (awake_any _).mono ?_); rintro r w2 ⟨rfl, hb2⟩)
        go_returns
        exact ⟨rfl, kb.out.trans (hb2.mono kb.out.size)⟩
    · clear h
      go_enter Try.func8, Try.ntmps8
      go_wp2_with (go_at_call 13; (with_reducible refine (awake_any _).mono ?_); rintro r w2 ⟨rfl, hb2⟩)
      go_returns
      exact ⟨rfl, kb.out.trans (hb2.mono kb.out.size)⟩
  · clear h
    go_enter Try.func8, Try.ntmps8
    go_wp2_with (go_at_call 13; (with_reducible refine (awake_any _).mono ?_); rintro r w2 ⟨rfl, hb2⟩)
    go_returns
    exact ⟨rfl, kb.out.trans (hb2.mono kb.out.size)⟩

theorem fragSmall_walk (id : Int) (m : Bool) (off ttl pr : Int) (a b : PitotIp.Q4) (s : ByteArray) (_hi : (Lit.int .i64 id).wf = true) (_ho : (Lit.int .i64 off).wf = true) (_ht : (Lit.int .i64 ttl).wf = true) (_hp : (Lit.int .i64 pr).wf = true) (hs : s.size ≤ maxLen) (x : Int) (_hx : (Lit.int .i64 x).wf = true) (w : World) :
    Calls Try.prog 8 #[pk id m off ttl pr a b s, .int .i64 x] w fun e w' => e = .returned (.bool true) ∧ Below w.heap.size w w' := by
  unfold maxLen at hs
  by_cases hx : x < 64
  · exact fragSmall_out id m off ttl pr a b s x (by omega) true _ _ (decide_eq_true hx) rfl rfl _ rfl (by simp) w
  · by_cases hx2 : 1518 < x
    · exact fragSmall_out id m off ttl pr a b s x (by omega) _ true _ rfl (decide_eq_true hx2) rfl _ rfl (by simp) w
    · obtain ⟨n, rfl⟩ : ∃ n : Nat, x = n + 39 := ⟨(x - 39).toNat, by omega⟩
      by_cases hl : n < s.size
      · exact fragSmall_out id m off ttl pr a b s _ (by omega) _ _ true rfl rfl (decide_eq_true (by omega)) _ rfl (by simp) w
      · cases m
        · by_cases ho : off = 0
          · subst ho
            exact fragSmall_ok id ttl pr a b s n (by omega) (by omega) (by omega) w
          · exact fragSmall_out id false off ttl pr a b s _ (by omega) _ _ _ rfl rfl rfl true (by simpa using ho) (by simp) w
        · exact fragSmall_out id true off ttl pr a b s _ (by omega) _ _ _ rfl rfl rfl _ rfl (by simp) w


set_option maxRecDepth 100000 in
theorem fragSmall_lifted (os : Os) (started : os.Started) (H : Type) (enc : TypeId × Value → H) :
    ReturnsInHanded {} Try.checked os 8 .any (Rows.fragSmallSpec.pre6 enc Try.prog Try.f8 Rows.fragSmallRow.domain false) (Rows.fragSmallSpec.post enc Try.prog Try.f8 false true false false) := by
  refine returnsInHanded_of_change (C := Try.checked) fragSmall_own started (by kernel_rfl) Try.func8
    (ChangeSpec.witness6 (enc := enc) (C := Try.checked) false ⟨#[], #[.agg #[.int .i64 0, .bool false, .int .i64 0, .int .i64 0, .int .i64 0, .int .u8 0, .int .u8 0, .int .u8 0, .int .u8 0, .int .u8 0, .int .u8 0, .int .u8 0, .int .u8 0, .string ByteArray.empty], .int .i64 0], []⟩ 8 (by kernel_rfl) (by kernel_rfl) (by kernel_rfl) (by kernel_rfl)) ?_
  intro W base args ds gs before hval0 hW hcnd _
  have hval : ∀ (j : Nat) t v, Try.f8.params[j]? = some t → args[j]? = some v → Value.okWide Try.prog W .any base t v := hval0
  have hW' := hW
  obtain ⟨p, q, hA0, hV, rfl, hfz, hnd⟩ := hW
  have hA : DataW.TrodAll enc Try.prog W 0 (fun _ => true) true Try.f8.params.toList args.toList ds p := hA0
  rw [Try.params8] at hA hval
  obtain ⟨v0, vs0, d0, ds0, p0, q0, hargs, rfl, rfl, h0, r0⟩ := trodAll_cons hA
  obtain ⟨v1, vs1, d1, ds1, p1, q1, rfl, rfl, rfl, h1, r1⟩ := trodAll_cons r0
  obtain ⟨rfl, rfl, rfl⟩ := trodAll_nil r1
  obtain rfl : args = #[v0, v1] := by cases args; simp_all
  obtain ⟨rfl, rfl⟩ := trodVars_none hV
  have k0 := h0
  have lt0 : ∀ x ∈ p0, x.block < W.heap.size := by obtain ⟨m, hm⟩ := k0; exact DataW.trod_lt m _ _ _ hm
  obtain ⟨fu0, hf0⟩ := h0
  obtain ⟨fi0, fm0, fo0, ft0, fp0, fa0, fb0, fs0, gi0, go0, gt0, gp0, gs0, rfl⟩ := packet_open (hval 0 31 v0 rfl rfl) hf0
  obtain ⟨a1, rfl, rfl, rfl, w1⟩ := open_int Try.underlying3 (hval 1 3 v1 rfl rfl) h1
  clear hA0 hval0
  have hwalk := fragSmall_walk fi0 fm0 fo0 ft0 fp0 fa0 fb0 fs0 gi0 go0 gt0 gp0 gs0 a1 w1 W

  refine hwalk.mono fun e W' ⟨he, bel⟩ => ?_
  subst he
  exact ⟨_, rfl, _, _, _, [], _, [], hW', trodAll_mk1 (shut_bool Try.underlying4 _), (trodAll_cons_mk (Below.trod fragSmall_laid (by kernel_rfl) (of_decide_eq_true (by kernel_rfl)) k0 bel lt0) (trodAll_cons_mk (shut_int Try.underlying3 w1) trodAll_mk0)), rfl, bel.frame _, fun h => by cases h⟩

theorem fragSmall_over : Rows.fragSmallRow.holds Try.pinned (OpenSpec.ofChange Rows.fragSmallSpec) :=
  OpenClaim.holds_of_wide 8 Try.f8 rfl rfl rfl rfl rfl rfl rfl ⟨rfl, rfl, rfl, rfl, rfl⟩ rfl rfl rfl rfl rfl (by kernel_rfl) Try.func8 (by kernel_rfl)
    (of_decide_eq_true (by kernel_rfl)) (by unfold Func.isWrapper; first | (rw [if_pos (by decide +kernel)]; kernel_rfl) | (rw [if_neg (by decide +kernel)]; exact ⟨rfl, rfl⟩))
    (fun os started H enc _ => fragSmall_lifted os started H enc)

theorem fragSmall_holds : Rows.FragSmallSaid := fragSmall_over
#print axioms fragSmall_holds
end Go.Proofs.Ytiedfdnjnjohdaa
