/- For every string the law Ipv4Again answers true: what is decoded is encoded as the same bytes. No conditions. -/
import Derived.Test.YtneiemaepdknjaaRows
import Derived.Test.YtneiemaepdknjaaEx
import Derived.Test.YtneiemaepdknjaaPo
import Derived.Test.YtneiemaepdknjaaEq
import Derived.WalkKit
import Derived.ProofKit
import Derived.OpenShut
import Derived.ShutString
import Derived.ChangeOld
import Derived.Below
namespace Go.Proofs.Ytneiemaepdknjaa
open Go.ChangeShapes Go.WideShapes Go.ChangeAt Go.RowKit
open Go.ChangeMaps (open_string shut_string)
set_option linter.unusedVariables false

theorem ipv4Again_own : ownKnob Try.prog.godebug = none := by kernel_rfl
theorem ipv4Again_laid : laidOutB Try.prog = true := by kernel_rfl


open Go.Proofs.PitotIp
set_option maxRecDepth 100000 in
set_option maxHeartbeats 2000000 in
theorem ipv4Again_walk (s : ByteArray) (hs : s.size ≤ maxLen) (w : World) :
    Calls Try.prog 6 #[.string s] w fun e w' => e = .returned (.bool true) ∧ Below w.heap.size w w' := by
  unfold maxLen at hs
  by_cases hb : 5000 < s.size
  · go_enter Try.func6, Try.ntmps6
    go_wp2_with (go_at_call 9; (with_reducible refine (awake_any _).mono ?_); rintro e w1 ⟨rfl, hb1⟩)
    go_returns
    exact ⟨rfl, hb1⟩
  · rcases dec_cases s (by omega) with ⟨c, hc, H⟩ | ⟨h, t, f, g, hl⟩
    · have H13 := Lib.hid H; clear H
      have hc0 : ((c : Int) != 0) = true := by simpa using hc
      have hc1 : ¬ (c : Int) = 0 := hc
      clear hc
      have hz9 := zero9
      go_enter Try.func6, Try.ntmps6
      go_wp2_with (first
        | (go_at_call 13; (with_reducible refine (H13.out _).mono ?_); rintro e w1 ⟨rfl, hb1⟩)
        | (go_at_call 9; (with_reducible refine (awake_any _).mono ?_); rintro e w2 ⟨rfl, hb2⟩))
      go_returns
      have k1 := hb1.alloc hb1.size pkz
      exact ⟨rfl, k1.trans (hb2.mono k1.size)⟩
    · have hz := f.size
      have H13 := Lib.hid (fun w => dec_good s h t f (by omega) g hl w)
      have H10 := Lib.hid (fun w => enc_again s h t f (by omega) g hl w)
      have ha := g.all
      obtain ⟨n, Hn⟩ : ∃ n, Hid (n = h.all) := ⟨_, rfl⟩
      have hn : n ≤ s.size := by rw [Hn.out]; omega
      obtain ⟨i, Hi⟩ : ∃ v : Int, Hid (v = (PitotAddr.num h.i1 h.i0 : Nat)) := ⟨_, rfl⟩
      obtain ⟨m, Hm⟩ : ∃ v, Hid (v = decide (8192 ≤ h.part)) := ⟨_, rfl⟩
      obtain ⟨o, Ho⟩ : ∃ v : Int, Hid (v = (h.part % 8192 : Nat)) := ⟨_, rfl⟩
      obtain ⟨tt, Ht⟩ : ∃ v : Int, Hid (v = h.t.toNat) := ⟨_, rfl⟩
      obtain ⟨pr, Hp⟩ : ∃ v : Int, Hid (v = h.r.toNat) := ⟨_, rfl⟩
      obtain ⟨D, HD⟩ : ∃ v : ByteArray, Hid (v = ⟨(t.take (h.all - 20)).toArray⟩) := ⟨_, rfl⟩
      unfold hq at H13 H10
      rw [← HD.out, ← Hi.out, ← Hm.out, ← Ho.out, ← Ht.out, ← Hp.out] at H13 H10
      rw [← Hn.out] at H10
      have xs : (s.extract 0 n).size = n := by rw [ByteArray.size_extract]; omega
      obtain ⟨B, HB⟩ : ∃ B, Hid (B = s.extract 0 n) := ⟨_, rfl⟩
      have xB : s.extract 0 n = B := HB.out.symm
      rw [← HB.out] at H10 xs
      generalize h.src = sa at H13 H10
      generalize h.dst = da at H13 H10
      clear hl ha hz
      go_enter Try.func6, Try.ntmps6
      go_wp2_with (first
        | (go_at_call 13; (with_reducible refine (H13.out _).mono ?_); rintro e w1 ⟨rfl, hb1⟩)
        | (go_at_call 10; (with_reducible refine (H10.out _).mono ?_); rintro e w2 ⟨rfl, hb2⟩)
        | (go_at_call 9; (with_reducible refine (awake_any _).mono ?_); rintro e w3 ⟨rfl, hb3⟩))
      go_returns
      have k1 := hb1.alloc hb1.size (pkC i m o tt pr sa da D)
      have k2 := k1.trans (hb2.mono k1.size)
      exact ⟨rfl, k2.trans (hb3.mono k2.size)⟩


set_option maxRecDepth 100000 in
theorem ipv4Again_lifted (os : Os) (started : os.Started) (H : Type) (enc : TypeId × Value → H) :
    ReturnsInHanded {} Try.checked os 6 .any (Rows.ipv4AgainSpec.pre6 enc Try.prog Try.f6 Rows.ipv4AgainRow.domain false) (Rows.ipv4AgainSpec.post enc Try.prog Try.f6 false true false false) := by
  refine returnsInHanded_of_change (C := Try.checked) ipv4Again_own started (by kernel_rfl) Try.func6
    (ChangeSpec.witness6 (enc := enc) (C := Try.checked) false ⟨#[], #[.string ByteArray.empty], []⟩ 8 (by kernel_rfl) (by kernel_rfl) (by kernel_rfl) (by kernel_rfl)) ?_
  intro W base args ds gs before hval0 hW hcnd _
  have hval : ∀ (j : Nat) t v, Try.f6.params[j]? = some t → args[j]? = some v → Value.okWide Try.prog W .any base t v := hval0
  have hW' := hW
  obtain ⟨p, q, hA0, hV, rfl, hfz, hnd⟩ := hW
  have hA : DataW.TrodAll enc Try.prog W 0 (fun _ => true) true Try.f6.params.toList args.toList ds p := hA0
  rw [Try.params6] at hA hval
  obtain ⟨v0, vs0, d0, ds0, p0, q0, hargs, rfl, rfl, h0, r0⟩ := trodAll_cons hA
  obtain ⟨rfl, rfl, rfl⟩ := trodAll_nil r0
  obtain rfl : args = #[v0] := by cases args; simp_all
  obtain ⟨rfl, rfl⟩ := trodVars_none hV
  obtain ⟨a0, rfl, rfl, rfl, w0⟩ := open_string Try.underlying9 (hval 0 9 v0 rfl rfl) h0
  clear hA0 hval0
  have hwalk := ipv4Again_walk a0 w0 W

  refine hwalk.mono fun e W' ⟨he, bel⟩ => ?_
  subst he
  exact ⟨_, rfl, _, _, _, [], _, [], hW', trodAll_mk1 (shut_bool Try.underlying4 _), (trodAll_cons_mk (shut_string Try.underlying9 w0) trodAll_mk0), rfl, bel.frame _, fun h => by cases h⟩

theorem ipv4Again_over : Rows.ipv4AgainRow.holds Try.pinned (OpenSpec.ofChange Rows.ipv4AgainSpec) :=
  OpenClaim.holds_of_wide 6 Try.f6 rfl rfl rfl rfl rfl rfl rfl ⟨rfl, rfl, rfl, rfl, rfl⟩ rfl rfl rfl rfl rfl (by kernel_rfl) Try.func6 (by kernel_rfl)
    (of_decide_eq_true (by kernel_rfl)) (by unfold Func.isWrapper; first | (rw [if_pos (by decide +kernel)]; kernel_rfl) | (rw [if_neg (by decide +kernel)]; exact ⟨rfl, rfl⟩))
    (fun os started H enc _ => ipv4Again_lifted os started H enc)

theorem ipv4Again_holds : Rows.Ipv4AgainSaid := ipv4Again_over
#print axioms ipv4Again_holds
end Go.Proofs.Ytneiemaepdknjaa
