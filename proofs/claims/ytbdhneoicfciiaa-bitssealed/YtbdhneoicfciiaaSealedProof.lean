/- For every string the law BitsSealed answers true: a text of an even length with its Ones put behind has the Ones 0. No conditions. -/
import Derived.Test.YtbdhneoicfciiaaRows
import Derived.Test.YtbdhneoicfciiaaAwake
import Derived.WalkKit
import Derived.ProofKit
import Derived.OpenShut
import Derived.ShutString
import Derived.ChangeOld
import Derived.Below
namespace Go.Proofs.Ytbdhneoicfciiaa
open Go.ChangeShapes Go.WideShapes Go.ChangeAt Go.RowKit
open Go.ChangeMaps (open_string shut_string)
set_option linter.unusedVariables false

theorem bitsSealed_own : ownKnob Try.prog.godebug = none := by kernel_rfl

theorem conv_two (w : World) (a b : UInt8) (m n : Int) (hm : m = a.toNat) (hn : n = b.toNat) :
    (convert 49 9 (.slice (some ⟨w.heap.size, 0, none⟩) 2 2)).run Try.prog (w.alloc (.cells #[.int .u8 m, .int .u8 n] 5)) = .ok (.string ⟨#[a, b]⟩) (w.alloc (.cells #[.int .u8 m, .int .u8 n] 5)) := by
  subst hm hn
  exact run_convert_bytes_back (P := Try.prog) (w.alloc (.cells #[.int .u8 a.toNat, .int .u8 b.toNat] 5)) 49 9 5 ⟨w.heap.size, 0, none⟩ 2 [a, b] Try.underlying49 Try.underlying5 Try.underlying9 (fun j hj => by
    have h2 : j = 0 ∨ j = 1 := by simp at hj; omega
    rcases h2 with rfl | rfl
    · exact World.cell?_alloc_mark w #[.int .u8 a.toNat, .int .u8 b.toNat] 5 (0, 0) 0
    · exact World.cell?_alloc_mark w #[.int .u8 a.toNat, .int .u8 b.toNat] 5 (0, 0) 1)

open Go.Proofs.PitotMath in
theorem sealed_ones (s : ByteArray) (h : s.size % 2 = 0) (n : Nat) (hn : n = ones s.data.toList) : ones (s ++ (⟨#[UInt8.ofNat (n / 256), UInt8.ofNat (n % 256)]⟩ : ByteArray)).data.toList = 0 := by
  have e : (s ++ (⟨#[UInt8.ofNat (n / 256), UInt8.ofNat (n % 256)]⟩ : ByteArray)).data.toList = s.data.toList ++ [UInt8.ofNat (n / 256), UInt8.ofNat (n % 256)] := by simp
  have hl := ones_le s.data.toList
  subst hn
  rw [e]
  exact ones_sealed s.data.toList h _ _ (by simp; omega) (by simp)

open Go.Proofs.PitotMath in
set_option maxHeartbeats 400000 in
theorem bitsSealed_walk (s : ByteArray) (hs : s.size ≤ maxLen) (w : World) :
    Calls Try.prog 6 #[.string s] w fun e w' => e = .returned (.bool true) ∧ Below w.heap.size w w' := by
  unfold maxLen at hs
  by_cases hb : 5000 < s.size
  · go_enter Try.func6, Try.ntmps6
    go_wp2_with (go_at_call 10; refine (awake_any _).mono ?_; rintro e w1 ⟨rfl, hb1⟩)
    go_returns
    exact ⟨rfl, hb1⟩
  · by_cases ho : s.size % 2 = 1
    · have ho' : ((s.size : Int) % 2 == 1) = true := by simp; omega
      go_enter Try.func6, Try.ntmps6
      go_wp2_with (go_at_call 10; refine (awake_any _).mono ?_; rintro e w1 ⟨rfl, hb1⟩)
      go_returns
      exact ⟨rfl, hb1⟩
    · have ho' : ((s.size : Int) % 2 == 1) = false := by simp; omega
      have hle := ones_le s.data.toList
      obtain ⟨n, Hn⟩ : ∃ n, Hid (n = ones s.data.toList) := ⟨_, rfl⟩
      rw [← Hn.out] at hle
      have hz := sealed_ones s (by omega) n Hn.out
      have HZ := Lib.hid hz; clear hz
      have hsz : (s ++ (⟨#[UInt8.ofNat (n / 256), UInt8.ofNat (n % 256)]⟩ : ByteArray)).size ≤ 70000 := by rw [ByteArray.size_append]; show s.size + 2 ≤ _; omega
      have hcv := fun w => conv_two w (UInt8.ofNat (n / 256)) (UInt8.ofNat (n % 256)) ((n : Int) / 256) ((n : Int) % 256) (by simp; omega) (by simp)
      go_enter Try.func6, Try.ntmps6
      go_wp2_with (first
        | (go_at_call 10; refine (awake_any _).mono ?_; rintro e w2 ⟨rfl, hb2⟩)
        | (go_at_call 15; (with_reducible refine (ones_any s _ (by omega)).mono ?_); rintro e w' ⟨rfl, rfl⟩; rw [← Hn.out])
        | (go_at_call 15; (with_reducible refine (ones_any (s ++ ⟨#[UInt8.ofNat (n / 256), UInt8.ofNat (n % 256)]⟩) _ hsz).mono ?_); rintro e w1 ⟨rfl, rfl⟩; rw [HZ.out]))
      go_returns
      exact ⟨rfl, ((Below.refl _ _).alloc (Nat.le_refl _) _).trans (hb2.mono (by simp))⟩

set_option maxRecDepth 100000 in
theorem bitsSealed_lifted (os : Os) (started : os.Started) (H : Type) (enc : TypeId × Value → H) :
    ReturnsInHanded {} Try.checked os 6 .any (Rows.bitsSealedSpec.pre6 enc Try.prog Try.f6 Rows.bitsSealedRow.domain false) (Rows.bitsSealedSpec.post enc Try.prog Try.f6 false true false false) := by
  refine returnsInHanded_of_change (C := Try.checked) bitsSealed_own started (by kernel_rfl) Try.func6
    (ChangeSpec.witness6 (enc := enc) (C := Try.checked) false ⟨#[], #[.string ByteArray.empty], []⟩ 8 (by kernel_rfl) (by kernel_rfl) (by kernel_rfl) (by kernel_rfl)) ?_
  intro W base args ds gs before hval0 hW hcnd _
  have hval : ∀ (j : Nat) t v, Try.f6.params[j]? = some t → args[j]? = some v → Value.okWide Try.prog W .any base t v := hval0
  have hW' := hW
  obtain ⟨p, q, hA0, hV, rfl, hfz, hnd⟩ := hW
  have hA : DataW.TrodAll enc Try.prog W 0 (fun _ => true) true Try.f6.params.toList args.toList ds p := hA0
  rw [Try.params6] at hA hval
  obtain ⟨v0, vs0, d0, ds0, p0, q0, hargs, rfl, rfl, h0, r0⟩ := trodAll_cons hA
  obtain ⟨rfl, rfl, rfl⟩ := trodAll_nil r0
  obtain rfl : args = #[v0] := by cases args; simp_all
  obtain ⟨rfl, rfl⟩ := trodVars_none hV
  obtain ⟨a0, rfl, rfl, rfl, w0⟩ := open_string Try.underlying9 (hval 0 9 v0 rfl rfl) h0
  clear hA0 hval0
  refine (bitsSealed_walk a0 w0 W).mono fun e W' ⟨he, bel⟩ => ?_
  subst he
  exact ⟨_, rfl, _, _, _, [], _, [], hW', trodAll_mk1 (shut_bool Try.underlying4 _), (trodAll_cons_mk (shut_string Try.underlying9 w0) trodAll_mk0), rfl, bel.frame _, fun h => by cases h⟩

theorem bitsSealed_over : Rows.bitsSealedRow.holds Try.pinned (OpenSpec.ofChange Rows.bitsSealedSpec) :=
  OpenClaim.holds_of_wide 6 Try.f6 rfl rfl rfl rfl rfl rfl rfl ⟨rfl, rfl, rfl, rfl, rfl⟩ rfl rfl rfl rfl rfl (by kernel_rfl) Try.func6 (by kernel_rfl)
    (of_decide_eq_true (by kernel_rfl)) (by unfold Func.isWrapper; first | (rw [if_pos (by decide +kernel)]; kernel_rfl) | (rw [if_neg (by decide +kernel)]; exact ⟨rfl, rfl⟩))
    (fun os started H enc _ => bitsSealed_lifted os started H enc)

theorem bitsSealed_holds : Rows.BitsSealedSaid := bitsSealed_over
#print axioms bitsSealed_holds
end Go.Proofs.Ytbdhneoicfciiaa
