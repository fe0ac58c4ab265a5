/- For every list of strings the law CrcSums answers true: the check sum of texts is that of all of them, one behind the other. No conditions. -/
import Derived.Test.YtplknfdbgcdaoaaRows
import Derived.Test.YtplknfdbgcdaoaaSt
import Derived.WalkKit
import Derived.ProofKit
import Derived.OpenShut
import Derived.ShutString
import Derived.ChangeOld
import Derived.Below
namespace Go.Proofs.Ytplknfdbgcdaoaa
open Go.ChangeShapes Go.WideShapes Go.ChangeAt Go.RowKit
open Go.ChangeMaps (open_string shut_string)
set_option linter.unusedVariables false

theorem crcSums_own : ownKnob Try.prog.godebug = none := by kernel_rfl
theorem crcSums_laid : laidOutB Try.prog = true := by kernel_rfl

open Go.Proofs.PitotCrc in
set_option maxRecDepth 100000 in
set_option maxHeartbeats 2000000 in
theorem crcSums_walk {w : World} (A : Option Addr) (cap : Nat) (l : List ByteArray) (hi : StrsAt w A l) (hl : l.length ≤ maxLen) (hz : ∀ s ∈ l, s.size ≤ maxLen) (W : World) (hW : W = w) :
    Calls Try.prog 4 #[.slice A l.length cap] W fun e w' => e = .returned (.bool true) ∧ Below W.heap.size W w' := by
  subst hW
  unfold maxLen at hl hz
  obtain ⟨n, Hn⟩ : ∃ n, Hid (n = l.length) := ⟨_, rfl⟩
  rw [← Hn.out] at hl ⊢
  have HZ := Lib.hid hz; clear hz
  by_cases h1 : 20 < n
  · go_enter Try.func4, Try.ntmps4
    go_wp2_with (go_at_call 10; refine (awake_any _).mono ?_; rintro e w1 ⟨rfl, hb1⟩)
    go_returns
    exact ⟨rfl, hb1⟩
  · go_enter Try.func4, Try.ntmps4
    go_wp2
    go_loop [3, 4] (fun v3 v4 => ∃ (k : Nat) (T : ByteArray), k ≤ n ∧ v4 = .int .i64 k ∧ v3 = .string T ∧ T.size ≤ 2000 * k ∧ Hid (T.data.toList = cat (l.take k)) ∧ Hid (∀ s ∈ l.take k, s.size ≤ 2000)) (fun _ v4 => n - (intOf v4).toNat)
    case atStart => exact ⟨0, ⟨#[]⟩, Nat.zero_le _, rfl, rfl, by decide, by show _ = _; simp [cat], fun s hs => by simp at hs⟩
    case round =>
      obtain ⟨k, T, hk, rfl, rfl, hT, HT, HK⟩ := hrel
      by_cases hlt : k < n
      · have hlt' : k < l.length := by rw [← Hn.out]; exact hlt
        obtain ⟨b, off, rfl, hbl, hc⟩ := hi.get hlt'
        have hsn : l.take (k + 1) = l.take k ++ [l[k]] := List.take_succ_eq_append_getElem hlt'
        have hxz := HZ.out _ (List.getElem_mem hlt')
        obtain ⟨x, hx⟩ : ∃ x, x = l[k] := ⟨_, rfl⟩
        rw [← hx] at hc hsn hxz
        have HSN := Lib.hid hsn
        have HX := Lib.hid hx
        clear hsn hx
        by_cases hbig : 2000 < x.size
        · go_wp2_with (go_at_call 10; refine (awake_any _).mono ?_; rintro e w1 ⟨rfl, hb1⟩)
          go_returns
          exact ⟨rfl, hb1⟩
        · go_wp2
          go_round
          case rel =>
            refine ⟨k + 1, T ++ x, by omega, by go_num, rfl, by rw [ByteArray.size_append]; omega, ?_, ?_⟩
            · show _ = _
              rw [HSN.out, cat_snoc, ByteArray.data_append, Array.toList_append, HT.out]
            · intro s hs
              rw [HSN.out] at hs
              rcases List.mem_append.1 hs with hs | hs
              · exact HK.out s hs
              · simp at hs; subst hs; omega
          case measure => simp [intOf]; omega
      · have hlk : l.take k = l := List.take_of_length_le (by rw [← Hn.out]; omega)
        have H1 : Hid (∀ s ∈ l, s.size ≤ 100000) := fun s hs => by
          have := HK.out s (by rw [hlk]; exact hs)
          omega
        have hT2 := HT.out
        rw [hlk] at hT2
        have h15 := fun w => refSum_any T w (by omega)
        have h14 := fun w hw => sum_any A cap l w hw (by rw [← Hn.out]; omega) H1.out n Hn.out _ rfl
        rw [hT2] at h15
        obtain ⟨S, HS⟩ : ∃ S, Hid (S = sum (cat l)) := ⟨_, rfl⟩
        rw [← HS.out] at h15 h14
        have H14 := Lib.hid h14
        have H15 := Lib.hid h15
        clear h14 h15 hT2 hlk
        go_wp2_with (first
          | (go_at_call 14; refine (H14.out _ hi).mono ?_; rintro e w1 ⟨rfl, hb1⟩)
          | (go_at_call 15; refine (H15.out _).mono ?_; rintro e w2 ⟨rfl, rfl⟩)
          | (go_at_call 10; refine (awake_any _).mono ?_; rintro e w3 ⟨rfl, hb3⟩))
        go_returns
        exact ⟨rfl, hb1.trans (hb3.mono hb1.size)⟩

set_option maxRecDepth 100000 in
theorem crcSums_lifted (os : Os) (started : os.Started) (H : Type) (enc : TypeId × Value → H) :
    ReturnsInHanded {} Try.checked os 4 .any (Rows.crcSumsSpec.pre6 enc Try.prog Try.f4 Rows.crcSumsRow.domain false) (Rows.crcSumsSpec.post enc Try.prog Try.f4 false true false false) := by
  refine returnsInHanded_of_change (C := Try.checked) crcSums_own started (by kernel_rfl) Try.func4
    (ChangeSpec.witness6 (enc := enc) (C := Try.checked) false ⟨#[], #[.slice none 0 0], []⟩ 8 (by kernel_rfl) (by kernel_rfl) (by kernel_rfl) (by kernel_rfl)) ?_
  intro W base args ds gs before hval0 hW hcnd _
  have hval : ∀ (j : Nat) t v, Try.f4.params[j]? = some t → args[j]? = some v → Value.okWide Try.prog W .any base t v := hval0
  have hW' := hW
  obtain ⟨p, q, hA0, hV, rfl, hfz, hnd⟩ := hW
  have hA : DataW.TrodAll enc Try.prog W 0 (fun _ => true) true Try.f4.params.toList args.toList ds p := hA0
  rw [Try.params4] at hA hval
  obtain ⟨v0, vs0, d0, ds0, p0, q0, hargs, rfl, rfl, h0, r0⟩ := trodAll_cons hA
  obtain ⟨rfl, rfl, rfl⟩ := trodAll_nil r0
  obtain rfl : args = #[v0] := by cases args; simp_all
  obtain ⟨rfl, rfl⟩ := trodVars_none hV
  obtain ⟨c0, len0, cap0, rfl⟩ := okWide_slice Try.underlying29 (hval 0 29 v0 rfl rfl)
  have k0 := h0
  have lt0 : ∀ x ∈ p0, x.block < W.heap.size := by obtain ⟨m, hm⟩ := k0; exact DataW.trod_lt m _ _ _ hm
  obtain ⟨fu0, hf0⟩ := h0
  obtain ⟨Ad0, cap0, l0, e0, hi0, hl0, hz0⟩ := strs_open (v := .slice c0 len0 cap0) (by simpa [Value.cells] using hf0)
  clear hA0 hval0
  have hwalk := crcSums_walk Ad0 cap0 l0 hi0 hl0 hz0 W rfl
  rw [← e0] at hwalk
  refine hwalk.mono fun e W' ⟨he, bel⟩ => ?_
  subst he
  exact ⟨_, rfl, _, _, _, [], _, [], hW', trodAll_mk1 (shut_bool Try.underlying4 _), (trodAll_cons_mk (Below.trod crcSums_laid (by kernel_rfl) (of_decide_eq_true (by kernel_rfl)) k0 bel lt0) trodAll_mk0), rfl, bel.frame _, fun h => by cases h⟩

theorem crcSums_over : Rows.crcSumsRow.holds Try.pinned (OpenSpec.ofChange Rows.crcSumsSpec) :=
  OpenClaim.holds_of_wide 4 Try.f4 rfl rfl rfl rfl rfl rfl rfl ⟨rfl, rfl, rfl, rfl, rfl⟩ rfl rfl rfl rfl rfl (by kernel_rfl) Try.func4 (by kernel_rfl)
    (of_decide_eq_true (by kernel_rfl)) (by unfold Func.isWrapper; first | (rw [if_pos (by decide +kernel)]; kernel_rfl) | (rw [if_neg (by decide +kernel)]; exact ⟨rfl, rfl⟩))
    (fun os started H enc _ => crcSums_lifted os started H enc)

theorem crcSums_holds : Rows.CrcSumsSaid := crcSums_over
#print axioms crcSums_holds
end Go.Proofs.Ytplknfdbgcdaoaa
