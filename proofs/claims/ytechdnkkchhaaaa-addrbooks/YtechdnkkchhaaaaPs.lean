/- Contracts of digit and Parse: the program's. -/
import Derived.Test.YtechdnkkchhaaaaPm
import Derived.Laws.Externs
set_option maxRecDepth 100000
namespace Go.Proofs.Ytechdnkkchhaaaa
open Go.RowKit Go.Proofs.PitotAddr

/-- The place of a sign among the digits; -1: it is none. -/
theorem first_digit (c : UInt8) : firstIdx digitsS c = if dv c < 16 then (dv c : Int) else -1 := by
  have H : ∀ i : Fin 256, firstIdx digitsS (UInt8.ofNat i.val) = if dv (UInt8.ofNat i.val) < 16 then (dv (UInt8.ofNat i.val) : Int) else -1 := by decide
  have e : UInt8.ofNat c.toNat = c := by simp
  have := H ⟨c.toNat, c.toNat_lt⟩
  simpa only [e] using this

theorem index_any (c : UInt8) (w : World) :
    (callFunc 66 #[.string digitsS, .int .u8 c.toNat]).run Try.prog w = .ok (.value (.int .i64 (firstIdx digitsS c))) w := by
  have h := run_callFunc_extern (P := Try.prog) (f := 66) (fn := Try.f66) (e := Extern.BytealgIndexByte.indexByte) Try.func66 (by kernel_rfl) (by kernel_rfl) (by kernel_rfl) (by kernel_rfl) #[.string digitsS, .int .u8 c.toNat] w
  rw [h, run_indexByte_string]
  simp [Result.andThen]

theorem digit_any (c : UInt8) (w : World) : Calls Try.prog 46 #[.int .u8 c.toNat] w fun r w' => r = .returned (.int .u8 (dv c : Nat)) ∧ w = w' := by
  have h66 := fun w => index_any c w
  have hf := first_digit c
  obtain ⟨F, HF⟩ : ∃ F, Hid (F = firstIdx digitsS c) := ⟨_, rfl⟩
  rw [← HF.out] at h66
  have h55 : ∀ w, Calls Try.prog 55 #[.string digitsS, .int .u8 c.toNat] w fun r w' => r = .returned (.int .i64 F) ∧ w = w' := fun w => by
    go_enter Try.func55, Try.ntmps55
    go_wp2
    go_returns
    exact ⟨rfl, rfl⟩
  have H55 := Lib.hid h55; clear h55 h66
  have h51 : ∀ w, Calls Try.prog 51 #[.string digitsS, .int .u8 c.toNat] w fun r w' => r = .returned (.int .i64 F) ∧ w = w' := fun w => by
    go_enter Try.func51, Try.ntmps51
    go_wp2_with (go_at_call 55; (with_reducible refine (H55.out _).mono ?_); rintro r w1 ⟨rfl, rfl⟩)
    go_returns
    exact ⟨rfl, rfl⟩
  have H51 := Lib.hid h51; clear h51 H55
  have HD : Hid (F = if dv c < 16 then (dv c : Int) else -1) := by show _ = _; rw [HF.out, hf]
  clear hf
  have hc := dv_cases c
  go_enter Try.func46, Try.ntmps46
  go_wp2_with (go_at_call 51; (with_reducible refine (H51.out _).mono ?_); rintro r w1 ⟨rfl, rfl⟩)
  go_returns
  refine ⟨ret_int ?_, rfl⟩
  have e := HD.out
  split at e
  · subst e; omega
  · subst e; omega
end Go.Proofs.Ytechdnkkchhaaaa
