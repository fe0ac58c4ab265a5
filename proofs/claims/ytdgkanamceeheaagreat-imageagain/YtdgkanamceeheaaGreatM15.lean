/- The program's reader: a Fresh. -/
import Derived.Test.YtdgkanamceeheaaGreatM14
import Derived.Deep.CutRange
import Derived.Deep.RegionHeld3
import Derived.Handy
set_option linter.unusedVariables false
set_option maxRecDepth 100000
set_option linter.unusedVariables false
namespace Go.Proofs.YtdgkanamceeheaaGreat.Im
open Go.RowKit
open PitotImg (St rd)
/-- What is wrong: 1, or nothing. -/
def wr1 (b : Bool) : Int := if b = true then 1 else 0
theorem wr1_none {b : Bool} : wr1 (b && (none : St).isSome) = 0 := by cases b <;> rfl
theorem wr1_f {l : List UInt8} : wr1 (false && (some l : St).isSome) = 0 := rfl
theorem wr1_t {l : List UInt8} : wr1 (true && (some l : St).isSome) = 1 := rfl
set_option maxHeartbeats 1000000 in
theorem tooFresh_any (n : Int) (R : Bool) (h : decide (1099511627776 < IntKind.u64.wrap n) = R) (w : World) : Calls Tryz.prog 112 #[.int .i64 n] w fun e w' => e = .returned (.bool R) ∧ w = w' := by
  go_enter Tryz.func112, Tryz.ntmps112
  go_wp2
  go_returns
  exact ⟨rfl, rfl⟩
set_option maxHeartbeats 2000000 in
theorem fresh_any (p r : Nat) (hi lo : Int) (σ σ1 σ2 : St) (w : World) (h : PS w p r 0 σ) (hpr : p ≠ r) (h1 : rd 4 σ = (hi, σ1)) (h2 : rd 4 σ1 = (lo, σ2)) : Calls Tryz.prog 89 #[.pointer (some ⟨p, 0, none⟩)] w fun e w' => e = .returned (.int .i64 (PitotImg.joinF hi lo)) ∧ PS w' p r (wr1 (PitotImg.wrongF hi lo && σ2.isSome)) σ2 ∧ Fr w.heap.size r p w w' := by
  have HN1 := Lib.hid (pU32_of (r := r) h1)
  have HN2 := Lib.hid (pU32_of (r := r) h2)
  have HPR := Lib.hid hpr
  have HP : Hid (w.heap[p]? = some (.cells #[.pointer (some ⟨r, 0, none⟩), .int .i64 0] 50)) := h.1
  have HR : Hid (RS 82 w r σ) := h.2
  have HF : Hid (Fr w.heap.size r p w w) := Fr.refl
  have b1 := rd_ge h1
  have b2 := rd_ge h2
  have b3 : hi < 4294967296 := b1.2
  have b4 : lo < 4294967296 := b2.2
  have b5 := b1.1
  have b6 := b2.1
  have HJ := Lib.hid (PitotImg.or_join hi lo b5 b3 b6 b4)
  have HT := Lib.hid (tooFresh_any _ _ (PitotImg.join_wrong hi lo b5 b3 b6 b4))
  obtain ⟨F, HFF⟩ : ∃ F, PitotImg.joinF hi lo = F := ⟨_, rfl⟩
  obtain ⟨wf, hwf⟩ : ∃ b, PitotImg.wrongF hi lo = b := ⟨_, rfl⟩
  rw [HFF] at HJ HT ⊢
  rw [hwf] at HT ⊢
  obtain ⟨xx, Hxx⟩ : ∃ x, Hid (wr1 (wf && σ2.isSome) = x) := ⟨_, Lib.hid rfl⟩
  rw [Hxx.out]
  clear h h1 h2 hpr b1 b2 HFF hwf
  go_enter Tryz.func89, Tryz.ntmps89
  go_upto_region 1 with (fail)
  have HPd : Hid ((World.drew w).heap[p]? = _) := HP.out
  have HRd : Hid (RS 82 (World.drew w) r _) := HR.out
  have HFd := Lib.hid (HF.out.trans Fr.dr)
  clear HP HR HF
  have HP := HPd
  have HR := HRd
  have HF := HFd
  clear HPd HRd HFd
  refine wp_region_held_drew (S := (fun w' => w'.cell? ⟨p, 0, none⟩ = some (.pointer (some ⟨r, 0, none⟩)))) (by kernel_rfl) ?_ (fun hHeld => ?_)
  · exact lies_cell HP.out 0
  refine wpAnyH_take (i := 0) (oi := ⟨some 4, .move (.tmp 0), 46, "read.go:75", #[], none⟩) (v := ?_) rfl (by kernel_rfl) (by kernel_rfl) (by kernel_rfl) (fun _ _ _ h => h) (Or.inl ⟨by rfl, ?_⟩) (by assumption) ?_
  rotate_left
  focus ((intro w hSw; (try dsimp only at hSw); clear hSw; go_simp) <;> (with_reducible rfl))
  try simp only [Act.put, List.setIfInBounds_toArray, List.set_cons_zero, List.set_cons_succ]
  refine wpAnyH_take (i := 1) (oi := ⟨some 5, .nilCheck (.tmp 4), 0, "read.go:75", #[⟨0, .data⟩], none⟩) (v := ?_) rfl (by kernel_rfl) (by kernel_rfl) (by kernel_rfl) (fun _ _ _ h => h) (Or.inl ⟨by rfl, ?_⟩) (by assumption) ?_
  rotate_left
  focus ((intro w hSw; (try dsimp only at hSw); clear hSw; go_simp) <;> (with_reducible rfl))
  try simp only [Act.put, List.setIfInBounds_toArray, List.set_cons_zero, List.set_cons_succ]
  refine wpAnyH_take (i := 2) (oi := ⟨some 6, .fieldAddr 50 (.tmp 5) 0, 0, "read.go:75", #[⟨1, .data⟩], none⟩) (v := ?_) rfl (by kernel_rfl) (by kernel_rfl) (by kernel_rfl) (fun _ _ _ h => h) (Or.inl ⟨by rfl, ?_⟩) (by assumption) ?_
  rotate_left
  focus ((intro w hSw; (try dsimp only at hSw); clear hSw; go_simp) <;> (with_reducible rfl))
  try simp only [Act.put, List.setIfInBounds_toArray, List.set_cons_zero, List.set_cons_succ]
  refine wpAnyH_take (i := 3) (oi := ⟨some 7, .load 47 (.tmp 6), 47, "read.go:75", #[⟨2, .data⟩], none⟩) (v := ?_) rfl (by kernel_rfl) (by kernel_rfl) (by kernel_rfl) (fun _ _ _ h => h) (Or.inl ⟨by rfl, ?_⟩) (by assumption) ?_
  rotate_left
  focus ((intro w hSw; (try dsimp only at hSw); have c0 := hSw; clear hSw; go_simp) <;> (with_reducible rfl))
  try simp only [Act.put, List.setIfInBounds_toArray, List.set_cons_zero, List.set_cons_succ]
  refine wpAnyH_take (i := 6) (oi := ⟨some 10, .move (.tmp 0), 46, "read.go:75", #[], none⟩) (v := ?_) rfl (by kernel_rfl) (by kernel_rfl) (by kernel_rfl) (fun _ _ _ h => h) (Or.inl ⟨by rfl, ?_⟩) (by assumption) ?_
  rotate_left
  focus ((intro w hSw; (try dsimp only at hSw); clear hSw; go_simp) <;> (with_reducible rfl))
  try simp only [Act.put, List.setIfInBounds_toArray, List.set_cons_zero, List.set_cons_succ]
  refine wpAnyH_take (i := 7) (oi := ⟨some 11, .nilCheck (.tmp 10), 0, "read.go:75", #[⟨6, .data⟩], none⟩) (v := ?_) rfl (by kernel_rfl) (by kernel_rfl) (by kernel_rfl) (fun _ _ _ h => h) (Or.inl ⟨by rfl, ?_⟩) (by assumption) ?_
  rotate_left
  focus ((intro w hSw; (try dsimp only at hSw); clear hSw; go_simp) <;> (with_reducible rfl))
  try simp only [Act.put, List.setIfInBounds_toArray, List.set_cons_zero, List.set_cons_succ]
  refine wpAnyH_take (i := 8) (oi := ⟨some 12, .fieldAddr 50 (.tmp 11) 0, 0, "read.go:75", #[⟨7, .data⟩], none⟩) (v := ?_) rfl (by kernel_rfl) (by kernel_rfl) (by kernel_rfl) (fun _ _ _ h => h) (Or.inl ⟨by rfl, ?_⟩) (by assumption) ?_
  rotate_left
  focus ((intro w hSw; (try dsimp only at hSw); clear hSw; go_simp) <;> (with_reducible rfl))
  try simp only [Act.put, List.setIfInBounds_toArray, List.set_cons_zero, List.set_cons_succ]
  refine wpAnyH_take (i := 9) (oi := ⟨some 13, .load 47 (.tmp 12), 47, "read.go:75", #[⟨8, .data⟩], none⟩) (v := ?_) rfl (by kernel_rfl) (by kernel_rfl) (by kernel_rfl) (fun _ _ _ h => h) (Or.inl ⟨by rfl, ?_⟩) (by assumption) ?_
  rotate_left
  focus ((intro w hSw; (try dsimp only at hSw); have c0 := hSw; clear hSw; go_simp) <;> (with_reducible rfl))
  try simp only [Act.put, List.setIfInBounds_toArray, List.set_cons_zero, List.set_cons_succ]
  refine wpAnyH_ready (rs := [4]) (by kernel_rfl) (by simp) ?_
  refine AllReadyH.cons (o := ⟨some 8, .call ⟨.value (.func 40), #[.tmp 7], #[47]⟩, 3, "read.go:75", #[⟨3, .data⟩], none⟩) rfl (fun K hK => ?_) AllReadyH.nil
  have c0 := lies_cell HP.out 0
  go_simp
  (go_at_call 40; (with_reducible refine (HN1.out _ HR.out).mono ?_); rintro e V ⟨rfl, hw, hg⟩; go_wp2_with fail)
  clear c0
  have HPd := Lib.hid (lies_grown HP.out hg HPR.out)
  have HRd := Lib.hid hw
  have HFd := Lib.hid (Fr.of_grown (base := w.heap.size) (b := p) HF.out hg)
  clear HP HR HF hg hw
  have HP := HPd
  have HR := HRd
  have HF := HFd
  clear HPd HRd HFd
  refine hK.out _ _ ?_ (fun hHeld => ?_)
  · exact lies_cell HP.out 0
  clear hK K
  try simp only [Act.put, List.setIfInBounds_toArray, List.set_cons_zero, List.set_cons_succ]
  refine wpAnyH_take (i := 5) (oi := ⟨some 9, .binOp .shl 3 (.tmp 8) (.const (.int .u64 32)) 137, 3, "read.go:75", #[⟨4, .data⟩], none⟩) (v := ?_) rfl (by kernel_rfl) (by kernel_rfl) (by kernel_rfl) (fun _ _ _ h => h) (Or.inl ⟨by rfl, ?_⟩) (by assumption) ?_
  rotate_left
  focus ((intro w hSw; (try dsimp only at hSw); clear hSw; go_simp) <;> (with_reducible rfl))
  try simp only [Act.put, List.setIfInBounds_toArray, List.set_cons_zero, List.set_cons_succ]
  refine wpAnyH_ready (rs := [10]) (by kernel_rfl) (by simp) ?_
  refine AllReadyH.cons (o := ⟨some 14, .call ⟨.value (.func 40), #[.tmp 13], #[47]⟩, 3, "read.go:75", #[⟨9, .data⟩, ⟨4, .chain⟩], none⟩) rfl (fun K hK => ?_) AllReadyH.nil
  have c0 := lies_cell HP.out 0
  go_simp
  (go_at_call 40; (with_reducible refine (HN2.out _ HR.out).mono ?_); rintro e V ⟨rfl, hw, hg⟩; go_wp2_with fail)
  clear c0
  have HPd := Lib.hid (lies_grown HP.out hg HPR.out)
  have HRd := Lib.hid hw
  have HFd := Lib.hid (Fr.of_grown (base := w.heap.size) (b := p) HF.out hg)
  clear HP HR HF hg hw
  have HP := HPd
  have HR := HRd
  have HF := HFd
  clear HPd HRd HFd
  refine hK.out _ _ ?_ (fun hHeld => ?_)
  · exact lies_cell HP.out 0
  clear hK K
  try simp only [Act.put, List.setIfInBounds_toArray, List.set_cons_zero, List.set_cons_succ]
  refine wpAnyH_take (i := 11) (oi := ⟨some 15, .binOp .or 3 (.tmp 9) (.tmp 14) 3, 3, "read.go:75", #[⟨5, .data⟩, ⟨10, .data⟩], none⟩) (v := ?_) rfl (by kernel_rfl) (by kernel_rfl) (by kernel_rfl) (fun _ _ _ h => h) (Or.inl ⟨by rfl, ?_⟩) (by assumption) ?_
  rotate_left
  focus ((intro w hSw; (try dsimp only at hSw); clear hSw; go_simp) <;> (with_reducible rfl))
  try simp only [Act.put, List.setIfInBounds_toArray, List.set_cons_zero, List.set_cons_succ]
  refine wpAnyH_take (i := 12) (oi := ⟨some 3, .assign (.tmp 15), 3, "read.go:75", #[⟨11, .data⟩, ⟨10, .chain⟩, ⟨0, .phase⟩, ⟨1, .phase⟩, ⟨2, .phase⟩, ⟨3, .phase⟩, ⟨4, .phase⟩, ⟨5, .phase⟩, ⟨6, .phase⟩, ⟨7, .phase⟩, ⟨8, .phase⟩, ⟨9, .phase⟩, ⟨10, .phase⟩, ⟨11, .phase⟩], none⟩) (v := ?_) rfl (by kernel_rfl) (by kernel_rfl) (by kernel_rfl) (fun _ _ _ h => h) (Or.inl ⟨by rfl, ?_⟩) (by assumption) ?_
  rotate_left
  focus ((intro w hSw; (try dsimp only at hSw); clear hSw; go_simp) <;> (with_reducible rfl))
  try simp only [Act.put, List.setIfInBounds_toArray, List.set_cons_zero, List.set_cons_succ]
  refine wpAnyH_done (by kernel_rfl) ?_ _
  clear hHeld
  rw [HJ.out]
  clear b3 b4 b5 b6 HJ HN1 HN2
  have HE0 := Lib.hid (perr_any p r 0 σ2 V ⟨HP.out, HR.out⟩)
  cases σ2 with
  | none =>
    have HE : Hid (Calls Tryz.prog 50 #[.pointer (some ⟨p, 0, none⟩)] V fun e w' => e = .returned (.int .i64 10) ∧ V = w') := HE0.out
    have HX : Hid (PS V p r xx none) := by show PS _ _ _ _ _; rw [← Hxx.out, wr1_none]; exact ⟨HP.out, HR.out⟩
    go_wp2_with (go_at_call 50; (with_reducible refine (HE.out).mono ?_); rintro e w' ⟨rfl, rfl⟩)
    go_returns
    exact ⟨rfl, HX.out, HF.out⟩
  | some l =>
    have HE : Hid (Calls Tryz.prog 50 #[.pointer (some ⟨p, 0, none⟩)] V fun e w' => e = .returned (.int .i64 0) ∧ V = w') := HE0.out
    clear HE0
    cases wf with
    | false =>
      have HX : Hid (PS V p r xx (some l)) := by show PS _ _ _ _ _; rw [← Hxx.out, wr1_f]; exact ⟨HP.out, HR.out⟩
      go_wp2_with (first
        | (go_at_call 50; (with_reducible refine (HE.out).mono ?_); rintro e w' ⟨rfl, rfl⟩)
        | (go_at_call 112; (with_reducible refine (HT.out _).mono ?_); rintro e w' ⟨rfl, rfl⟩))
      go_returns
      exact ⟨rfl, HX.out, HF.out⟩
    | true =>
      have c1 := lies_cell HP.out 1
      have f1 := lies_frozen HP.out 1
      have HX : Hid (PS (V.setCell ⟨p, 1, none⟩ (.int .i64 1)) p r xx (some l)) := by show PS _ _ _ _ _; rw [← Hxx.out, wr1_t]; exact ⟨lies_set HP.out 1 _, RS.keep HR.out (heap_set_ne HPR.out)⟩
      have HY : Hid (Fr w.heap.size r p w (V.setCell ⟨p, 1, none⟩ (.int .i64 1))) := Fr.set HF.out
      go_wp2_with (first
        | (go_at_call 50; (with_reducible refine (HE.out).mono ?_); rintro e w' ⟨rfl, rfl⟩)
        | (go_at_call 112; (with_reducible refine (HT.out _).mono ?_); rintro e w' ⟨rfl, rfl⟩))
      go_returns
      exact ⟨rfl, HX.out, HY.out⟩
end Go.Proofs.YtdgkanamceeheaaGreat.Im
