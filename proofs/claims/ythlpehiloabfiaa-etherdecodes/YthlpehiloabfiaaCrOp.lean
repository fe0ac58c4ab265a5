/- Contracts of Seal, Open (the program's) and Seal, Open (the document's); awake. -/
import Derived.Test.YthlpehiloabfiaaCrSm
namespace Go.Proofs.Ythlpehiloabfiaa.Cr
open Go.RowKit Go.Proofs.PitotCrc

/-- A text with its check sum behind. -/
def sealB (s : ByteArray) : ByteArray := s ++ ⟨(le4 (sum s.data.toList)).toArray⟩

theorem sealB_list (s : ByteArray) : (sealB s).data.toList = sealed s.data.toList := by simp [sealB, sealed]
theorem sealB_size (s : ByteArray) : (sealB s).size = s.size + 4 := by
  unfold sealB; rw [ByteArray.size_append]; rfl

theorem strs_one {w : World} (s : ByteArray) (t : TypeId) : StrsAt (w.alloc (.cells #[.string s] t)) (some ⟨w.heap.size, 0, none⟩) [s] := by
  intro _
  refine ⟨w.heap.size, 0, rfl, by simp, fun i hi => ?_⟩
  obtain rfl : i = 0 := by simp at hi; omega
  exact lies_cell (heap_alloc_new w _) 0

theorem sum_one (s : ByteArray) (t : TypeId) (w : World) (hs : s.size ≤ 100000) :
    Calls Try.prog 49 #[.slice (some ⟨w.heap.size, 0, none⟩) 1 1] (w.alloc (.cells #[.string s] t)) fun e w' => e = .returned (.int .u32 (sum s.data.toList : Nat)) ∧ Below w.heap.size w w' := by
  have hb : Below w.heap.size w (w.alloc (.cells #[.string s] t)) := (Below.refl _ _).alloc (Nat.le_refl _) _
  refine (sum_any _ 1 [s] _ (strs_one s t) (by simp) (by simp; exact hs) 1 rfl (sum s.data.toList) (by simp [cat])).mono fun e w' ⟨he, hw⟩ => ⟨he, hb.trans (hw.mono (by simp))⟩

theorem sum_drew (s : ByteArray) (t : TypeId) (w : World) (hs : s.size ≤ 100000) :
    Calls Try.prog 49 #[.slice (some ⟨w.heap.size, 0, none⟩) 1 1] (w.alloc (.cells #[.string s] t)).drew fun e w' => e = .returned (.int .u32 (sum s.data.toList : Nat)) ∧ Below w.heap.size w w' := by
  have hb : Below w.heap.size w (w.alloc (.cells #[.string s] t)).drew := ((Below.refl _ _).alloc (Nat.le_refl _) _).drew
  have hst : StrsAt (w.alloc (.cells #[.string s] t)).drew (some ⟨w.heap.size, 0, none⟩) [s] := strs_one (w := w) s t
  refine (sum_any _ 1 [s] _ hst (by simp) (by simp; exact hs) 1 rfl (sum s.data.toList) (by simp [cat])).mono fun e w' ⟨he, hw⟩ => ⟨he, hb.trans (hw.mono hb.size)⟩

set_option maxRecDepth 100000 in
set_option maxHeartbeats 400000 in
theorem seal_any (s : ByteArray) (w : World) (hs : s.size ≤ 100000) :
    Calls Try.prog 25 #[.string s] w fun e w' => e = .returned (.string (sealB s)) ∧ Below w.heap.size w w' := by
  have hlt := sum_lt s.data.toList
  obtain ⟨S, HS⟩ : ∃ S, Hid (S = sum s.data.toList) := ⟨_, rfl⟩
  have HB : Hid (sealB s = s ++ ⟨(le4 S).toArray⟩) := by show _ = _; rw [HS.out]; rfl
  obtain ⟨B, HB2⟩ : ∃ B, Hid (B = sealB s) := ⟨_, rfl⟩
  rw [← HB2.out] at HB ⊢
  have h4 : ({ data := (le4 S).toArray } : ByteArray).size = 4 := rfl
  go_enter Try.func25, Try.ntmps25
  go_wp2_with (first
    | (go_at_call 49; refine (sum_one s _ w hs).mono ?_; rintro e w1 ⟨rfl, hb1⟩; rw [← HS.out])
    | (go_at_call 48; refine (spread_any S _ (by rw [HS.out]; exact hlt)).mono ?_; rintro e w2 ⟨rfl, hb2⟩))
  go_returns
  exact ⟨by rw [HB.out]; rfl, hb1.trans (hb2.mono hb1.size)⟩

theorem conv_four (w : World) (n : Nat) :
    (convert 36 9 (.slice (some ⟨w.heap.size, 0, none⟩) 4 4)).run Try.prog (w.alloc (.cells #[.int .u8 ((n : Int) % 256), .int .u8 ((n : Int) / 256 % 256), .int .u8 ((n : Int) / 65536 % 256), .int .u8 ((n : Int) / 16777216 % 256)] 5)) = .ok (.string ⟨(le4 n).toArray⟩) (w.alloc (.cells #[.int .u8 ((n : Int) % 256), .int .u8 ((n : Int) / 256 % 256), .int .u8 ((n : Int) / 65536 % 256), .int .u8 ((n : Int) / 16777216 % 256)] 5)) := by
  refine run_convert_bytes_back (P := Try.prog) _ 36 9 5 ⟨w.heap.size, 0, none⟩ 4 (le4 n) Try.underlying36 Try.underlying5 Try.underlying9 (fun j hj => ?_)
  have e : (⟨w.heap.size, 0, none⟩ : Addr).add j = ⟨w.heap.size, j, none⟩ := by unfold Addr.add; split <;> simp_all
  rw [e, World.cell?_alloc_mark w _ 5 (0, 0) j]
  have hj' : j < 4 := hj
  have : j = 0 ∨ j = 1 ∨ j = 2 ∨ j = 3 := by omega
  rcases this with rfl | rfl | rfl | rfl <;> simp [le4]

set_option maxRecDepth 100000 in
set_option maxHeartbeats 400000 in
theorem refSeal_any (s : ByteArray) (w : World) (hs : s.size ≤ 100000) :
    Calls Try.prog 28 #[.string s] w fun e w' => e = .returned (.string (sealB s)) ∧ Below w.heap.size w w' := by
  have hlt := sum_lt s.data.toList
  obtain ⟨S, HS⟩ : ∃ S, Hid (S = sum s.data.toList) := ⟨_, rfl⟩
  have HB : Hid (sealB s = s ++ ⟨(le4 S).toArray⟩) := by show _ = _; rw [HS.out]; rfl
  obtain ⟨B, HB2⟩ : ∃ B, Hid (B = sealB s) := ⟨_, rfl⟩
  rw [← HB2.out] at HB ⊢
  have hcv := fun w => conv_four w S
  have h4 : ({ data := (le4 S).toArray } : ByteArray).size = 4 := rfl
  go_enter Try.func28, Try.ntmps28
  go_wp2_with (go_at_call 50; refine (refSum_any s w hs).mono ?_; rintro e w1 ⟨rfl, rfl⟩; rw [← HS.out])
  go_returns
  exact ⟨by rw [HB.out]; rfl, (Below.refl _ _).alloc (Nat.le_refl _) _⟩

set_option maxHeartbeats 400000 in
theorem open_short (s : ByteArray) (w : World) (hs : s.size < 4) :
    Calls Try.prog 30 #[.string s] w fun e w' => e = .returned (.tuple #[.string ⟨#[]⟩, .int .i64 10]) ∧ w = w' := by
  go_enter Try.func30, Try.ntmps30
  go_wp2
  go_returns
  exact ⟨rfl, rfl⟩

set_option maxHeartbeats 400000 in
theorem refOpen_short (s : ByteArray) (w : World) (hs : s.size < 4) :
    Calls Try.prog 37 #[.string s] w fun e w' => e = .returned (.tuple #[.string ⟨#[]⟩, .int .i64 10]) ∧ w = w' := by
  go_enter Try.func37, Try.ntmps37
  go_wp2
  go_returns
  exact ⟨rfl, rfl⟩

theorem extract_list (s : ByteArray) (a b : Nat) : (s.extract a b).data.toList = (s.data.toList.take b).drop a := by
  rw [ByteArray.data_extract, Array.toList_extract, List.extract_eq_take_drop, List.drop_take]

theorem open_test (s : ByteArray) (n : Nat) (hn : s.size = n + 4) : ((s.extract n s.size).toList == le4 (sum (s.extract 0 n).data.toList)) = opened s.data.toList := by
  have hl : s.data.toList.length = n + 4 := by simpa using hn
  rw [opened_iff _ (by omega), hl, show n + 4 - 4 = n by omega]
  rw [extract_list, List.drop_zero, Bool.eq_iff_iff]
  simp only [beq_iff_eq, decide_eq_true_eq]
  have he : (s.extract n s.size).toList = s.data.toList.drop n := by
    rw [ByteArray.toList_eq, extract_list, List.take_of_length_le (by simp)]
  rw [he]

theorem extract_size (s : ByteArray) (n : Nat) (hn : s.size = n + 4) : (s.extract 0 n).size = n := by
  rw [ByteArray.size_extract]; omega

set_option maxRecDepth 100000 in
set_option maxHeartbeats 1000000 in
theorem open_long (s : ByteArray) (w : World) (n : Nat) (hn : s.size = n + 4) (hs : s.size ≤ 100000) :
    Calls Try.prog 30 #[.string s] w fun e w' => Hid (e = .returned (if opened s.data.toList = true then .tuple #[.string (s.extract 0 n), .int .i64 0] else .tuple #[.string ⟨#[]⟩, .int .i64 12])) ∧ Below w.heap.size w w' := by
  have Hn := Lib.hid hn
  have e1 : (s.size : Int) - 4 = (n : Int) := by omega
  have hn4 : (n : Int) ≤ (s.size : Int) := by omega
  have hlt := sum_lt (s.extract 0 n).data.toList
  have ht := open_test s n hn
  have hz := extract_size s n hn
  obtain ⟨S, HS⟩ : ∃ S, Hid (S = sum (s.extract 0 n).data.toList) := ⟨_, rfl⟩
  rw [← HS.out] at ht hlt
  obtain ⟨t, Ht⟩ : ∃ t, Hid (t = s.extract 0 n) := ⟨_, rfl⟩
  rw [← Ht.out] at HS hz ⊢
  have hz2 : t.size ≤ 100000 := by omega
  have hex : s.extract 0 n = t := Ht.out.symm
  have HZ := Lib.hid hz; clear hz
  obtain ⟨ok, Hok⟩ : ∃ ok, Hid (ok = opened s.data.toList) := ⟨_, rfl⟩
  rw [← Hok.out] at ht ⊢
  have hnn : ¬ (n : Int) < 0 := by omega
  clear hn
  cases ok
  all_goals
    go_enter Try.func30, Try.ntmps30
    go_wp2
    go_region_with (first
      | (go_at_call 49; (with_reducible refine (sum_drew t _ _ hz2).mono ?_); rintro e w1 ⟨rfl, hb1⟩; rw [← HS.out])
      | (go_at_call 48; (with_reducible refine (spread_any S _ hlt).mono ?_); rintro e w2 ⟨rfl, hb2⟩))
    all_goals
      go_wp2
      go_returns
      exact ⟨rfl, hb1.trans (hb2.mono hb1.size)⟩

theorem refOpen_test (s : ByteArray) (n : Nat) (hn : s.size = n + 4) : ((sealB (s.extract 0 n)).toList == s.toList) = opened s.data.toList := by
  have hl : s.data.toList.length = n + 4 := by simpa using hn
  rw [ByteArray.toList_eq, ByteArray.toList_eq, sealB_list, extract_list, List.drop_zero, Bool.eq_iff_iff]
  unfold opened
  rw [hl, show n + 4 - 4 = n by omega]
  simp only [beq_iff_eq, decide_eq_true_eq]

set_option maxRecDepth 100000 in
set_option maxHeartbeats 1000000 in
theorem refOpen_long (s : ByteArray) (w : World) (n : Nat) (hn : s.size = n + 4) (hs : s.size ≤ 100000) :
    Calls Try.prog 37 #[.string s] w fun e w' => Hid (e = .returned (if opened s.data.toList = true then .tuple #[.string (s.extract 0 n), .int .i64 0] else .tuple #[.string ⟨#[]⟩, .int .i64 12])) ∧ Below w.heap.size w w' := by
  have Hn := Lib.hid hn
  have e1 : (s.size : Int) - 4 = (n : Int) := by omega
  have hn4 : (n : Int) ≤ (s.size : Int) := by omega
  have ht := refOpen_test s n hn
  have hz := extract_size s n hn
  obtain ⟨t, Ht⟩ : ∃ t, Hid (t = s.extract 0 n) := ⟨_, rfl⟩
  rw [← Ht.out] at hz ht ⊢
  have hz2 : t.size ≤ 100000 := by omega
  have hex : s.extract 0 n = t := Ht.out.symm
  have HZ := Lib.hid hz; clear hz
  obtain ⟨ok, Hok⟩ : ∃ ok, Hid (ok = opened s.data.toList) := ⟨_, rfl⟩
  rw [← Hok.out] at ht ⊢
  have hnn : 4 ≤ s.size := by omega
  clear hn
  cases ok
  all_goals
    go_enter Try.func37, Try.ntmps37
    go_wp2_with (go_at_call 28; refine (refSeal_any t _ hz2).mono ?_; rintro e w1 ⟨rfl, hb1⟩)
    go_returns
    exact ⟨rfl, hb1⟩

end Go.Proofs.Ythlpehiloabfiaa.Cr
