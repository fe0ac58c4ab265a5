/- Contract of Of: the document's. -/
import Derived.Test.YthlpehiloabfiaaAdOf
namespace Go.Proofs.Ythlpehiloabfiaa.Ad
open Go.RowKit Go.Proofs.PitotAddr

/-- What the document's Of answers. -/
def ofR (m : M6) : Value := if m.isEnd 0 = true then .tuple #[.int .i64 (num m.d m.e : Nat), .int .i64 0, .int .i64 0] else if m.isEnd 1 = true then .tuple #[.int .i64 (num m.d m.e : Nat), .int .i64 1, .int .i64 0] else .tuple #[.int .i64 0, .int .i64 0, .int .i64 14]
theorem ofR_hit (m : M6) (k : Nat) (hk : k ≤ 1) (hn : ∀ j, j < k → m.isEnd j = false) (h : m.isEnd k = true) : ofR m = .tuple #[.int .i64 (num m.d m.e : Nat), .int .i64 k, .int .i64 0] := by
  have : k = 0 ∨ k = 1 := by omega
  unfold ofR
  rcases this with rfl | rfl
  · rw [if_pos h]; rfl
  · rw [if_neg (by rw [hn 0 (by omega)]; simp), if_pos h]; rfl
theorem ofR_miss (m : M6) (hn : ∀ j, j < 2 → m.isEnd j = false) : ofR m = .tuple #[.int .i64 0, .int .i64 0, .int .i64 14] := by
  unfold ofR
  rw [if_neg (by rw [hn 0 (by omega)]; simp), if_neg (by rw [hn 1 (by omega)]; simp)]

set_option maxRecDepth 100000 in
set_option maxHeartbeats 2000000 in
theorem refOf_any (a b c d e f : UInt8) (w : World) :
    Calls Try.prog 39 #[.string ⟨#[a, b, c, d, e, f]⟩] w fun r w' => Hid (r = .returned (ofR ⟨a, b, c, d, e, f⟩)) ∧ Below w.heap.size w w' := by
  have hn := num_lt d e
  obtain ⟨n, Hn⟩ : ∃ n, Hid (n = num d e) := ⟨_, rfl⟩
  have hnum := fun w => refnum_any ⟨#[d, e, f]⟩ d e w (by show 2 ≤ 3; omega) rfl rfl
  rw [← Hn.out] at hnum hn
  have HN := Lib.hid hnum; clear hnum
  obtain ⟨S, HS⟩ : ∃ S : ByteArray, Hid (S = ⟨#[a, b, c, d, e, f]⟩) := ⟨_, rfl⟩
  have hsz : S.size = 6 := by rw [HS.out]; rfl
  have hex : S.extract 3 6 = ⟨#[d, e, f]⟩ := by rw [HS.out]; rfl
  rw [← HS.out]
  go_enter Try.func39, Try.ntmps39
  go_wp2
  go_loopw [5] (fun v wr => ∃ k : Nat, k ≤ 2 ∧ v = .int .i64 k ∧ Below w.heap.size w wr ∧ Hid (∀ j, j < k → (M6.mk a b c d e f).isEnd j = false)) (fun v _ => 2 - (intOf v).toNat)
  case atStart => exact ⟨0, Nat.zero_le _, rfl, Below.refl _ _, fun j hj => by omega⟩
  case round =>
    obtain ⟨k, hk, rfl, hb, Hno⟩ := hrel
    by_cases hlt : k < 2
    · by_cases h4 : n ≤ 4095
      · have hs := fun w => refSource_ok n k w h4 (by omega)
        have HR := Lib.hid hs; clear hs
        obtain ⟨B, HB⟩ : ∃ B, Hid (B = (M6.mk a b c d e f).isEnd k) := ⟨_, rfl⟩
        have heq : ([2, 0, 0, hi n, lo n, lo (32 * (k + 1))] == S.toList) = B := by
          rw [HB.out, HS.out, str_beq6, end_eq a b c d e f n k Hn.out h4 (by omega)]
        cases B
        · go_wp2_with (first
            | (go_at_call 55; (with_reducible refine (HN.out _).mono ?_); rintro e w1 ⟨rfl, hb1⟩)
            | (go_at_call 27; (with_reducible refine (HR.out _).mono ?_); rintro e w2 ⟨rfl, hb2⟩))
          go_roundw
          case rel =>
            exact ⟨k + 1, by omega, by go_num, (hb.trans (hb1.mono hb.size)).trans (hb2.mono (Nat.le_trans hb.size hb1.size)), lt_succ_no Hno.out HB.out.symm⟩
          case measure => simp [intOf]; omega
        · go_wp2_with (first
            | (go_at_call 55; (with_reducible refine (HN.out _).mono ?_); rintro e w1 ⟨rfl, hb1⟩)
            | (go_at_call 27; (with_reducible refine (HR.out _).mono ?_); rintro e w2 ⟨rfl, hb2⟩))
          go_returns
          refine ⟨?_, (hb.trans (hb1.mono hb.size)).trans (hb2.mono (Nat.le_trans hb.size hb1.size))⟩
          show _ = _
          rw [ofR_hit _ k (by omega) Hno.out HB.out.symm, ← Hn.out]
          rfl
      · have hs := fun w => refSource_bad n k w (by omega)
        have HR := Lib.hid hs; clear hs
        have Hbk : Hid ((M6.mk a b c d e f).isEnd k = false) := by
          show _ = _
          unfold M6.isEnd
          rw [decide_eq_false (p := num d e ≤ 4095) (by rw [← Hn.out]; exact h4)]
          simp
        go_wp2_with (first
            | (go_at_call 55; (with_reducible refine (HN.out _).mono ?_); rintro e w1 ⟨rfl, hb1⟩)
            | (go_at_call 27; (with_reducible refine (HR.out _).mono ?_); rintro e w2 ⟨rfl, rfl⟩))
        go_roundw
        case rel =>
          exact ⟨k + 1, by omega, by go_num, hb.trans (hb1.mono hb.size), lt_succ_no Hno.out Hbk.out⟩
        case measure => simp [intOf]; omega
    · have h2 : k = 2 := by omega
      have H2 := Lib.hid h2; clear h2
      go_wp2
      go_returns
      refine ⟨?_, hb⟩
      show _ = _
      rw [ofR_miss _ (H2.out ▸ Hno.out)]
      rfl
end Go.Proofs.Ythlpehiloabfiaa.Ad
