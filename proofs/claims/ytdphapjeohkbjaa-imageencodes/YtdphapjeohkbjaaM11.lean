/- Merged: Xi, BiRef. -/
import Derived.Test.YtdphapjeohkbjaaM10
import Derived.Test.YtdphapjeohkbjaaM2
set_option linter.unusedVariables false
/- The least network; networks of a few parts. -/
set_option maxRecDepth 100000
set_option linter.unusedVariables false
namespace Go.Proofs.Ytdphapjeohkbjaa.Im
open Go.RowKit

abbrev c1 : Cx := ⟨1, none, 0, [], 1, none, 0, [], none, 0, [], none, 0, []⟩
theorem sm_c1 : Sm c1 := ⟨⟨by decide, by simp, fun n h => by simp at h, by decide, by simp, fun n h => by simp at h, by simp, fun n h => by simp at h, by simp, fun n h => by simp at h⟩, by simp, by simp, by simp, by simp, fun v h => by simp at h⟩
theorem im_c1 : Im c1 := ⟨sm_c1, fun _ => by decide⟩
theorem held_c1 (w : World) : c1.Held w := ⟨fun h => absurd rfl h, fun h => absurd rfl h, fun h => absurd rfl h, fun h => absurd rfl h⟩
theorem enc_c1 : ∃ l : List UInt8, encRes c1 = .tuple #[.string ⟨l.toArray⟩, .int .i64 0] ∧ l.length = 24 := by
  refine ⟨_, encRes_ok (c := c1) (by decide) (by decide), ?_⟩
  rw [PitotCrc.sealed_length]
  decide
theorem c1_run (w : World) : (Instr.build 27 #[(0, .int .i64 1), (2, .int .i64 1)]).run Try.prog w = .ok (.agg #[.int .i64 1, .slice none 0 0, .int .i64 1, .slice none 0 0, .slice none 0 0, .slice none 0 0]) w := by kernel_rfl
set_option maxHeartbeats 2000000 in
theorem awake_any (w : World) : Calls Try.prog 5 #[] w fun e w' => e = .returned (.bool true) ∧ Below w.heap.size w w' := by
  obtain ⟨l, hl, hn⟩ := enc_c1
  have HC : Hid (∀ w, Calls Try.prog 6 #[.agg #[.int .i64 1, .slice none 0 0, .int .i64 1, .slice none 0 0, .slice none 0 0, .slice none 0 0]] w fun e w' => e = .returned (.tuple #[.string ⟨l.toArray⟩, .int .i64 0]) ∧ Below w.heap.size w w') := fun w => by
    have h := Encode_any c1 im_c1 w (held_c1 w)
    rw [hl] at h
    exact h
  clear hl
  obtain ⟨S, HS⟩ : ∃ S : ByteArray, Hid (S = ⟨l.toArray⟩) := ⟨_, Lib.hid rfl⟩
  rw [← HS.out] at HC
  have hz : S.size = 24 := by rw [HS.out]; show l.toArray.size = 24; simpa using hn
  clear HS hn
  have hzi : ((S.size : Nat) : Int) = 24 := by omega
  go_enter Try.func5, Try.ntmps5
  go_wp2_with (go_at_call 6; (with_reducible refine (HC.out _).mono ?_); rintro e w2 ⟨rfl, hb2⟩)
  go_returns
  exact ⟨rfl, hb2⟩
theorem cfW_len (c : Cx) : (PitotImg.magic ++ PitotImg.cfW c.pl).length = 20 + 2 * c.parts.length + (c.wins.flatMap (fun x : Wn => PitotImg.winW x.pl)).length + (c.vls.flatMap (fun x : Vx => PitotImg.vlW x.pl)).length + (c.ports.flatMap (fun x : Px => PitotImg.prtW x.pl)).length := by
  have hm : PitotImg.magic.length = 6 := rfl
  have hp := manyW_len2 c.parts
  unfold PitotImg.manyW at hp
  simp only [List.length_append, PitotImg.w_length] at hp
  simp only [PitotImg.cfW, Cx.pl, PitotImg.manyW, List.flatMap_map, List.length_append, PitotImg.w_length, hm]
  omega
theorem flat_len {α : Type} (E : α → List UInt8) (c : Nat) : ∀ (xs : List α), (∀ x ∈ xs, (E x).length ≤ c) → (xs.flatMap E).length ≤ c * xs.length
  | [], _ => by simp
  | y :: ys, h => by
    rw [List.flatMap_cons, List.length_append, List.length_cons, Nat.mul_add]
    have := h y (List.mem_cons_self ..)
    have := flat_len E c ys (fun x hx => h x (List.mem_cons_of_mem _ hx))
    omega
theorem few_im {c : Cx} (co : c.Ok) (h : few c = true) : Im c := by
  refine ⟨few_sm co h, fun _ => ?_⟩
  obtain ⟨h1, h2, h3, h4, h5⟩ := (few_iff c).1 h
  rw [cfW_len]
  have a := flat_len (fun x : Wn => PitotImg.winW x.pl) 10 c.wins (fun x _ => by rw [winW_len]; omega)
  have b := flat_len (fun x : Vx => PitotImg.vlW x.pl) 153 c.vls (fun x hx => by
    obtain ⟨i, hi, rfl⟩ := List.mem_iff_getElem.1 hx
    have := h5 i hi
    rw [vlW_len]; show 13 + 2 * c.vls[i].to.length ≤ _; omega)
  have d := flat_len (fun x : Px => PitotImg.prtW x.pl) 25 c.ports (fun x _ => by rw [prtW_len]; omega)
  omega
theorem encRes_str (c : Cx) : ∃ S k, encRes c = .tuple #[.string S, .int .i64 k] := by
  unfold encRes
  split
  · exact ⟨_, _, rfl⟩
  · exact ⟨_, _, rfl⟩
end Go.Proofs.Ytdphapjeohkbjaa.Im
/- Contracts of the document's Writer (the reference): fits, Num, bytes, Put, Text, Bits, Bytes. -/
namespace Go.Proofs.Ytdphapjeohkbjaa.Bi
open Go.RowKit Go.Proofs.PitotMath

theorem be_cons : ∀ (k n : Nat), be (k + 1) n = UInt8.ofNat (n / 256 ^ k % 256) :: be k n
  | 0, n => by simp [be]
  | k + 1, n => by
    have h := be_cons k (n / 256)
    rw [be, h, be]
    have e : n / 256 / 256 ^ k = n / 256 ^ (k + 1) := by rw [Nat.pow_succ, Nat.mul_comm, Nat.div_div_eq_div_mul]
    rw [e]
    rfl

theorem cat_one (c : UInt8) (l : List UInt8) : (⟨#[c]⟩ : ByteArray) ++ (⟨l.toArray⟩ : ByteArray) = ⟨(c :: l).toArray⟩ := by
  apply ByteArray.ext; simp

set_option maxHeartbeats 400000 in
theorem num_any (n m : Nat) (w : World) (hm : m ≤ 4) (hn : n ≤ 4294967296) :
    Calls Try.prog 17 #[.int .i64 n, .int .i64 m] w fun e w' => e = .returned (.string ⟨(be m n).toArray⟩) ∧ Below w.heap.size w w' := by
  go_enter Try.func17, Try.ntmps17
  go_wp2
  go_loopw [0, 5, 6] (fun v0 v5 v6 wr => ∃ (k j : Nat) (s : ByteArray), k ≤ m ∧ v6 = .int .i64 k ∧ v0 = .int .i64 j ∧ j ≤ n ∧ Hid (j = n / 256 ^ k) ∧ v5 = .string s ∧ s.size ≤ 4 ∧ Hid (s = ⟨(be k n).toArray⟩) ∧ Below w.heap.size w wr) (fun _ _ v6 _ => m - (intOf v6).toNat)
  case atStart => exact ⟨0, n, ⟨#[]⟩, Nat.zero_le _, rfl, rfl, Nat.le_refl _, by show n = n / 256 ^ 0; simp, rfl, by decide, rfl, Below.refl _ _⟩
  case round =>
    obtain ⟨k, j, s, hk, rfl, rfl, hj, Hj, rfl, hs, Hs, hb⟩ := hrel
    by_cases hlt : k < m
    · have hc := conv_one wr (UInt8.ofNat (j % 256)) ((j : Int) % 256) (by simp)
      have hsz : s.size + 1 ≤ 4 := by rw [Hs.out]; show (be k n).toArray.size + 1 ≤ 4; simp [be_length]; omega
      go_wp2
      go_roundw
      case rel =>
        refine ⟨k + 1, j / 256, (⟨#[UInt8.ofNat (j % 256)]⟩ : ByteArray) ++ s, by omega, by go_num, by go_num, by omega, ?_, rfl, ?_, ?_, ?_⟩
        · show _ = _
          rw [Hj.out, Nat.pow_succ, Nat.div_div_eq_div_mul]
        · rw [ByteArray.size_append]; show 1 + s.size ≤ 4; omega
        · show _ = _
          rw [Hs.out, cat_one, be_cons, Hj.out]
        · exact hb.alloc hb.size _
      case measure => simp [intOf]; omega
    · go_wp2
      go_returns
      refine ⟨?_, hb⟩
      show Ending.returned (.string s) = _
      rw [Hs.out, show k = m by omega]

/-- The sum of widths as the document's answer reckons it. -/
def rsum : List Int → Int → Option Int
  | [], s => some s
  | x :: t, s => if x < 1 ∨ 32 < x ∨ 32 < s then none else rsum t (s + x)

def refBytes (xs : List Int) : Int := match rsum xs 0 with
  | none => 0
  | some s => if okSum s = true then s / 8 else 0

theorem rsum_over {xs : List Int} {s : Int} (h : 32 < s) : rsum xs s = none ∨ rsum xs s = some s := by
  cases xs with
  | nil => exact .inr rfl
  | cons x t => left; simp only [rsum]; rw [if_pos (by omega)]

theorem rsum_tog : ∀ (xs : List Int) (s : Int), 0 ≤ s → s ≤ 32 → (∃ t, togGo xs s = some t ∧ rsum xs s = some t) ∨ (togGo xs s = none ∧ (rsum xs s = none ∨ ∃ t, 32 < t ∧ rsum xs s = some t))
  | [], s, _, _ => .inl ⟨s, rfl, rfl⟩
  | x :: t, s, h0, h1 => by
    simp only [togGo, rsum]
    by_cases h : x < 1 ∨ 32 - s < x
    · rw [if_pos h]
      right
      refine ⟨rfl, ?_⟩
      by_cases h' : x < 1 ∨ 32 < x ∨ 32 < s
      · rw [if_pos h']; exact .inl rfl
      · rw [if_neg h']
        rcases rsum_over (xs := t) (s := s + x) (by omega) with e | e
        · exact .inl e
        · exact .inr ⟨s + x, by omega, e⟩
    · rw [if_neg h, if_neg (by omega)]
      exact rsum_tog t (s + x) (by omega) (by omega)

theorem refBytes_eq (xs : List Int) : refBytes xs = if (togRes xs).2 = true then (togRes xs).1 else 0 := by
  unfold refBytes
  rcases rsum_tog xs 0 (by omega) (by omega) with ⟨t, h1, h2⟩ | ⟨h1, h2 | ⟨t, h3, h2⟩⟩
  · rw [togRes_some h1, h2]
  · rw [togRes_none h1, h2]; rfl
  · rw [togRes_none h1, h2]
    have : okSum t = false := by simp [okSum]; omega
    simp [this]

theorem rsum_cons {xs : List Int} {k : Nat} (hk : k < xs.length) (s : Int) : rsum (xs.drop k) s = if xs[k] < 1 ∨ 32 < xs[k] ∨ 32 < s then none else rsum (xs.drop (k + 1)) (s + xs[k]) := by
  rw [List.drop_eq_getElem_cons hk]; rfl

theorem refBytes_none {xs : List Int} (h : rsum xs 0 = none) : refBytes xs = 0 := by unfold refBytes; rw [h]
theorem refBytes_some {xs : List Int} {s : Int} (h : rsum xs 0 = some s) : refBytes xs = if okSum s = true then s / 8 else 0 := by unfold refBytes; rw [h]

end Go.Proofs.Ytdphapjeohkbjaa.Bi
