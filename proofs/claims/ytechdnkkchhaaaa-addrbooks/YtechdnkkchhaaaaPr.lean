/- Contract of Print: the program's. -/
import Derived.Test.YtechdnkkchhaaaaVl
import Derived.Deep.AppendLies
import Derived.StillTailTactics
import Derived.OwnWalk
import Derived.Deep.RegionHeld3
namespace Go.Proofs.Ytechdnkkchhaaaa
open Go.RowKit Go.Proofs.PitotAddr

/-- A digit's sign. -/
def hx (n : Nat) : UInt8 := if n < 10 then UInt8.ofNat (48 + n) else UInt8.ofNat (87 + n)
def sep (k : Nat) : List UInt8 := if k = 0 then [] else [58]
def pair (b : UInt8) : List UInt8 := [hx (b.toNat / 16), hx (b.toNat % 16)]
/-- The text of the first k bytes. -/
def pk (l : List UInt8) : Nat → List UInt8
  | 0 => []
  | k + 1 => pk l k ++ sep k ++ pair (l.getD k 0)
theorem sep_le (k : Nat) : (sep k).length ≤ 1 := by unfold sep; split <;> simp
theorem pk_le (l : List UInt8) : ∀ k, (pk l k).length ≤ 3 * k
  | 0 => by simp [pk]
  | k + 1 => by
    have := pk_le l k
    have := sep_le k
    simp [pk, pair]; omega

abbrev digitsS : ByteArray := ⟨#[48, 49, 50, 51, 52, 53, 54, 55, 56, 57, 97, 98, 99, 100, 101, 102]⟩
theorem digit_at (n : Nat) (h : n < 16) : digitsS[n]'h = hx n := by
  have : ∀ i : Fin 16, digitsS[i.val]'i.isLt = hx i.val := by decide
  exact this ⟨n, h⟩

abbrev bc (l : List UInt8) : List Value := l.map fun c => Value.int .u8 c.toNat
theorem bc_app (a b : List UInt8) : bc (a ++ b) = bc a ++ bc b := List.map_append
theorem bc_at (l : List UInt8) (k : Nat) (h : k < l.length) : (bc l)[k]? = some (.int .u8 (l.getD k 0).toNat) := by
  simp [h]

theorem index_digit (n : Nat) (h : n < 16) (i : Int) (hi : i = n) (w : World) :
    (Instr.index 9 (.string digitsS) (.int .u8 i)).run Try.prog w = .ok (.int .u8 (hx n).toNat) w := by
  subst hi
  have hg : digitsS[n]? = some (hx n) := by rw [← digit_at n h]; exact getElem?_pos digitsS n h
  simp [Instr.index, run_underlying Try.underlying9, asIntOf, Result.andThen, hg]

theorem and15 (x : UInt8) : bits .and .u8 (x.toNat : Int) 15 = ((x.toNat % 16 : Nat) : Int) := by
  have := x.toNat_lt
  rw [show (15 : Int) = ((15 : Nat) : Int) from rfl, u8_and_nat _ _ (by omega) (by omega)]
  congr 1
  exact Nat.and_two_pow_sub_one_eq_mod x.toNat 4

theorem index_mac (l : List UInt8) (k : Nat) (hl : l.length = 6) (hk : k < 6) (w : World) :
    (Instr.index 23 (.agg (bc l).toArray) (.int .i64 k)).run Try.prog w = .ok (.int .u8 (l.getD k 0).toNat) w := by
  obtain ⟨i, hi, hz0, hz1, hz2⟩ := info_parts (show (Try.prog.info? 5).map (fun i => (i.zero, i.size, i.bytes)) = some (some (.int .u8 0), 1, 1) by kernel_rfl)
  have h5 : Try.prog.plainKey 5 = true := by kernel_rfl
  have hx : ((bc l).toArray)[k]? = some (.int .u8 (l.getD k 0).toNat) := by simpa using bc_at l k (by omega)
  have hp := run_part_plain (P := Try.prog) w h5 hx
  have hs : (Go.sizeOf 5).run Try.prog w = .ok 1 w := by simp [Go.sizeOf, typeInfo, hi, hz1]
  simp [Instr.index, run_underlying Try.underlying23, asIntOf, Result.andThen, hs, hp, hk]

set_option maxRecDepth 100000 in
set_option maxHeartbeats 2000000 in
theorem print_any (a b c d e f : UInt8) (w : World) :
    Calls Try.prog 30 #[mac a b c d e f] w fun r w' => Hid (r = .returned (.string ⟨(pk [a, b, c, d, e, f] 6).toArray⟩)) ∧ Below w.heap.size w w' := by
  obtain ⟨l, Hl⟩ : ∃ l : List UInt8, Hid (l = [a, b, c, d, e, f]) := ⟨_, rfl⟩
  have hl : l.length = 6 := by rw [Hl.out]; rfl
  rw [← Hl.out]
  have hcs : (#[.int .u8 a.toNat, .int .u8 b.toNat, .int .u8 c.toNat, .int .u8 d.toNat, .int .u8 e.toNat, .int .u8 f.toNat] : Array Value) = (bc l).toArray := by rw [Hl.out]; rfl
  have HC := Lib.hid hcs; clear hcs
  obtain ⟨i0, hi, hz0, hz1, hz2⟩ := info_parts (show (Try.prog.info? 5).map (fun i => (i.zero, i.size, i.bytes)) = some (some (.int .u8 0), 1, 1) by kernel_rfl)
  go_enter Try.func30, Try.ntmps30
  go_wp2
  rw [HC.out]
  go_loopw [3, 7] (fun v3 v7 wr => ∃ k : Nat, k ≤ 6 ∧ v7 = .int .i64 k ∧ wr.ownsRow w.heap.size 5 1 v3 (pk l k).length (bc (pk l k)) ∧ Below w.heap.size w wr) (fun _ v7 _ => 6 - (intOf v7).toNat)
  case atStart => exact ⟨0, Nat.zero_le _, rfl, World.ownsRow_nil _ _ _ _, below_new (Below.refl _ _) _⟩
  case round =>
    obtain ⟨k, hk, rfl, hown, hb⟩ := hrel
    have hpl := pk_le l k
    by_cases hlt : k < 6
    · have hat := fun w => index_mac l k hl hlt w
      obtain ⟨x, Hx⟩ : ∃ x, Hid (x = l.getD k 0) := ⟨_, rfl⟩
      rw [← Hx.out] at hat
      have hx16 : x.toNat / 16 < 16 := by have := x.toNat_lt; omega
      have hI1 := fun w => index_digit (x.toNat / 16) hx16 ((x.toNat : Int) / 16) (by omega) w
      have hI2 := fun w => index_digit (x.toNat % 16) (by omega) ((x.toNat : Int) % 16) (by omega) w
      have hI3 := fun w => index_digit (x.toNat % 16) (by omega) (bits .and .u8 (x.toNat : Int) 15) (and15 x) w
      obtain ⟨p, Hp⟩ : ∃ p, Hid (p = hx (x.toNat / 16)) := ⟨_, rfl⟩
      obtain ⟨q, Hq⟩ : ∃ q, Hid (q = hx (x.toNat % 16)) := ⟨_, rfl⟩
      rw [← Hp.out] at hI1
      rw [← Hq.out] at hI2 hI3
      by_cases h0 : k = 0
      · have h0' : ¬ ((k : Int) > 0) := by omega
        have H0 := Lib.hid h0; clear h0
        go_wp2
        have hbs := hb.size
        go_region_held3 (fun _ => True) (exact trivial) ((refine step_append_lies _ (by rfl) _ _ 88 (by rfl) w.heap.size 5 i0 (.int .u8 0) 1 1 Try.underlying88 hi hz0 hz1 hz2 rfl (by decide) _ _ _ (by rfl) (World.ownsRow.drew (hown.alloc _)) ⟨wr.heap.size, 0, none⟩ 2 2 [.int .u8 p.toNat, .int .u8 q.toNat] (by rfl) rfl (World.news_of_block (heap_alloc_new wr _)) (by simp [Value.oneCell']) (by omega) (by unfold maxLen; omega) (by omega) (by simp; omega) _ rfl ?_; intro g cap w1 hown1 hgrow1 hat1 hlt1))
        all_goals
          have HO : Hid (w1.ownsRow w.heap.size 5 1 (.slice (some ⟨g, 0, none⟩) ((pk l k).length + 2) cap) (pk l (k + 1)).length (bc (pk l (k + 1)))) := by
            have e : pk l (k + 1) = pk l k ++ [p, q] := by simp [pk, sep, H0.out, pair, Hp.out, Hq.out, Hx.out]
            rw [e, bc_app, List.length_append]
            exact hown1
          have HBe : Below w.heap.size w w1 := ((below_new hb (.cells #[.int .u8 p.toNat, .int .u8 q.toNat] 5)).drew).grown hgrow1 (by simp; omega) (fun j hj => ((World.ownsRow.drew (hown.alloc (.cells #[.int .u8 p.toNat, .int .u8 q.toNat] 5))).lt j hj).1)
          clear hown1 hgrow1 hat1 hlt1 hI1 hI2 hI3 hat
          go_wp2
          go_roundw
          case rel => exact ⟨k + 1, by omega, by go_num, HO.out, HBe⟩
          case measure => simp [intOf]; omega
      · have h0' : ((k : Int) > 0) := by omega
        go_wp2_with (first
          | (at_builtin; refine wpList_append_lies _ rfl _ _ 88 (by rfl) w.heap.size 5 i0 (.int .u8 0) 1 1 Try.underlying88 hi hz0 hz1 hz2 rfl (by decide) _ _ _ (by rfl) (hown.alloc _) ⟨wr.heap.size, 0, none⟩ 1 1 [.int .u8 58] (by rfl) rfl (World.news_of_block (heap_alloc_new wr _)) (by simp [Value.oneCell']) (by omega) (by unfold maxLen; omega) (by omega) (by have := hb.size; simp; omega) _ rfl ?_; intro g cap w1 hown1 hgrow1 hat1 hlt1))
        have HB1 : Below w.heap.size w w1 := (below_new hb (.cells #[.int .u8 58] 5)).grown hgrow1 (by have := hb.size; simp; omega) (fun j hj => ((hown.alloc (.cells #[.int .u8 58] 5)).lt j hj).1)
        clear hat1 hlt1
        have hbs := HB1.size
        go_region_held3 (fun _ => True) (exact trivial) ((refine step_append_lies _ (by rfl) _ _ 88 (by rfl) w.heap.size 5 i0 (.int .u8 0) 1 1 Try.underlying88 hi hz0 hz1 hz2 rfl (by decide) _ _ _ (by rfl) (World.ownsRow.drew (hown1.alloc _)) ⟨w1.heap.size, 0, none⟩ 2 2 [.int .u8 p.toNat, .int .u8 q.toNat] (by rfl) rfl (World.news_of_block (heap_alloc_new w1 _)) (by simp [Value.oneCell']) (by omega) (by unfold maxLen; omega) (by omega) (by simp; omega) _ rfl ?_; intro g2 cap2 w2 hown2 hgrow2 hat2 hlt2))
        all_goals
          have HO : Hid (w2.ownsRow w.heap.size 5 1 (.slice (some ⟨g2, 0, none⟩) ((pk l k).length + 1 + 2) cap2) (pk l (k + 1)).length (bc (pk l (k + 1)))) := by
            have e : pk l (k + 1) = pk l k ++ [58] ++ [p, q] := by simp [pk, sep, h0, pair, Hp.out, Hq.out, Hx.out]
            rw [e, bc_app, bc_app, List.length_append, List.length_append]
            exact hown2
          have HBe : Below w.heap.size w w2 := ((below_new HB1 (.cells #[.int .u8 p.toNat, .int .u8 q.toNat] 5)).drew).grown hgrow2 (by simp; omega) (fun j hj => ((World.ownsRow.drew (hown1.alloc (.cells #[.int .u8 p.toNat, .int .u8 q.toNat] 5))).lt j hj).1)
          clear hown1 hgrow1 hown2 hgrow2 hat2 hlt2 hI1 hI2 hI3 hat
          go_wp2
          go_roundw
          case rel => exact ⟨k + 1, by omega, by go_num, HO.out, HBe⟩
          case measure => simp [intOf]; omega
    · have h6 : k = 6 := by omega
      subst h6
      have hpos : 0 < (pk l 6).length := by simp [pk, pair]; omega
      obtain ⟨g, cap, rfl, hg1, hg2⟩ := hown.form hpos
      have hcv : (convert 88 9 (.slice (some ⟨g, 0, none⟩) (pk l 6).length cap)).run Try.prog wr = .ok (.string ⟨(pk l 6).toArray⟩) wr := by
        refine run_convert_bytes_back (P := Try.prog) _ 88 9 5 ⟨g, 0, none⟩ cap (pk l 6) Try.underlying88 Try.underlying5 Try.underlying9 (fun j hj => ?_)
        have e : (⟨g, 0, none⟩ : Addr).add j = ⟨g, j, none⟩ := by unfold Addr.add; split <;> simp_all
        rw [e, hown.cellAt j (by omega)]
        simp [hj]
      obtain ⟨S, HS⟩ : ∃ S : ByteArray, Hid (S = ⟨(pk l 6).toArray⟩) := ⟨_, rfl⟩
      obtain ⟨n, Hn⟩ : ∃ n, Hid (n = (pk l 6).length) := ⟨_, rfl⟩
      rw [← HS.out, ← Hn.out] at hcv
      have HW := Lib.hid hown
      clear hown hpl hpos
      rw [← Hn.out]
      go_wp2
      go_returns
      exact ⟨by show Ending.returned (.string S) = _; rw [HS.out], hb⟩
end Go.Proofs.Ytechdnkkchhaaaa
