/- Contracts of spread, Sum, Seal, Open (the program's) and Seal, Open (the document's). -/
import Derived.Test.YtdgkanamceeheaaGreatM41
set_option linter.unusedVariables false
namespace Go.Proofs.YtdgkanamceeheaaGreat.Cr
open Go.RowKit Go.Proofs.PitotCrc

/-- The cells of a row of bytes of which the first k are written. -/
def pc (l : List UInt8) (k : Nat) : List Value := (l.take k).map (fun c => Value.int .u8 c.toNat) ++ List.replicate (l.length - k) (.int .u8 0)
theorem pc_zero (l : List UInt8) : pc l 0 = List.replicate l.length (.int .u8 0) := by simp [pc]
theorem pc_full (l : List UInt8) : pc l l.length = l.map (fun c => Value.int .u8 c.toNat) := by simp [pc]
theorem pc_at (l : List UInt8) (k : Nat) (h : k < l.length) : (pc l k)[k]? = some (.int .u8 0) := by
  unfold pc
  have hm : min k l.length = k := Nat.min_eq_left (Nat.le_of_lt h)
  rw [List.getElem?_append_right (by simp; omega)]
  simp only [List.length_map, List.length_take, hm, Nat.sub_self]
  rw [List.getElem?_replicate, if_pos (by omega)]
theorem pc_step (l : List UInt8) (k : Nat) (h : k < l.length) (v : Value) (hv : v = .int .u8 l[k].toNat) : (pc l k).set k v = pc l (k + 1) := by
  subst hv
  unfold pc
  rw [List.take_succ_eq_append_getElem h, List.map_append]
  obtain ⟨d, hd⟩ : ∃ d, l.length - k = d + 1 := ⟨l.length - k - 1, by omega⟩
  have hd' : l.length - (k + 1) = d := by omega
  rw [hd, hd', List.replicate_succ, List.set_append_right _ _ (by simp; omega)]
  simp [Nat.min_eq_left (Nat.le_of_lt h)]

theorem le4_cell (n k : Nat) (h : k < (le4 n).length) : Value.int .u8 ((n : Int) / 2 ^ (8 * k) % 256) = .int .u8 ((le4 n)[k]'h).toNat := by
  refine val_int ?_
  have hk : k < 4 := h
  have : k = 0 ∨ k = 1 ∨ k = 2 ∨ k = 3 := by omega
  rcases this with rfl | rfl | rfl | rfl <;> simp [le4] <;> omega

set_option maxRecDepth 100000 in
set_option maxHeartbeats 400000 in
theorem spread_any (n : Nat) (w : World) (_hn : n < 4294967296) :
    Calls Tryz.prog 35 #[.int .u32 n] w fun e w' => e = .returned (.string ⟨(le4 n).toArray⟩) ∧ Below w.heap.size w w' := by
  have hz0 : (#[.int .u8 0, .int .u8 0, .int .u8 0, .int .u8 0] : Array Value) = (pc (le4 n) 0).toArray := by rw [pc_zero]; rfl
  have HZ := Lib.hid hz0; clear hz0
  go_enter Tryz.func35, Tryz.ntmps35
  go_wp2
  go_loopw [5] (fun i wr => ∃ k : Nat, k ≤ 4 ∧ i = .int .i64 k ∧ wr = w.alloc (.cells (pc (le4 n) k).toArray 127)) (fun i _ => 4 - (intOf i).toNat)
  case atStart => exact ⟨0, Nat.zero_le _, rfl, by rw [← HZ.out]⟩
  case round =>
    obtain ⟨k, hk, rfl, rfl⟩ := hrel
    by_cases hlt : k < 4
    · have hl' : k < (le4 n).length := hlt
      have hpk := pc_at (le4 n) k hl'
      go_wp2
      go_roundw
      case rel => exact ⟨k + 1, by omega, by go_num, by rw [pc_step _ k hl' _ (le4_cell n k hl')]⟩
      case measure => simp [intOf]; omega
    · have hcv : (convert 41 9 (.slice (some ⟨w.heap.size, 0, none⟩) 4 4)).run Tryz.prog (w.alloc (.cells (pc (le4 n) k).toArray 127)) = .ok (.string ⟨(le4 n).toArray⟩) (w.alloc (.cells (pc (le4 n) k).toArray 127)) :=
        run_convert_bytes_back (P := Tryz.prog) (w.alloc (.cells (pc (le4 n) k).toArray 127)) 41 9 5 ⟨w.heap.size, 0, none⟩ 4 (le4 n) Tryz.underlying41 Tryz.underlying5 Tryz.underlying9 (fun j hj => by
          have e : (⟨w.heap.size, 0, none⟩ : Addr).add j = ⟨w.heap.size, j, none⟩ := by unfold Addr.add; split <;> simp_all
          rw [e, World.cell?_alloc_mark w _ 127 (0, 0) j, show k = (le4 n).length by rw [le4_length]; omega, pc_full]
          simp [hj])
      go_wp2
      go_returns
      exact ⟨rfl, (Below.refl _ _).alloc (Nat.le_refl _) _⟩

/-- A slice of strings: what it reads as. -/
def StrsAt (w : World) (A : Option Addr) (xs : List ByteArray) : Prop :=
  xs ≠ [] → ∃ b off, A = some ⟨b, off, none⟩ ∧ b < w.heap.size ∧ ∀ i (h : i < xs.length), w.cell? ⟨b, off + i, none⟩ = some (.string xs[i])

theorem StrsAt.get {w : World} {A : Option Addr} {xs : List ByteArray} (h : StrsAt w A xs) {k : Nat} (hk : k < xs.length) :
    ∃ b off, A = some ⟨b, off, none⟩ ∧ b < w.heap.size ∧ w.cell? ⟨b, off + k, none⟩ = some (.string xs[k]) := by
  obtain ⟨b, off, h1, h2, h3⟩ := h (by intro e; subst e; simp at hk)
  exact ⟨b, off, h1, h2, h3 k hk⟩

/-- Texts, one behind the other. -/
def cat (xs : List ByteArray) : List UInt8 := (xs.map fun x => x.data.toList).flatten

theorem cat_snoc (xs : List ByteArray) (x : ByteArray) : cat (xs ++ [x]) = cat xs ++ x.data.toList := by simp [cat]

set_option maxRecDepth 100000 in
set_option maxHeartbeats 400000 in
theorem sum_any (A : Option Addr) (cap : Nat) (xs : List ByteArray) (w : World) (hx : StrsAt w A xs) (hl : xs.length ≤ 1000) (hs : ∀ x ∈ xs, x.size ≤ 100000) (n : Nat) (hn : n = xs.length) (S : Nat) (hS : S = sum (cat xs)) :
    Calls Tryz.prog 36 #[.slice A n cap] w fun e w' => e = .returned (.int .u32 S) ∧ Below w.heap.size w w' := by
  have HS := Lib.hid hS; clear hS
  have Hn := Lib.hid hn; clear hn
  have hn1 : n ≤ 1000 := by rw [Hn.out]; exact hl
  have HX := Lib.hid hs; clear hs
  go_enter Tryz.func36, Tryz.ntmps36
  go_wp2_with (go_at_call 81; refine (make_any _).mono ?_; rintro e w1 ⟨rfl, ht1, hb1⟩; (have HT := Lib.hid ht1); clear ht1)
  go_loopw [4, 10] (fun v4 v10 wr => ∃ (k : Nat) (x : Nat), k ≤ n ∧ v10 = .int .i64 k ∧ v4 = .int .u32 x ∧ x < 4294967296 ∧ Hid (x = go 4294967295 (cat (xs.take k))) ∧ Below w.heap.size w wr ∧ Hid (TabAt wr w.heap.size 256)) (fun _ v10 _ => n - (intOf v10).toNat)
  case atStart => exact ⟨0, 4294967295, Nat.zero_le _, rfl, rfl, by decide, rfl, hb1, HT⟩
  case round =>
    obtain ⟨k, x, hk, rfl, rfl, hx1, Hx, hb, ht⟩ := hrel
    by_cases hlt : k < n
    · have hlt' : k < xs.length := by rw [← Hn.out]; exact hlt
      obtain ⟨b, off, rfl, hbl, hc⟩ := hx.get hlt'
      have hc' : wr.cell? ⟨b, off + k, none⟩ = some (.string xs[k]) := by rw [hb.cell (p := ⟨b, off + k, none⟩) hbl]; exact hc
      clear hc
      have hsz : xs[k].size ≤ 100000 := HX.out _ (List.getElem_mem hlt')
      have hcs : Hid (cat (xs.take (k + 1)) = cat (xs.take k) ++ xs[k].data.toList) := by
        show _ = _
        rw [List.take_succ_eq_append_getElem hlt', cat_snoc]
      obtain ⟨s, Hs⟩ : ∃ s, Hid (s = xs[k]) := ⟨xs[k], rfl⟩
      rw [← Hs.out] at hc' hsz hcs
      go_wp2_with (go_at_call 82; refine (go_any w.heap.size x s _ ht.out hx1 hsz).mono ?_; rintro e w2 ⟨rfl, hb2⟩)
      go_roundw
      case rel => exact ⟨k + 1, _, by omega, by go_num, rfl, go_lt _ _ hx1, by show _ = _; rw [hcs.out, go_append, Hx.out], hb.trans (hb2.mono hb.size), ht.out.keep hb2⟩
      case measure => simp [intOf]; omega
    · go_wp2
      go_returns
      exact ⟨ret_int (by rw [not_32 x hx1, HS.out, sum_go, Hx.out, List.take_of_length_le (by rw [← Hn.out]; omega)]), hb⟩
end Go.Proofs.YtdgkanamceeheaaGreat.Cr
/- Contracts of Seal, Open (the program's) and Seal, Open (the document's); awake. -/
namespace Go.Proofs.YtdgkanamceeheaaGreat.Cr
open Go.RowKit Go.Proofs.PitotCrc

/-- A text with its check sum behind. -/
def sealB (s : ByteArray) : ByteArray := s ++ ⟨(le4 (sum s.data.toList)).toArray⟩

theorem sealB_list (s : ByteArray) : (sealB s).data.toList = sealed s.data.toList := by simp [sealB, sealed]
theorem strs_one {w : World} (s : ByteArray) (t : TypeId) : StrsAt (w.alloc (.cells #[.string s] t)) (some ⟨w.heap.size, 0, none⟩) [s] := by
  intro _
  refine ⟨w.heap.size, 0, rfl, by simp, fun i hi => ?_⟩
  obtain rfl : i = 0 := by simp at hi; omega
  exact lies_cell (heap_alloc_new w _) 0

theorem sum_one (s : ByteArray) (t : TypeId) (w : World) (hs : s.size ≤ 100000) :
    Calls Tryz.prog 36 #[.slice (some ⟨w.heap.size, 0, none⟩) 1 1] (w.alloc (.cells #[.string s] t)) fun e w' => e = .returned (.int .u32 (sum s.data.toList : Nat)) ∧ Below w.heap.size w w' := by
  have hb : Below w.heap.size w (w.alloc (.cells #[.string s] t)) := (Below.refl _ _).alloc (Nat.le_refl _) _
  refine (sum_any _ 1 [s] _ (strs_one s t) (by simp) (by simp; exact hs) 1 rfl (sum s.data.toList) (by simp [cat])).mono fun e w' ⟨he, hw⟩ => ⟨he, hb.trans (hw.mono (by simp))⟩

theorem sum_drew (s : ByteArray) (t : TypeId) (w : World) (hs : s.size ≤ 100000) :
    Calls Tryz.prog 36 #[.slice (some ⟨w.heap.size, 0, none⟩) 1 1] (w.alloc (.cells #[.string s] t)).drew fun e w' => e = .returned (.int .u32 (sum s.data.toList : Nat)) ∧ Below w.heap.size w w' := by
  have hb : Below w.heap.size w (w.alloc (.cells #[.string s] t)).drew := ((Below.refl _ _).alloc (Nat.le_refl _) _).drew
  have hst : StrsAt (w.alloc (.cells #[.string s] t)).drew (some ⟨w.heap.size, 0, none⟩) [s] := strs_one (w := w) s t
  refine (sum_any _ 1 [s] _ hst (by simp) (by simp; exact hs) 1 rfl (sum s.data.toList) (by simp [cat])).mono fun e w' ⟨he, hw⟩ => ⟨he, hb.trans (hw.mono hb.size)⟩

set_option maxRecDepth 100000 in
set_option maxHeartbeats 400000 in
theorem seal_any (s : ByteArray) (w : World) (hs : s.size ≤ 100000) :
    Calls Tryz.prog 27 #[.string s] w fun e w' => e = .returned (.string (sealB s)) ∧ Below w.heap.size w w' := by
  have hlt := sum_lt s.data.toList
  obtain ⟨S, HS⟩ : ∃ S, Hid (S = sum s.data.toList) := ⟨_, rfl⟩
  have HB : Hid (sealB s = s ++ ⟨(le4 S).toArray⟩) := by show _ = _; rw [HS.out]; rfl
  obtain ⟨B, HB2⟩ : ∃ B, Hid (B = sealB s) := ⟨_, rfl⟩
  rw [← HB2.out] at HB ⊢
  have h4 : ({ data := (le4 S).toArray } : ByteArray).size = 4 := rfl
  go_enter Tryz.func27, Tryz.ntmps27
  go_wp2_with (first
    | (go_at_call 36; refine (sum_one s _ w hs).mono ?_; rintro e w1 ⟨rfl, hb1⟩; rw [← HS.out])
    | (go_at_call 35; refine (spread_any S _ (by rw [HS.out]; exact hlt)).mono ?_; rintro e w2 ⟨rfl, hb2⟩))
  go_returns
  exact ⟨by rw [HB.out]; rfl, hb1.trans (hb2.mono hb1.size)⟩

set_option maxHeartbeats 400000 in
theorem open_short (s : ByteArray) (w : World) (hs : s.size < 4) :
    Calls Tryz.prog 14 #[.string s] w fun e w' => e = .returned (.tuple #[.string ⟨#[]⟩, .int .i64 10]) ∧ w = w' := by
  go_enter Tryz.func14, Tryz.ntmps14
  go_wp2
  go_returns
  exact ⟨rfl, rfl⟩

theorem extract_list (s : ByteArray) (a b : Nat) : (s.extract a b).data.toList = (s.data.toList.take b).drop a := by
  rw [ByteArray.data_extract, Array.toList_extract, List.extract_eq_take_drop, List.drop_take]

theorem open_test (s : ByteArray) (n : Nat) (hn : s.size = n + 4) : ((s.extract n s.size).toList == le4 (sum (s.extract 0 n).data.toList)) = opened s.data.toList := by
  have hl : s.data.toList.length = n + 4 := by simpa using hn
  rw [opened_iff _ (by omega), hl, show n + 4 - 4 = n by omega]
  rw [extract_list, List.drop_zero, Bool.eq_iff_iff]
  simp only [beq_iff_eq, decide_eq_true_eq]
  have he : (s.extract n s.size).toList = s.data.toList.drop n := by
    rw [ByteArray.toList_eq, extract_list, List.take_of_length_le (by simp)]
  rw [he]

theorem extract_size (s : ByteArray) (n : Nat) (hn : s.size = n + 4) : (s.extract 0 n).size = n := by
  rw [ByteArray.size_extract]; omega

set_option maxRecDepth 100000 in
set_option maxHeartbeats 1000000 in
theorem open_long (s : ByteArray) (w : World) (n : Nat) (hn : s.size = n + 4) (hs : s.size ≤ 100000) :
    Calls Tryz.prog 14 #[.string s] w fun e w' => Hid (e = .returned (if opened s.data.toList = true then .tuple #[.string (s.extract 0 n), .int .i64 0] else .tuple #[.string ⟨#[]⟩, .int .i64 12])) ∧ Below w.heap.size w w' := by
  have Hn := Lib.hid hn
  have e1 : (s.size : Int) - 4 = (n : Int) := by omega
  have hn4 : (n : Int) ≤ (s.size : Int) := by omega
  have hlt := sum_lt (s.extract 0 n).data.toList
  have ht := open_test s n hn
  have hz := extract_size s n hn
  obtain ⟨S, HS⟩ : ∃ S, Hid (S = sum (s.extract 0 n).data.toList) := ⟨_, rfl⟩
  rw [← HS.out] at ht hlt
  obtain ⟨t, Ht⟩ : ∃ t, Hid (t = s.extract 0 n) := ⟨_, rfl⟩
  rw [← Ht.out] at HS hz ⊢
  have hz2 : t.size ≤ 100000 := by omega
  have hex : s.extract 0 n = t := Ht.out.symm
  have HZ := Lib.hid hz; clear hz
  obtain ⟨ok, Hok⟩ : ∃ ok, Hid (ok = opened s.data.toList) := ⟨_, rfl⟩
  rw [← Hok.out] at ht ⊢
  have hnn : ¬ (n : Int) < 0 := by omega
  clear hn
  cases ok
  all_goals
    go_enter Tryz.func14, Tryz.ntmps14
    go_wp2
    go_region_with (first
      | (go_at_call 36; (with_reducible refine (sum_drew t _ _ hz2).mono ?_); rintro e w1 ⟨rfl, hb1⟩; rw [← HS.out])
      | (go_at_call 35; (with_reducible refine (spread_any S _ hlt).mono ?_); rintro e w2 ⟨rfl, hb2⟩))
    all_goals
      go_wp2
      go_returns
      exact ⟨rfl, hb1.trans (hb2.mono hb1.size)⟩

end Go.Proofs.YtdgkanamceeheaaGreat.Cr
