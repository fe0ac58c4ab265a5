/- Contracts of moved (the program's) and Take, Go (the document's). -/
import Derived.Test.YtdgkanamceeheaaGreatRows
import Derived.WalkKit
import Derived.WalkSpells
import Derived.WalkLawsBesides
import Derived.BigQuiet
import Derived.Laws.BitsAllLaws
import Derived.Laws.BitsLemmas
import Derived.Deep.QuietTactic
import Derived.Lib.Hide
import Derived.Handy
import Derived.Test.YtdgkanamceeheaaGreatM2
import Derived.RegionTactic
import Derived.BigRegion
import Derived.Deep.RegionWith
import Derived.Below
set_option linter.unusedVariables false
namespace Go.Proofs.YtdgkanamceeheaaGreat.Cr
open Go.RowKit Go.Proofs.PitotCrc

theorem take_snoc (s : ByteArray) (k : Nat) (h : k < s.size) : s.data.toList.take (k + 1) = s.data.toList.take k ++ [s[k]] := by
  rw [List.take_succ_eq_append_getElem (by simpa using h)]; rfl
theorem ret_int {k : IntKind} {a b : Int} (h : a = b) : Ending.returned (.int k a) = .returned (.int k b) := by rw [h]
theorem val_int {k : IntKind} {a b : Int} (h : a = b) : Value.int k a = .int k b := by rw [h]
theorem ret_bool {a b : Bool} (h : a = b) : Ending.returned (.bool a) = .returned (.bool b) := by rw [h]

theorem and_one (c : Nat) (h : c < 4294967296) : bits .and .u32 (c : Int) 1 = ((c % 2 : Nat) : Int) := by
  rw [show (1 : Int) = ((1 : Nat) : Int) from rfl, u32_and_nat c 1 (by omega) (by omega), Nat.and_one_is_mod]

theorem xor_poly (c : Nat) (h : c < 4294967296) : bits .xor .u32 ((c : Int) / 2) 3988292384 = (((c / 2) ^^^ 3988292384 : Nat) : Int) := by
  rw [show (3988292384 : Int) = ((3988292384 : Nat) : Int) from rfl, show (c : Int) / 2 = ((c / 2 : Nat) : Int) by omega, u32_xor_nat (c / 2) 3988292384 (by omega) (by omega)]

theorem st_odd (c : Nat) (h : c < 4294967296) (e : c % 2 = 1) : bits .xor .u32 ((c : Int) / 2) 3988292384 = (st c : Nat) := by
  rw [xor_poly c h]; unfold st; rw [if_pos e]
theorem st_ev (c : Nat) (e : ¬ c % 2 = 1) : (c : Int) / 2 = (st c : Nat) := by
  unfold st; rw [if_neg e]; omega

set_option maxHeartbeats 400000 in
theorem moved_any (c : Nat) (w : World) (hc : c < 4294967296) :
    Calls Tryz.prog 110 #[.int .u32 c] w fun e w' => e = .returned (.int .u32 (mv c : Nat)) ∧ w = w' := by
  obtain ⟨R, HR⟩ : ∃ R, Hid (R = mv c) := ⟨_, rfl⟩
  rw [← HR.out]
  go_enter Tryz.func110, Tryz.ntmps110
  go_wp2
  go_loop [0, 3] (fun n i => ∃ (k : Nat) (x : Nat), k ≤ 8 ∧ i = .int .i64 k ∧ n = .int .u32 x ∧ x < 4294967296 ∧ Hid (x = sts k c)) (fun _ i => 8 - (intOf i).toNat)
  case atStart => exact ⟨0, c, Nat.zero_le _, rfl, rfl, hc, rfl⟩
  case round =>
    obtain ⟨k, x, hk, rfl, rfl, hx, Hx⟩ := hrel
    by_cases hlt : k < 8
    · by_cases ho : x % 2 = 1
      · have h1 : (bits .and .u32 (x : Int) 1 == 1) = true := by rw [and_one x hx, ho]; rfl
        go_wp2
        go_round
        case rel => exact ⟨k + 1, st x, by omega, by go_num, val_int (by first | exact st_odd x hx ho), st_lt x hx, by show _ = _; rw [Hx.out]; rfl⟩
        case measure => simp [intOf]; omega
      · have h1 : (bits .and .u32 (x : Int) 1 == 1) = false := by rw [and_one x hx]; simp; omega
        go_wp2
        go_round
        case rel => exact ⟨k + 1, st x, by omega, by go_num, val_int (by first | exact st_ev x ho), st_lt x hx, by show _ = _; rw [Hx.out]; rfl⟩
        case measure => simp [intOf]; omega
    · go_wp2
      go_returns
      exact ⟨ret_int (by rw [HR.out, Hx.out, show k = 8 by omega]; rfl), rfl⟩

theorem not_32 (m : Nat) (h : m < 4294967296) : bits .xor .u32 IntKind.u32.max (m : Int) = ((4294967295 ^^^ m : Nat) : Int) := by
  rw [show IntKind.u32.max = ((4294967295 : Nat) : Int) from by decide, u32_xor_nat 4294967295 m (by omega) (by omega)]

end Go.Proofs.YtdgkanamceeheaaGreat.Cr
/- Contracts of Make, Table.Go. -/
namespace Go.Proofs.YtdgkanamceeheaaGreat.Cr
open Go.RowKit Go.Proofs.PitotCrc

section
variable {w w' : World} {g : Nat} {t : TypeId} {cs : Array Value}
theorem lies_lt (h : w.heap[g]? = some (.cells cs t)) : g < w.heap.size := by
  rcases Nat.lt_or_ge g w.heap.size with h1 | h1
  · exact h1
  · rw [Array.getElem?_eq_none h1] at h; cases h
theorem lies_cell (h : w.heap[g]? = some (.cells cs t)) (i : Nat) : w.cell? ⟨g, i, none⟩ = cs[i]? := by simp [World.cell?, h]
theorem lies_frozen (h : w.heap[g]? = some (.cells cs t)) (i : Nat) : w.frozen? ⟨g, i, none⟩ = false := by simp [World.frozen?, h]
theorem lies_set (h : w.heap[g]? = some (.cells cs t)) (i : Nat) (u : Value) : (w.setCell ⟨g, i, none⟩ u).heap[g]? = some (.cells (cs.setIfInBounds i u) t) := by
  simp [World.setCell, Array.getElem?_modify, h]
end

/-- The table's cells of which the first k are made. -/
def tc (k : Nat) : List Value := (List.range 256).map fun i => if i < k then .int .u32 (mv i : Nat) else .int .u32 0

theorem tc_zero : (tc 0).toArray = Array.replicate 256 (.int .u32 0) := by
  rw [← Array.toList_inj]
  apply List.ext_getElem?
  intro i
  show (tc 0)[i]? = (List.replicate 256 (Value.int .u32 0))[i]?
  rw [List.getElem?_replicate]
  unfold tc
  rw [List.getElem?_map]
  by_cases hi : i < 256
  · rw [if_pos hi, List.getElem?_range hi]; rfl
  · rw [if_neg hi, List.getElem?_eq_none (by rw [List.length_range]; omega)]; rfl

theorem tc_get (k i : Nat) (h : i < k) (h2 : i < 256) : (tc k)[i]? = some (.int .u32 (mv i : Nat)) := by
  simp [tc, h, h2]

theorem tc_at (k : Nat) (h2 : k < 256) : (tc k)[k]? = some (.int .u32 0) := by
  simp [tc, h2]

theorem tc_set (k : Nat) (v : Value) (hv : v = .int .u32 (mv k : Nat)) : (tc k).toArray.setIfInBounds k v = (tc (k + 1)).toArray := by
  subst hv
  rw [← Array.toList_inj]
  simp only [Array.toList_setIfInBounds]
  apply List.ext_getElem?
  intro i
  rw [List.getElem?_set]
  by_cases hi : i < 256
  · by_cases hik : k = i
    · subst hik; simp [tc, hi]
    · by_cases h1 : i < k
      · simp [tc, hi, hik, h1, show i < k + 1 by omega]
      · simp [tc, hi, hik, h1, show ¬ i < k + 1 by omega]
  · simp [tc, hi]; omega

def rst (k : Nat) : Nat := k &&& (k - 1)
theorem rst_and : ∀ k : Nat, k < 256 → bits .and .i64 (k : Int) ((k : Int) - 1) = (rst k : Nat) := by decide +kernel
theorem rst_xor : ∀ k : Nat, k < 256 → bits .xor .i64 (k : Int) (rst k : Nat) = ((k ^^^ rst k : Nat) : Int) := by decide +kernel
theorem rst_lt : ∀ k : Nat, k < 256 → rst k ≠ 0 → rst k < k ∧ k ^^^ rst k < k := by decide +kernel

theorem tab_xor (k : Nat) (_h : k < 256) : bits .xor .u32 (mv (rst k) : Nat) (mv (k ^^^ rst k) : Nat) = (mv k : Nat) := by
  have h1 : rst k < 4294967296 := by have := Nat.and_le_left (n := k) (m := k - 1); unfold rst; omega
  have h2 : k ^^^ rst k < 4294967296 := Nat.xor_lt_two_pow (n := 32) (by omega) h1
  rw [u32_xor_nat _ _ (mv_lt _ h1) (mv_lt _ h2), ← mv_xor, Nat.xor_comm, Nat.xor_assoc, Nat.xor_self, Nat.xor_zero]

theorem Tryz.info158 : (Tryz.prog.info? 158).map (fun i => (i.zero, i.size, i.bytes)) = some (some (.agg (Array.replicate 256 (.int .u32 0))), 256, 1024) := by kernel_rfl

theorem zero_run (w : World) : (zeroValue 158).run Tryz.prog w = .ok (.agg (tc 0).toArray) w := by
  obtain ⟨i, hi, hz, _, _⟩ := info_parts Tryz.info158
  rw [tc_zero]
  simp only [zeroValue, typeInfo]
  simp [hi, hz]

/-- The table lies in block b. -/
def TabAt (w : World) (b k : Nat) : Prop := w.heap[b]? = some (.cells (tc k).toArray 158)

set_option maxRecDepth 100000 in
set_option maxHeartbeats 1000000 in
theorem make_any (w : World) :
    Calls Tryz.prog 81 #[] w fun e w' => e = .returned (.pointer (some ⟨w.heap.size, 0, none⟩)) ∧ TabAt w' w.heap.size 256 ∧ Below w.heap.size w w' := by
  have hbr := fun w => zero_run w
  go_enter Tryz.func81, Tryz.ntmps81
  go_wp2
  clear hbr
  go_loopw [6] (fun i wr => ∃ k : Nat, k ≤ 256 ∧ i = .int .i64 k ∧ Hid (TabAt wr w.heap.size k) ∧ Below w.heap.size w wr) (fun i _ => 256 - (intOf i).toNat)
  case atStart => exact ⟨0, Nat.zero_le _, rfl, heap_alloc_new w _, (Below.refl _ _).alloc (Nat.le_refl _) _⟩
  case round =>
    obtain ⟨k, hk, rfl, ht, hb⟩ := hrel
    by_cases hlt : k < 256
    · have ea := rst_and k hlt
      have ex := rst_xor k hlt
      have hl := rst_lt k hlt
      have hc : wr.cell? ⟨w.heap.size, k, none⟩ = some (.int .u32 0) := by rw [lies_cell ht.out]; simpa using tc_at k hlt
      have hf : wr.frozen? ⟨w.heap.size, k, none⟩ = false := lies_frozen ht.out k
      have tx := tab_xor k hlt
      have HT : Hid (bits .xor .u32 (mv (rst k) : Nat) (mv (k ^^^ rst k) : Nat) = (mv k : Nat)) := tx
      clear tx
      by_cases hr : rst k = 0
      · have HR : Hid (mv k < 4294967296) := mv_lt k (by omega)
        rw [hr] at ea
        clear hl ex hr HT
        have ew : IntKind.u32.wrap (k : Int) = (k : Int) := IntWalk.u32_in _ (by omega)
        go_wp2
        go_region_with ((go_at_call 110; (with_reducible refine (moved_any k _ (by omega)).mono ?_); rintro e w' ⟨rfl, rfl⟩))
        go_wp2
        go_roundw
        case rel => exact ⟨k + 1, by omega, by go_num, by show _ = _; rw [← tc_set k _ rfl]; exact lies_set ht.out k _, (hb.setCell (p := ⟨w.heap.size, k, none⟩) (Nat.le_refl _) _).drew⟩
        case measure => simp [intOf]; omega
      · obtain ⟨h1, h2⟩ := hl hr
        have c1 : wr.cell? ⟨w.heap.size, rst k, none⟩ = some (.int .u32 (mv (rst k) : Nat)) := by rw [lies_cell ht.out]; simpa using tc_get k (rst k) h1 (by omega)
        have c2 : wr.cell? ⟨w.heap.size, k ^^^ rst k, none⟩ = some (.int .u32 (mv (k ^^^ rst k) : Nat)) := by rw [lies_cell ht.out]; simpa using tc_get k _ h2 (by omega)
        clear hl
        obtain ⟨r, Hr⟩ : ∃ r, Hid (r = rst k) := ⟨_, rfl⟩
        rw [← Hr.out] at c1 c2 ea ex h1 h2 hr HT
        obtain ⟨x, Hx⟩ : ∃ x, Hid (x = k ^^^ r) := ⟨_, rfl⟩
        rw [← Hx.out] at c2 ex h2 HT
        have hr0 : 0 < r := by omega
        clear hr
        go_wp2
        go_region
        all_goals
          go_wp2
          go_roundw
          case rel => exact ⟨k + 1, by omega, by go_num, by show _ = _; rw [← tc_set k _ rfl]; rw [HT.out]; exact lies_set ht.out k _, (hb.setCell (p := ⟨w.heap.size, k, none⟩) (Nat.le_refl _) _).drew⟩
          case measure => simp [intOf]; omega
    · go_wp2
      go_returns
      obtain rfl : k = 256 := by omega
      exact ⟨rfl, ht.out, hb⟩

theorem TabAt.keep {w w' : World} {b k : Nat} (h : TabAt w b k) (hb : Below w.heap.size w w') : TabAt w' b k := (hb.block b (lies_lt h)).trans h

theorem tab_step (x : Nat) (c : UInt8) (h : x < 4294967296) :
    bits .xor .u32 (mv ((x % 256) ^^^ c.toNat) : Nat) ((x : Int) / 256) = (tk x c : Nat) := by
  have hc := c.toNat_lt
  have h1 : (x % 256) ^^^ c.toNat < 4294967296 := Nat.xor_lt_two_pow (n := 32) (by omega) (by omega)
  rw [show (x : Int) / 256 = ((x / 256 : Nat) : Int) by omega, u32_xor_nat _ _ (mv_lt _ h1) (by omega), tk_table]

set_option maxRecDepth 100000 in
set_option maxHeartbeats 400000 in
theorem go_any (b c : Nat) (s : ByteArray) (w : World) (ht : TabAt w b 256) (hc : c < 4294967296) (hs : s.size ≤ 100000) :
    Calls Tryz.prog 82 #[.pointer (some ⟨b, 0, none⟩), .int .u32 c, .string s] w fun e w' => e = .returned (.int .u32 (go c s.data.toList : Nat)) ∧ Below w.heap.size w w' := by
  obtain ⟨R, HR⟩ : ∃ R, Hid (R = go c s.data.toList) := ⟨_, rfl⟩
  rw [← HR.out]
  have HT := Lib.hid ht; clear ht
  go_enter Tryz.func82, Tryz.ntmps82
  go_wp2
  go_loopw [1, 7] (fun n i wr => ∃ (k : Nat) (x : Nat), k ≤ s.size ∧ i = .int .i64 k ∧ n = .int .u32 x ∧ x < 4294967296 ∧ Hid (x = go c (s.data.toList.take k)) ∧ Below w.heap.size w wr) (fun _ i _ => s.size - (intOf i).toNat)
  case atStart => exact ⟨0, c, Nat.zero_le _, rfl, rfl, hc, rfl, Below.refl _ _⟩
  case round =>
    obtain ⟨k, x, hk, rfl, rfl, hx, Hx, hb⟩ := hrel
    by_cases hlt : k < s.size
    · have hsk := s[k].toNat_lt
      have hj : (x % 256) ^^^ s[k].toNat < 256 := Nat.xor_lt_two_pow (n := 8) (by omega) hsk
      have hcell : wr.cell? ⟨b, (x % 256) ^^^ s[k].toNat, none⟩ = some (.int .u32 (mv ((x % 256) ^^^ s[k].toNat) : Nat)) := by
        rw [lies_cell (HT.out.keep hb)]; simpa using tc_get 256 _ hj hj
      have e1 : bits .xor .u8 ((x : Int) % 256) (s[k].toNat : Int) = (((x % 256) ^^^ s[k].toNat : Nat) : Int) := by
        rw [show (x : Int) % 256 = ((x % 256 : Nat) : Int) by omega, u8_xor_nat _ _ (by omega) hsk]
      have HS := Lib.hid (tab_step x s[k] hx)
      have hsn := Lib.hid (take_snoc s k hlt)
      obtain ⟨j, Hj⟩ : ∃ j, Hid (j = (x % 256) ^^^ s[k].toNat) := ⟨(x % 256) ^^^ s[k].toNat, rfl⟩
      rw [← Hj.out] at hj hcell e1
      have i2 : (k : Int) < (s.size : Int) := by omega
      have ew : IntKind.u8.wrap (x : Int) = (x : Int) % 256 := IntKind.wrap_u8 _
      go_wp2
      go_quiet (fail)
      go_wp2
      go_roundw
      case rel => exact ⟨k + 1, tk x s[k], by omega, by go_num, val_int (by rw [Hj.out]; exact HS.out), tk_lt _ _ hx, by show _ = _; rw [hsn.out, go_snoc, Hx.out], below_drewN hb nq⟩
      case measure => simp [intOf]; omega
    · go_wp2
      go_returns
      exact ⟨ret_int (by rw [HR.out, Hx.out, List.take_of_length_le (by simp; omega)]), hb⟩

end Go.Proofs.YtdgkanamceeheaaGreat.Cr
