/- Contracts of the program's Writer: together, has, spread, Text, fail, Bits. -/
import Derived.Test.YtiedfdnjnjohdaaBiOnes
import Derived.Lib.Hide
namespace Go.Proofs.Ytiedfdnjnjohdaa.Bi
open Go.RowKit Go.Proofs.PitotMath

/-- The sum of widths, one behind the other; none: one of them may not be. -/
def togGo : List Int → Int → Option Int
  | [], s => some s
  | x :: t, s => if x < 1 ∨ 32 - s < x then none else togGo t (s + x)

def okSum (s : Int) : Bool := s == 8 || s == 16 || s == 32

def togRes (l : List Int) : Int × Bool := match togGo l 0 with
  | none => (0, false)
  | some s => (s / 8, okSum s)

/-- A slice of ints: what it reads as; an address is known where it is not empty. -/
def IntsAt (w : World) (A : Option Addr) (xs : List Int) : Prop :=
  xs ≠ [] → ∃ b off, A = some ⟨b, off, none⟩ ∧ b < w.heap.size ∧ ∀ i (h : i < xs.length), w.cell? ⟨b, off + i, none⟩ = some (.int .i64 xs[i])

theorem IntsAt.get {w : World} {A : Option Addr} {xs : List Int} (h : IntsAt w A xs) {k : Nat} (hk : k < xs.length) :
    ∃ b off, A = some ⟨b, off, none⟩ ∧ b < w.heap.size ∧ w.cell? ⟨b, off + k, none⟩ = some (.int .i64 xs[k]) := by
  obtain ⟨b, off, h1, h2, h3⟩ := h (by intro e; subst e; simp at hk)
  exact ⟨b, off, h1, h2, h3 k hk⟩

theorem tog_cons {xs : List Int} {k : Nat} (hk : k < xs.length) (s : Int) : togGo (xs.drop k) s = if xs[k] < 1 ∨ 32 - s < xs[k] then none else togGo (xs.drop (k + 1)) (s + xs[k]) := by
  rw [List.drop_eq_getElem_cons hk]; rfl

theorem togRes_none {xs : List Int} (h : togGo xs 0 = none) : togRes xs = (0, false) := by unfold togRes; rw [h]
theorem togRes_some {xs : List Int} {s : Int} (h : togGo xs 0 = some s) : togRes xs = (s / 8, okSum s) := by unfold togRes; rw [h]

theorem tuple_ib {a b : Int} {c d : Bool} (h1 : a = b) (h2 : c = d) : Ending.returned (.tuple #[.int .i64 a, .bool c]) = .returned (.tuple #[.int .i64 b, .bool d]) := by rw [h1, h2]

set_option maxHeartbeats 400000 in
theorem together_any (A : Option Addr) (cap : Nat) (xs : List Int) (w : World) (hx : IntsAt w A xs) (hl : xs.length ≤ 1000000) :
    Calls Try.prog 42 #[.slice A xs.length cap] w fun e w' => e = .returned (.tuple #[.int .i64 (togRes xs).1, .bool (togRes xs).2]) ∧ w = w' := by
  obtain ⟨R, HR⟩ : ∃ R, Hid (R = togRes xs) := ⟨_, rfl⟩
  rw [← HR.out]
  obtain ⟨n, Hn⟩ : ∃ n, Hid (n = xs.length) := ⟨_, rfl⟩
  rw [← Hn.out] at hl ⊢
  go_enter Try.func42, Try.ntmps42
  go_wp2
  go_loop [4, 6, 9] (fun v4 _ v9 => ∃ (k : Nat) (s : Int), k ≤ n ∧ v9 = .int .i64 k ∧ v4 = .int .i64 s ∧ 0 ≤ s ∧ s ≤ 32 ∧ Hid (togGo (xs.drop k) s = togGo xs 0)) (fun _ _ v9 => n - (intOf v9).toNat)
  case atStart => exact ⟨0, 0, Nat.zero_le _, rfl, rfl, by omega, by omega, rfl⟩
  case round =>
    obtain ⟨k, s, hk, rfl, rfl, hs0, hs1, ht⟩ := hrel
    by_cases hlt : k < n
    · have hlt' : k < xs.length := by rw [← Hn.out]; exact hlt
      obtain ⟨b, off, rfl, _, hc⟩ := hx.get hlt'
      have hcs := tog_cons hlt' s
      obtain ⟨x, Hx⟩ : ∃ x, Hid (x = xs[k]) := ⟨xs[k], rfl⟩
      rw [← Hx.out] at hc hcs
      have HC := Lib.hid hcs
      clear hcs
      by_cases hg : x < 1 ∨ 32 - s < x
      · by_cases hg1 : x < 1
        · go_wp2
          go_ret2
          exact ⟨tuple_ib (by rw [HR.out, togRes_none (by rw [← ht.out, HC.out, if_pos hg])]) (by rw [HR.out, togRes_none (by rw [← ht.out, HC.out, if_pos hg])]), rfl⟩
        · have hg2 : 32 - s < x := by omega
          go_wp2
          go_ret2
          exact ⟨tuple_ib (by rw [HR.out, togRes_none (by rw [← ht.out, HC.out, if_pos hg])]) (by rw [HR.out, togRes_none (by rw [← ht.out, HC.out, if_pos hg])]), rfl⟩
      · go_wp2
        go_round
        case rel => exact ⟨k + 1, s + x, by omega, by go_num, rfl, by omega, by omega, by show togGo _ _ = _; rw [← ht.out, HC.out, if_neg hg]⟩
        case measure => simp [intOf]; omega
    · have hfin : Hid (togRes xs = (s / 8, okSum s)) := by
        show togRes xs = _
        refine togRes_some ?_
        rw [← ht.out, List.drop_of_length_le (by rw [← Hn.out]; omega)]; rfl
      go_wp2
      all_goals
        go_ret2
        refine ⟨?_, rfl⟩
        rw [HR.out, hfin.out]
        first | rfl | (have h8 : s = 8 := ‹_›; rw [h8]; rfl) | (have h8 : s = 16 := ‹_›; rw [h8]; rfl)

def fitsB (n x : Int) : Bool := decide (0 ≤ n ∧ n < 2 ^ x.toNat)

theorem fits_div {n x : Int} (h : 0 ≤ n) : (n / 2 ^ x.toNat == 0) = fitsB n x := by
  unfold fitsB
  have hp : (0 : Int) < 2 ^ x.toNat := Int.pow_pos (by omega)
  rw [Bool.eq_iff_iff]
  simp only [beq_iff_eq, decide_eq_true_eq]
  constructor
  · intro h0
    refine ⟨h, ?_⟩
    have := Int.emod_lt_of_pos n hp
    have := Int.mul_ediv_add_emod n (2 ^ x.toNat)
    rw [h0] at this
    omega
  · intro ⟨_, h1⟩
    exact Int.ediv_eq_zero_of_lt h h1

theorem ret_bool {a b : Bool} (h : a = b) : Ending.returned (.bool a) = .returned (.bool b) := by rw [h]

set_option maxHeartbeats 400000 in
theorem has_any (n x : Int) (w : World) (hx0 : 0 ≤ x) (hx1 : x ≤ 32) :
    Calls Try.prog 44 #[.int .i64 n, .int .i64 x] w fun e w' => e = .returned (.bool (fitsB n x)) ∧ w = w' := by
  by_cases hn : 0 ≤ n
  · go_enter Try.func44, Try.ntmps44
    go_wp2
    go_ret
    exact ⟨ret_bool (fits_div hn), rfl⟩
  · go_enter Try.func44, Try.ntmps44
    go_wp2
    go_ret
    exact ⟨ret_bool (by unfold fitsB; simp; omega), rfl⟩

/-- The cells of a row of bytes of which the first k are written. -/
def pc (l : List UInt8) (k : Nat) : List Value := (l.take k).map (fun c => Value.int .u8 c.toNat) ++ List.replicate (l.length - k) (.int .u8 0)

theorem pc_zero (l : List UInt8) : pc l 0 = List.replicate l.length (.int .u8 0) := by simp [pc]
theorem pc_length (l : List UInt8) (k : Nat) (h : k ≤ l.length) : (pc l k).length = l.length := by simp [pc]; omega
theorem pc_full (l : List UInt8) : pc l l.length = l.map (fun c => Value.int .u8 c.toNat) := by simp [pc]

theorem pc_at (l : List UInt8) (k : Nat) (h : k < l.length) : (pc l k)[k]? = some (.int .u8 0) := by
  unfold pc
  have hm : min k l.length = k := Nat.min_eq_left (Nat.le_of_lt h)
  rw [List.getElem?_append_right (by simp; omega)]
  simp only [List.length_map, List.length_take, hm, Nat.sub_self]
  rw [List.getElem?_replicate, if_pos (by omega)]

theorem pc_step (l : List UInt8) (k : Nat) (h : k < l.length) (v : Value) (hv : v = .int .u8 l[k].toNat) : (pc l k).set k v = pc l (k + 1) := by
  subst hv
  unfold pc
  rw [List.take_succ_eq_append_getElem h, List.map_append]
  obtain ⟨d, hd⟩ : ∃ d, l.length - k = d + 1 := ⟨l.length - k - 1, by omega⟩
  have hd' : l.length - (k + 1) = d := by omega
  rw [hd, hd', List.replicate_succ, List.set_append_right _ _ (by simp; omega)]
  simp [Nat.min_eq_left (Nat.le_of_lt h)]

theorem be_cell (m n k : Nat) (h : k < m) (h' : k < (be m n).length) : Value.int .u8 ((n : Int) / 2 ^ (8 * (m - 1 - k)) % 256) = .int .u8 ((be m n)[k]'h').toNat := by
  have e := be_get? m n k h
  rw [List.getElem?_eq_getElem h'] at e
  injection e with e
  rw [e]
  refine val_int ?_
  have hp : ((2 : Int) ^ (8 * (m - 1 - k))) = ((256 ^ (m - 1 - k) : Nat) : Int) := by rw [← pow_8]; simp
  rw [hp]
  simp

theorem Try.info5 : (Try.prog.info? 5).map (fun i => (i.zero, i.size, i.bytes)) = some (some (.int .u8 0), 1, 1) := by kernel_rfl

theorem make_bytes (l : List UInt8) (w : World) (m : Nat) (hm : m ≤ 1000000) (hl : l.length = m) :
    (Instr.makeSlice 64 (.int .i64 m) (.int .i64 m)).run Try.prog w = .ok (.slice (some ⟨w.heap.size, 0, none⟩) m m) (w.alloc (.cells (pc l 0).toArray 5)) := by
  obtain ⟨i, hi, hz0, hz1, hz2⟩ := info_parts Try.info5
  rw [run_make (P := Try.prog) w 64 5 i _ Try.underlying64 hi hz0 .i64 .i64 m m (by omega) (by omega) (by rw [hz2]; omega) (by omega)]
  have e : madeCells (Value.int .u8 0).cells (Int.toNat (m : Int) * i.size) = (pc l 0).toArray := by
    rw [← Array.toList_inj, hz1]
    show (madeCells #[Value.int .u8 0] _).toList = _
    rw [toList_madeCells_one, pc_zero, hl]
    simp
  rw [e]
  rfl

set_option maxHeartbeats 400000 in
theorem spread_any (n : Nat) (m : Nat) (w : World) (hm : m ≤ 4) (_hn : n < 4294967296) :
    Calls Try.prog 45 #[.int .u32 n, .int .i64 m] w fun e w' => e = .returned (.string ⟨(be m n).toArray⟩) ∧ Below w.heap.size w w' := by
  have hmk := fun w => make_bytes (be m n) w m (by omega) (be_length _ _)
  go_enter Try.func45, Try.ntmps45
  go_wp2
  clear hmk
  go_loopw [6, 11] (fun _ i wr => ∃ k : Nat, k ≤ m ∧ i = .int .i64 k ∧ wr = w.alloc (.cells (pc (be m n) k).toArray 5)) (fun _ i _ => m - (intOf i).toNat)
  case atStart => exact ⟨0, Nat.zero_le _, rfl, rfl⟩
  case round =>
    obtain ⟨k, hk, rfl, rfl⟩ := hrel
    by_cases hlt : k < m
    · have hl' : k < (be m n).length := by rw [be_length]; exact hlt
      have hpk := pc_at (be m n) k hl'
      go_wp2
      go_roundw
      case rel => exact ⟨k + 1, by omega, by go_num, by rw [pc_step _ k hl' _ (be_cell m n k hlt hl')]⟩
      case measure => simp [intOf]; omega
    · have hcv : (convert 64 9 (.slice (some ⟨w.heap.size, 0, none⟩) m m)).run Try.prog (w.alloc (.cells (pc (be m n) k).toArray 5)) = .ok (.string ⟨(be m n).toArray⟩) (w.alloc (.cells (pc (be m n) k).toArray 5)) := by
        have h := run_convert_bytes_back (P := Try.prog) (w.alloc (.cells (pc (be m n) k).toArray 5)) 64 9 5 ⟨w.heap.size, 0, none⟩ m (be m n) Try.underlying64 Try.underlying5 Try.underlying9 (fun j hj => by
          have e : (⟨w.heap.size, 0, none⟩ : Addr).add j = ⟨w.heap.size, j, none⟩ := by unfold Addr.add; split <;> simp_all
          rw [e, World.cell?_alloc_mark w _ 5 (0, 0) j, show k = (be m n).length by rw [be_length]; omega, pc_full]
          simp [hj])
        rw [be_length] at h
        exact h
      go_wp2
      go_ret
      exact ⟨rfl, (Below.refl _ _).alloc (Nat.le_refl _) _⟩
end Go.Proofs.Ytiedfdnjnjohdaa.Bi
