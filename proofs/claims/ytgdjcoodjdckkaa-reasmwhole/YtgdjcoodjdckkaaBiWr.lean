/- Contracts of the program's Writer: together, has, spread, Text, fail, Bits. -/
import Derived.Test.YtgdjcoodjdckkaaBiOnes
import Derived.Lib.Hide
namespace Go.Proofs.Ytgdjcoodjdckkaa.Bi
open Go.RowKit Go.Proofs.PitotMath

/-- The sum of widths, one behind the other; none: one of them may not be. -/
def togGo : List Int → Int → Option Int
  | [], s => some s
  | x :: t, s => if x < 1 ∨ 32 - s < x then none else togGo t (s + x)

def okSum (s : Int) : Bool := s == 8 || s == 16 || s == 32

def togRes (l : List Int) : Int × Bool := match togGo l 0 with
  | none => (0, false)
  | some s => (s / 8, okSum s)

/-- A slice of ints: what it reads as; an address is known where it is not empty. -/
def IntsAt (w : World) (A : Option Addr) (xs : List Int) : Prop :=
  xs ≠ [] → ∃ b off, A = some ⟨b, off, none⟩ ∧ b < w.heap.size ∧ ∀ i (h : i < xs.length), w.cell? ⟨b, off + i, none⟩ = some (.int .i64 xs[i])

theorem IntsAt.get {w : World} {A : Option Addr} {xs : List Int} (h : IntsAt w A xs) {k : Nat} (hk : k < xs.length) :
    ∃ b off, A = some ⟨b, off, none⟩ ∧ b < w.heap.size ∧ w.cell? ⟨b, off + k, none⟩ = some (.int .i64 xs[k]) := by
  obtain ⟨b, off, h1, h2, h3⟩ := h (by intro e; subst e; simp at hk)
  exact ⟨b, off, h1, h2, h3 k hk⟩

theorem tog_cons {xs : List Int} {k : Nat} (hk : k < xs.length) (s : Int) : togGo (xs.drop k) s = if xs[k] < 1 ∨ 32 - s < xs[k] then none else togGo (xs.drop (k + 1)) (s + xs[k]) := by
  rw [List.drop_eq_getElem_cons hk]; rfl

theorem togRes_none {xs : List Int} (h : togGo xs 0 = none) : togRes xs = (0, false) := by unfold togRes; rw [h]
theorem togRes_some {xs : List Int} {s : Int} (h : togGo xs 0 = some s) : togRes xs = (s / 8, okSum s) := by unfold togRes; rw [h]

theorem tuple_ib {a b : Int} {c d : Bool} (h1 : a = b) (h2 : c = d) : Ending.returned (.tuple #[.int .i64 a, .bool c]) = .returned (.tuple #[.int .i64 b, .bool d]) := by rw [h1, h2]

def fitsB (n x : Int) : Bool := decide (0 ≤ n ∧ n < 2 ^ x.toNat)

theorem fits_div {n x : Int} (h : 0 ≤ n) : (n / 2 ^ x.toNat == 0) = fitsB n x := by
  unfold fitsB
  have hp : (0 : Int) < 2 ^ x.toNat := Int.pow_pos (by omega)
  rw [Bool.eq_iff_iff]
  simp only [beq_iff_eq, decide_eq_true_eq]
  constructor
  · intro h0
    refine ⟨h, ?_⟩
    have := Int.emod_lt_of_pos n hp
    have := Int.mul_ediv_add_emod n (2 ^ x.toNat)
    rw [h0] at this
    omega
  · intro ⟨_, h1⟩
    exact Int.ediv_eq_zero_of_lt h h1

theorem ret_bool {a b : Bool} (h : a = b) : Ending.returned (.bool a) = .returned (.bool b) := by rw [h]

/-- The cells of a row of bytes of which the first k are written. -/
def pc (l : List UInt8) (k : Nat) : List Value := (l.take k).map (fun c => Value.int .u8 c.toNat) ++ List.replicate (l.length - k) (.int .u8 0)

theorem pc_zero (l : List UInt8) : pc l 0 = List.replicate l.length (.int .u8 0) := by simp [pc]
theorem pc_length (l : List UInt8) (k : Nat) (h : k ≤ l.length) : (pc l k).length = l.length := by simp [pc]; omega
theorem pc_full (l : List UInt8) : pc l l.length = l.map (fun c => Value.int .u8 c.toNat) := by simp [pc]

theorem pc_at (l : List UInt8) (k : Nat) (h : k < l.length) : (pc l k)[k]? = some (.int .u8 0) := by
  unfold pc
  have hm : min k l.length = k := Nat.min_eq_left (Nat.le_of_lt h)
  rw [List.getElem?_append_right (by simp; omega)]
  simp only [List.length_map, List.length_take, hm, Nat.sub_self]
  rw [List.getElem?_replicate, if_pos (by omega)]

theorem pc_step (l : List UInt8) (k : Nat) (h : k < l.length) (v : Value) (hv : v = .int .u8 l[k].toNat) : (pc l k).set k v = pc l (k + 1) := by
  subst hv
  unfold pc
  rw [List.take_succ_eq_append_getElem h, List.map_append]
  obtain ⟨d, hd⟩ : ∃ d, l.length - k = d + 1 := ⟨l.length - k - 1, by omega⟩
  have hd' : l.length - (k + 1) = d := by omega
  rw [hd, hd', List.replicate_succ, List.set_append_right _ _ (by simp; omega)]
  simp [Nat.min_eq_left (Nat.le_of_lt h)]

theorem be_cell (m n k : Nat) (h : k < m) (h' : k < (be m n).length) : Value.int .u8 ((n : Int) / 2 ^ (8 * (m - 1 - k)) % 256) = .int .u8 ((be m n)[k]'h').toNat := by
  have e := be_get? m n k h
  rw [List.getElem?_eq_getElem h'] at e
  injection e with e
  rw [e]
  refine val_int ?_
  have hp : ((2 : Int) ^ (8 * (m - 1 - k))) = ((256 ^ (m - 1 - k) : Nat) : Int) := by rw [← pow_8]; simp
  rw [hp]
  simp

theorem Try.info5 : (Try.prog.info? 5).map (fun i => (i.zero, i.size, i.bytes)) = some (some (.int .u8 0), 1, 1) := by kernel_rfl

theorem make_bytes (l : List UInt8) (w : World) (m : Nat) (hm : m ≤ 1000000) (hl : l.length = m) :
    (Instr.makeSlice 71 (.int .i64 m) (.int .i64 m)).run Try.prog w = .ok (.slice (some ⟨w.heap.size, 0, none⟩) m m) (w.alloc (.cells (pc l 0).toArray 5)) := by
  obtain ⟨i, hi, hz0, hz1, hz2⟩ := info_parts Try.info5
  rw [run_make (P := Try.prog) w 71 5 i _ Try.underlying71 hi hz0 .i64 .i64 m m (by omega) (by omega) (by rw [hz2]; omega) (by omega)]
  have e : madeCells (Value.int .u8 0).cells (Int.toNat (m : Int) * i.size) = (pc l 0).toArray := by
    rw [← Array.toList_inj, hz1]
    show (madeCells #[Value.int .u8 0] _).toList = _
    rw [toList_madeCells_one, pc_zero, hl]
    simp
  rw [e]
  rfl

end Go.Proofs.Ytgdjcoodjdckkaa.Bi
