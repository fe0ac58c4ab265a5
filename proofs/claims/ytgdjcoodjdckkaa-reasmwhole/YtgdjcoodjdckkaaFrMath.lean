/- Plain facts on bytes cut into parts. No conditions. -/
namespace Go.Proofs.PitotFrag

/-- How many parts are cut off till no more than lim bytes are left. -/
def cnt (long lim room : Nat) : Nat := (long - lim + room - 1) / room
theorem cnt_lt {long lim room : Nat} (hr : 0 < room) (k : Nat) : k < cnt long lim room ↔ lim + k * room < long := by
  unfold cnt
  rw [Nat.lt_iff_add_one_le, Nat.le_div_iff_mul_le hr, Nat.add_mul]
  generalize k * room = m
  omega
theorem cnt_zero {long lim room : Nat} (hr : 0 < room) (h : long ≤ lim) : cnt long lim room = 0 := by
  have := cnt_lt (long := long) (lim := lim) hr 0
  simp at this
  omega
theorem cnt_end {long lim room : Nat} (hr : 0 < room) : long ≤ lim + cnt long lim room * room := by
  refine Nat.not_lt.1 fun q => ?_
  exact Nat.lt_irrefl _ ((cnt_lt (long := long) (lim := lim) hr (cnt long lim room)).2 q)
theorem cnt_step {long lim room : Nat} (hr : 0 < room) (h : lim < long) : cnt long lim room = cnt (long - room) lim room + 1 := by
  refine Nat.le_antisymm ?_ ?_
  · refine Nat.not_lt.1 fun q => ?_
    have h1 := (cnt_lt (long := long) (lim := lim) hr (cnt (long - room) lim room + 1)).1 q
    have h2 := cnt_end (long := long - room) (lim := lim) hr
    rw [Nat.add_mul] at h1
    omega
  · rcases Nat.eq_zero_or_pos (cnt (long - room) lim room) with e | e
    · rw [e]
      have := (cnt_lt (long := long) (lim := lim) hr 0).2 (by omega)
      omega
    · obtain ⟨m, hm⟩ : ∃ m, cnt (long - room) lim room = m + 1 := ⟨cnt (long - room) lim room - 1, by omega⟩
      rw [hm]
      have h1 := (cnt_lt (long := long - room) (lim := lim) hr m).1 (by omega)
      have := (cnt_lt (long := long) (lim := lim) hr (m + 1)).2 (by rw [Nat.add_mul]; omega)
      omega

section
variable {α : Type}
/-- A part that is cut off, and what is left. -/
def piece (d : List α) (room k : Nat) : List α := (d.drop (k * room)).take room
def parts (d : List α) (lim room : Nat) : List (List α) := (List.range (cnt d.length lim room)).map (piece d room) ++ [d.drop (cnt d.length lim room * room)]
theorem parts_length (d : List α) (lim room : Nat) : (parts d lim room).length = cnt d.length lim room + 1 := by simp [parts]
theorem piece_length (d : List α) {lim room k : Nat} (hr : 0 < room) (hl : room ≤ lim) (hk : k < cnt d.length lim room) : (piece d room k).length = room := by
  have := (cnt_lt hr k).1 hk
  simp [piece]
  omega
theorem last_le (d : List α) {lim room : Nat} (hr : 0 < room) : (d.drop (cnt d.length lim room * room)).length ≤ lim := by
  have := cnt_end (long := d.length) (lim := lim) hr
  simp
  omega
/-- The last two would not go into one. -/
theorem last_two (d : List α) {lim room n : Nat} (hr : 0 < room) (hn : cnt d.length lim room = n + 1) : lim < room + (d.drop ((n + 1) * room)).length := by
  have := (cnt_lt (long := d.length) (lim := lim) hr n).1 (by omega)
  simp [Nat.add_mul]
  omega
theorem take_step (d : List α) (room k : Nat) : d.take (k * room) ++ piece d room k = d.take ((k + 1) * room) := by
  rw [piece, Nat.add_mul, Nat.one_mul, List.take_add]
theorem pieces_flat (d : List α) (room : Nat) : ∀ k, ((List.range k).map (piece d room)).flatten = d.take (k * room)
  | 0 => by simp
  | k + 1 => by rw [List.range_succ, List.map_append, List.flatten_append, pieces_flat d room k]; simp [take_step]
/-- Joined they are what was cut. -/
theorem parts_flat (d : List α) (lim room : Nat) : (parts d lim room).flatten = d := by
  rw [parts, List.flatten_append, pieces_flat]
  simp
end

/-- Room's number. -/
def room (smax : Nat) : Nat := (smax - 39) / 8 * 8
theorem room_bounds {smax : Nat} (h : 64 ≤ smax) : 24 ≤ room smax ∧ room smax % 8 = 0 ∧ room smax ≤ smax - 39 ∧ smax - 39 < room smax + 8 := by unfold room; omega
theorem off_eight {smax : Nat} (k : Nat) : 8 * (k * room smax / 8) = k * room smax := by
  unfold room
  rw [← Nat.mul_assoc]
  omega
end Go.Proofs.PitotFrag
