/- The table of packets that are begun, plain: over any kind of key. -/
namespace Go.Proofs.PitotReasm
set_option linter.unusedSectionVars false
variable {κ α : Type} [DecidableEq κ]

/-- A packet that is begun: its key, when it was, and its bytes. -/
structure Bg (κ α : Type) where
  k : κ
  t0 : Int
  d : List α
/-- A table. -/
structure Tb (κ α : Type) where
  l : List (Bg κ α)
  now : Int
  dr : Nat

/-- What is there of a key. -/
def find (l : List (Bg κ α)) (k : κ) : Option (Bg κ α) := l.find? fun b => decide (b.k = k)
/-- A key is taken out. -/
def drop (l : List (Bg κ α)) (k : κ) : List (Bg κ α) := l.filter fun b => !decide (b.k = k)
/-- Bytes are put behind those of a key. -/
def more (l : List (Bg κ α)) (k : κ) (d : List α) : List (Bg κ α) := l.map fun b => if b.k = k then { b with d := b.d ++ d } else b
/-- What is not to be given up. -/
def keep (l : List (Bg κ α)) (wait n : Int) : List (Bg κ α) := l.filter fun b => decide (n - b.t0 ≤ wait)
def passed (t : Tb κ α) (wait n : Int) : Tb κ α := ⟨keep t.l wait n, n, t.dr + (t.l.length - (keep t.l wait n).length)⟩
/-- What Pass answers. -/
def passE (t : Tb κ α) (n : Int) : Int := if 1125899906842624 < n then 1 else if n < t.now then 24 else 0
/-- Is a part that is not the last one of no bytes, or not of a multiple of 8? -/
def bad (m : Bool) (d : List α) : Bool := m && (decide (d.length = 0) || decide (d.length % 8 ≠ 0))

/-- A first part: what becomes of the table (behind Pass), and the answer. -/
def first (most : Nat) (t : Tb κ α) (k : κ) (m : Bool) (d : List α) : Tb κ α × Int :=
  let t1 : Tb κ α := ⟨drop t.l k, t.now, t.dr + (t.l.length - (drop t.l k).length)⟩
  if bad m d = true then (t1, 15) else if 8200 < d.length then (t1, 11) else if most ≤ t1.l.length then (t1, 22) else (⟨t1.l ++ [⟨k, t.now, d⟩], t1.now, t1.dr⟩, 0)
/-- Another part: what becomes of the table, what is whole, the answer. -/
def next (t : Tb κ α) (k : κ) (m : Bool) (o : Int) (d : List α) : Tb κ α × Option (List α) × Int :=
  match find t.l k with
  | none => (t, none, 25)
  | some b =>
    let e : Int := if b.d.length % 8 ≠ 0 ∨ o ≠ ((b.d.length / 8 : Nat) : Int) then 25 else if bad m d = true then 15 else if 8200 < b.d.length + d.length then 11 else 0
    if e ≠ 0 then (⟨drop t.l k, t.now, t.dr + 1⟩, none, e)
    else if m = true then (⟨more t.l k d, t.now, t.dr⟩, none, 0)
    else (⟨drop t.l k, t.now, t.dr⟩, some (b.d ++ d), 0)
/-- Put. -/
def put (most : Nat) (wait : Int) (t : Tb κ α) (n : Int) (k : κ) (m : Bool) (o : Int) (d : List α) : Tb κ α × Option (List α) × Int :=
  if passE t n ≠ 0 then (t, none, passE t n)
  else if m = false ∧ o = 0 then (passed t wait n, some d, 0)
  else if o = 0 then ((first most (passed t wait n) k m d).1, none, (first most (passed t wait n) k m d).2)
  else next (passed t wait n) k m o d

/-- No key twice; each has bytes, a multiple of 8. -/
structure Fine (l : List (Bg κ α)) : Prop where
  once : (l.map (·.k)).Nodup
  eight : ∀ b ∈ l, b.d.length % 8 = 0

theorem sub_nodup {l l' : List (Bg κ α)} (h : l'.Sublist l) (hn : (l.map (·.k)).Nodup) : (l'.map (·.k)).Nodup := (h.map _).nodup hn
theorem Fine.sub {l l' : List (Bg κ α)} (h : Fine l) (hs : l'.Sublist l) : Fine l' := ⟨sub_nodup hs h.once, fun b hb => h.eight b (hs.subset hb)⟩
theorem Fine.keep {l : List (Bg κ α)} (h : Fine l) (wait n : Int) : Fine (keep l wait n) := h.sub List.filter_sublist
theorem Fine.drop {l : List (Bg κ α)} (h : Fine l) (k : κ) : Fine (drop l k) := h.sub List.filter_sublist
theorem more_keys (l : List (Bg κ α)) (k : κ) (d : List α) : (more l k d).map (·.k) = l.map (·.k) := by
  induction l with
  | nil => rfl
  | cons b r ih =>
    simp only [more, List.map_cons] at ih ⊢
    rw [ih]
    by_cases h : b.k = k <;> simp [h]
theorem Fine.more {l : List (Bg κ α)} (h : Fine l) (k : κ) (d : List α) (hd : d.length % 8 = 0) : Fine (more l k d) := by
  refine ⟨by rw [more_keys]; exact h.once, fun b hb => ?_⟩
  simp only [PitotReasm.more, List.mem_map] at hb
  obtain ⟨c, hc, rfl⟩ := hb
  have := h.eight c hc
  split
  · simp; omega
  · exact this

theorem find_some {l : List (Bg κ α)} {k : κ} {b : Bg κ α} (h : find l k = some b) : b.k = k ∧ b ∈ l := ⟨by simpa using List.find?_some h, List.mem_of_find?_eq_some h⟩
theorem find_none {l : List (Bg κ α)} {k : κ} (h : find l k = none) : ∀ b ∈ l, b.k ≠ k := fun b hb e => by
  have := List.find?_eq_none.1 h b hb
  simp [e] at this
theorem find_cons (c : Bg κ α) (r : List (Bg κ α)) (k : κ) : find (c :: r) k = if c.k = k then some c else find r k := by
  unfold find
  by_cases h : c.k = k
  · rw [List.find?_cons_of_pos (by simpa using h), if_pos h]
  · rw [List.find?_cons_of_neg (by simpa using h), if_neg h]
theorem drop_cons (c : Bg κ α) (r : List (Bg κ α)) (k : κ) : drop (c :: r) k = if c.k = k then drop r k else c :: drop r k := by
  unfold drop
  by_cases h : c.k = k
  · rw [List.filter_cons_of_neg (by simpa using h), if_pos h]
  · rw [List.filter_cons_of_pos (by simpa using h), if_neg h]
theorem keep_cons (c : Bg κ α) (r : List (Bg κ α)) (wait n : Int) : keep (c :: r) wait n = if n - c.t0 ≤ wait then c :: keep r wait n else keep r wait n := by
  unfold keep
  by_cases h : n - c.t0 ≤ wait
  · rw [List.filter_cons_of_pos (by simpa using h), if_pos h]
  · rw [List.filter_cons_of_neg (by simpa using h), if_neg h]
theorem more_cons (c : Bg κ α) (r : List (Bg κ α)) (k : κ) (d : List α) : more (c :: r) k d = (if c.k = k then { c with d := c.d ++ d } else c) :: more r k d := rfl

theorem find_drop_self (l : List (Bg κ α)) (k : κ) : find (drop l k) k = none := by
  rw [find, List.find?_eq_none]
  intro b hb
  simp only [drop, List.mem_filter] at hb
  simpa using hb.2
theorem find_drop_other (l : List (Bg κ α)) {k k' : κ} (h : k' ≠ k) : find (drop l k') k = find l k := by
  induction l with
  | nil => rfl
  | cons b r ih =>
    rw [drop_cons, find_cons]
    by_cases h1 : b.k = k'
    · rw [if_pos h1, if_neg (fun e => h (h1.symm.trans e))]; exact ih
    · rw [if_neg h1, find_cons, ih]
theorem find_more_self {l : List (Bg κ α)} {k : κ} {b : Bg κ α} (h : find l k = some b) (d : List α) : find (more l k d) k = some { b with d := b.d ++ d } := by
  induction l with
  | nil => simp [find] at h
  | cons c r ih =>
    rw [find_cons] at h
    rw [more_cons, find_cons]
    by_cases h1 : c.k = k
    · rw [if_pos h1] at h
      cases h
      simp [h1]
    · rw [if_neg h1] at h ⊢
      rw [if_neg h1]
      exact ih h
theorem find_more_other (l : List (Bg κ α)) {k k' : κ} (h : k' ≠ k) (d : List α) : find (more l k' d) k = find l k := by
  induction l with
  | nil => rfl
  | cons c r ih =>
    rw [more_cons, find_cons, find_cons, ih]
    by_cases h1 : c.k = k'
    · have h2 : ¬ c.k = k := fun e => h (h1.symm.trans e)
      rw [if_pos h1, if_neg h2, if_neg h2]
    · rw [if_neg h1]
theorem find_snoc (l : List (Bg κ α)) (k : κ) (b : Bg κ α) : find (l ++ [b]) k = (find l k).or (if b.k = k then some b else none) := by
  unfold find
  rw [List.find?_append]
  congr 1
  by_cases h : b.k = k <;> simp [h]
theorem find_keep {l : List (Bg κ α)} {k : κ} {b : Bg κ α} (h : find l k = some b) {wait n : Int} (hw : n - b.t0 ≤ wait) : find (keep l wait n) k = some b := by
  induction l with
  | nil => simp [find] at h
  | cons c r ih =>
    rw [find_cons] at h
    rw [keep_cons]
    by_cases h1 : c.k = k
    · rw [if_pos h1] at h
      cases h
      rw [if_pos hw, find_cons, if_pos h1]
    · rw [if_neg h1] at h
      split
      · rw [find_cons, if_neg h1]; exact ih h
      · exact ih h
theorem keep_all {l : List (Bg κ α)} {wait n : Int} (h : ∀ b ∈ l, n - b.t0 ≤ wait) : keep l wait n = l := List.filter_eq_self.2 fun b hb => decide_eq_true (h b hb)
theorem drop_length_le (l : List (Bg κ α)) (k : κ) : (drop l k).length ≤ l.length := List.length_filter_le _ _
theorem drop_none {l : List (Bg κ α)} {k : κ} (h : find l k = none) : drop l k = l := List.filter_eq_self.2 fun b hb => by simpa using find_none h b hb
theorem drop_one {l : List (Bg κ α)} (hf : (l.map (·.k)).Nodup) {k : κ} {b : Bg κ α} (h : find l k = some b) : (drop l k).length + 1 = l.length := by
  induction l with
  | nil => simp [find] at h
  | cons c r ih =>
    simp only [List.map_cons, List.nodup_cons, List.mem_map, not_exists, not_and] at hf
    rw [find_cons] at h
    rw [drop_cons]
    by_cases h1 : c.k = k
    · have : find r k = none := by
        rw [find, List.find?_eq_none]
        intro b hb
        simpa [h1] using hf.1 b hb
      rw [if_pos h1, drop_none this]; rfl
    · rw [if_neg h1] at h ⊢
      have := ih hf.2 h
      simp only [List.length_cons]
      omega

theorem first_cases (most : Nat) (t : Tb κ α) (k : κ) (m : Bool) (d : List α) : (first most t k m d).1.l = drop t.l k ∨ ((first most t k m d).1.l = drop t.l k ++ [⟨k, t.now, d⟩] ∧ bad m d = false) := by
  unfold first
  by_cases h1 : bad m d = true
  · rw [if_pos h1]; exact .inl rfl
  · rw [if_neg h1]
    by_cases h2 : 8200 < d.length
    · rw [if_pos h2]; exact .inl rfl
    · rw [if_neg h2]
      by_cases h3 : most ≤ (drop t.l k).length
      · rw [if_pos h3]; exact .inl rfl
      · rw [if_neg h3]; exact .inr ⟨rfl, by simpa using h1⟩
theorem next_cases (t : Tb κ α) (k : κ) (m : Bool) (o : Int) (d : List α) : (next t k m o d).1.l = t.l ∨ (next t k m o d).1.l = drop t.l k ∨ ((next t k m o d).1.l = more t.l k d ∧ m = true ∧ bad m d = false) := by
  unfold next
  cases find t.l k with
  | none => exact .inl rfl
  | some b =>
    simp only
    by_cases h1 : b.d.length % 8 ≠ 0 ∨ o ≠ ((b.d.length / 8 : Nat) : Int)
    · rw [if_pos h1, if_pos (by omega)]; exact .inr (.inl rfl)
    · rw [if_neg h1]
      by_cases h2 : bad m d = true
      · rw [if_pos h2, if_pos (by omega)]; exact .inr (.inl rfl)
      · rw [if_neg h2]
        by_cases h3 : 8200 < b.d.length + d.length
        · rw [if_pos h3, if_pos (by omega)]; exact .inr (.inl rfl)
        · rw [if_neg h3, if_neg (by omega)]
          by_cases h4 : m = true
          · rw [if_pos h4]; exact .inr (.inr ⟨rfl, h4, by simpa using h2⟩)
          · rw [if_neg h4]; exact .inr (.inl rfl)
/-- What a Put does to the list. -/
theorem put_cases (most : Nat) (wait : Int) (t : Tb κ α) (n : Int) (k : κ) (m : Bool) (o : Int) (d : List α) :
    (put most wait t n k m o d).1.l = t.l ∨ (put most wait t n k m o d).1.l = keep t.l wait n ∨ (put most wait t n k m o d).1.l = drop (keep t.l wait n) k ∨ ((put most wait t n k m o d).1.l = drop (keep t.l wait n) k ++ [⟨k, n, d⟩] ∧ m = true ∧ bad m d = false) ∨ ((put most wait t n k m o d).1.l = more (keep t.l wait n) k d ∧ m = true ∧ bad m d = false) := by
  unfold put
  by_cases h1 : passE t n ≠ 0
  · rw [if_pos h1]; exact .inl rfl
  · rw [if_neg h1]
    by_cases h2 : m = false ∧ o = 0
    · rw [if_pos h2]; exact .inr (.inl rfl)
    · rw [if_neg h2]
      by_cases h3 : o = 0
      · rw [if_pos h3]
        have hm : m = true := by cases m; exact absurd ⟨rfl, h3⟩ h2; rfl
        rcases first_cases most (passed t wait n) k m d with h | ⟨h, hb⟩
        · exact .inr (.inr (.inl h))
        · exact .inr (.inr (.inr (.inl ⟨h, hm, hb⟩)))
      · rw [if_neg h3]
        rcases next_cases (passed t wait n) k m o d with h | h | ⟨h, hm, hb⟩
        · exact .inr (.inl h)
        · exact .inr (.inr (.inl h))
        · exact .inr (.inr (.inr (.inr ⟨h, hm, hb⟩)))
theorem put_len (most : Nat) (wait : Int) (t : Tb κ α) (n : Int) (k : κ) (m : Bool) (o : Int) (d : List α) : (put most wait t n k m o d).1.l.length ≤ t.l.length + 1 := by
  have hk : (keep t.l wait n).length ≤ t.l.length := List.length_filter_le _ _
  have hd := drop_length_le (keep t.l wait n) k
  rcases put_cases most wait t n k m o d with h | h | h | ⟨h, _, _⟩ | ⟨h, _, _⟩ <;> rw [h]
  · omega
  · omega
  · omega
  · simp; omega
  · simp [more]; omega
/-- What comes of another key turns nothing of this one. -/
theorem put_other {most : Nat} {wait : Int} {t : Tb κ α} {n : Int} {k k' : κ} (h : k' ≠ k) (m : Bool) (o : Int) (d : List α) {b : Bg κ α} (hb : find t.l k = some b) (hw : n - b.t0 ≤ wait) :
    find (put most wait t n k' m o d).1.l k = some b := by
  have hk := find_keep hb hw
  have hd : find (drop (keep t.l wait n) k') k = some b := by rw [find_drop_other _ h]; exact hk
  rcases put_cases most wait t n k' m o d with e | e | e | ⟨e, _, _⟩ | ⟨e, _, _⟩ <;> rw [e]
  · exact hb
  · exact hk
  · exact hd
  · rw [find_snoc, hd]; rfl
  · rw [find_more_other _ h]; exact hk
theorem bad_eight {d : List α} (h : bad true d = false) : d.length % 8 = 0 ∧ d.length ≠ 0 := by
  simp [bad] at h
  refine ⟨h.2, fun e => h.1 ?_⟩
  exact List.length_eq_zero_iff.1 e
theorem put_fine {most : Nat} {wait : Int} {t : Tb κ α} (hf : Fine t.l) (n : Int) (k : κ) (m : Bool) (o : Int) (d : List α) : Fine (put most wait t n k m o d).1.l := by
  have hk := hf.keep wait n
  rcases put_cases most wait t n k m o d with e | e | e | ⟨e, hm, hb⟩ | ⟨e, hm, hb⟩ <;> rw [e]
  · exact hf
  · exact hk
  · exact hk.drop k
  · subst hm
    refine ⟨?_, fun b hb' => ?_⟩
    · simp only [List.map_append, List.map_cons, List.map_nil]
      rw [List.nodup_append]
      refine ⟨(hk.drop k).once, by simp, fun a ha b hb => ?_⟩
      simp only [List.mem_singleton] at hb
      subst hb
      simp only [List.mem_map] at ha
      obtain ⟨c, hc, rfl⟩ := ha
      exact find_none (find_drop_self _ _) c hc
    · simp only [List.mem_append, List.mem_singleton] at hb'
      rcases hb' with hb' | rfl
      · exact (hk.drop k).eight b hb'
      · exact (bad_eight hb).1
  · subst hm
    exact hk.more k d (bad_eight hb).1

/-- A packet that is no part comes out at once, and turns nothing that is not to be given up. -/
theorem put_alone (most : Nat) {wait : Int} {t : Tb κ α} {n : Int} (k : κ) (d : List α) (hp : passE t n = 0) (hw : ∀ b ∈ t.l, n - b.t0 ≤ wait) : put most wait t n k false 0 d = (⟨t.l, n, t.dr⟩, some d, 0) := by
  unfold put
  rw [if_neg (by omega), if_pos ⟨rfl, rfl⟩]
  simp [passed, keep_all hw]
theorem first_ok {most : Nat} {t : Tb κ α} {k : κ} {d : List α} (hn : find t.l k = none) (hb : bad true d = false) (hl : d.length ≤ 8200) (hr : t.l.length < most) : first most t k true d = (⟨t.l ++ [⟨k, t.now, d⟩], t.now, t.dr⟩, 0) := by
  unfold first
  rw [if_neg (by rw [hb]; simp), if_neg (by omega), if_neg (by simp only [drop_none hn]; omega)]
  simp [drop_none hn]
/-- A first part of a key of which none is begun, where there is room. -/
theorem put_first {most : Nat} {wait : Int} {t : Tb κ α} {n : Int} {k : κ} {d : List α} (hp : passE t n = 0) (hn : find (keep t.l wait n) k = none) (hb : bad true d = false) (hl : d.length ≤ 8200) (hr : (keep t.l wait n).length < most) :
    (put most wait t n k true 0 d).2 = (none, 0) ∧ find (put most wait t n k true 0 d).1.l k = some ⟨k, n, d⟩ ∧ (put most wait t n k true 0 d).1.now = n := by
  unfold put
  rw [if_neg (by omega), if_neg (by simp), if_pos rfl]
  rw [first_ok (t := passed t wait n) hn hb hl hr]
  refine ⟨rfl, ?_, rfl⟩
  simp only [find_snoc]
  rw [show find (passed t wait n).l k = none from hn]
  simp [passed]
theorem next_more {t : Tb κ α} {k : κ} {b : Bg κ α} {d : List α} {o : Int} (hf : find t.l k = some b) (h8 : b.d.length % 8 = 0) (ho : o = ((b.d.length / 8 : Nat) : Int)) (hb : bad true d = false) (hl : b.d.length + d.length ≤ 8200) : next t k true o d = (⟨more t.l k d, t.now, t.dr⟩, none, 0) := by
  unfold next
  rw [hf]
  simp only
  have h1 : ¬ (b.d.length % 8 ≠ 0 ∨ o ≠ ((b.d.length / 8 : Nat) : Int)) := by omega
  have h2 : ¬ bad true d = true := by rw [hb]; simp
  have h3 : ¬ 8200 < b.d.length + d.length := by omega
  rw [if_neg h1, if_neg h2, if_neg h3]
  rfl
theorem next_last {t : Tb κ α} {k : κ} {b : Bg κ α} {d : List α} {o : Int} (hf : find t.l k = some b) (h8 : b.d.length % 8 = 0) (ho : o = ((b.d.length / 8 : Nat) : Int)) (hl : b.d.length + d.length ≤ 8200) : next t k false o d = (⟨drop t.l k, t.now, t.dr⟩, some (b.d ++ d), 0) := by
  unfold next
  rw [hf]
  simp only
  have h1 : ¬ (b.d.length % 8 ≠ 0 ∨ o ≠ ((b.d.length / 8 : Nat) : Int)) := by omega
  have h2 : ¬ bad false d = true := by simp [bad]
  have h3 : ¬ 8200 < b.d.length + d.length := by omega
  rw [if_neg h1, if_neg h2, if_neg h3]
  rfl
/-- A part that comes next, behind which others come. -/
theorem put_more {most : Nat} {wait : Int} {t : Tb κ α} {n : Int} {k : κ} {b : Bg κ α} {d : List α} {o : Int} (hp : passE t n = 0) (hf : find t.l k = some b) (hw : n - b.t0 ≤ wait) (h8 : b.d.length % 8 = 0) (ho : o = ((b.d.length / 8 : Nat) : Int)) (ho0 : o ≠ 0) (hb : bad true d = false) (hl : b.d.length + d.length ≤ 8200) :
    (put most wait t n k true o d).2 = (none, 0) ∧ find (put most wait t n k true o d).1.l k = some { b with d := b.d ++ d } ∧ (put most wait t n k true o d).1.now = n := by
  have hk := find_keep hf hw
  unfold put
  rw [if_neg (by omega), if_neg (by simp), if_neg ho0]
  rw [next_more (t := passed t wait n) hk h8 ho hb hl]
  exact ⟨rfl, find_more_self hk d, rfl⟩
/-- The last part. -/
theorem put_last {most : Nat} {wait : Int} {t : Tb κ α} {n : Int} {k : κ} {b : Bg κ α} {d : List α} {o : Int} (hp : passE t n = 0) (hf : find t.l k = some b) (hw : n - b.t0 ≤ wait) (h8 : b.d.length % 8 = 0) (ho : o = ((b.d.length / 8 : Nat) : Int)) (ho0 : o ≠ 0) (hl : b.d.length + d.length ≤ 8200) :
    (put most wait t n k false o d).2 = (some (b.d ++ d), 0) ∧ (put most wait t n k false o d).1 = ⟨drop (keep t.l wait n) k, n, (passed t wait n).dr⟩ := by
  have hk := find_keep hf hw
  unfold put
  rw [if_neg (by omega), if_neg (by simp [ho0]), if_neg ho0]
  rw [next_last (t := passed t wait n) hk h8 ho hl]
  exact ⟨rfl, rfl⟩
/-- A part that is not the first, of a key of which none is begun. -/
theorem put_none {most : Nat} {wait : Int} {t : Tb κ α} {n : Int} {k : κ} {m : Bool} {d : List α} {o : Int} (hp : passE t n = 0) (hf : find (keep t.l wait n) k = none) (ho0 : o ≠ 0) : put most wait t n k m o d = (passed t wait n, none, 25) := by
  unfold put
  rw [if_neg (by omega), if_neg (by simp [ho0]), if_neg ho0]
  simp only [next, passed, hf]

/-- A part that came. -/
structure Pt (κ α : Type) where
  k : κ
  m : Bool
  o : Int
  d : List α
/-- The parts of a key since the last first one; the newest one stands first in the list that is looked through. -/
def own : List (Pt κ α) → κ → List (Pt κ α)
  | [], _ => []
  | p :: r, K => if p.k = K ∧ ¬ (p.o = 0 ∧ p.m = false) then (if p.o = 0 then [p] else own r K ++ [p]) else own r K
/-- Parts that stand one behind the other, all with others behind them. -/
structure Chain (ps : List (Pt κ α)) (b : List α) : Prop where
  some : ps ≠ []
  each : ∀ p ∈ ps, p.m = true ∧ p.d.length % 8 = 0 ∧ p.d.length ≠ 0
  cat : ps.flatMap (·.d) = b
  off : ∀ i (h : i < ps.length), ps[i].o = ((((ps.take i).flatMap (·.d)).length / 8 : Nat) : Int)
theorem Chain.one {p : Pt κ α} (hm : p.m = true) (ho : p.o = 0) (hb : bad true p.d = false) : Chain [p] p.d := by
  have h8 := bad_eight hb
  refine ⟨by simp, fun q hq => ?_, by simp, fun i h => ?_⟩
  · simp only [List.mem_singleton] at hq; subst hq; exact ⟨hm, h8⟩
  · have : i = 0 := by simpa using h
    subst this
    simpa using ho
theorem Chain.snoc {ps : List (Pt κ α)} {b : List α} (h : Chain ps b) {p : Pt κ α} (hm : p.m = true) (ho : p.o = ((b.length / 8 : Nat) : Int)) (hb : bad true p.d = false) : Chain (ps ++ [p]) (b ++ p.d) := by
  have h8 := bad_eight hb
  refine ⟨by simp, fun q hq => ?_, by simp [h.cat], fun i hi => ?_⟩
  · simp only [List.mem_append, List.mem_singleton] at hq
    rcases hq with hq | rfl
    · exact h.each q hq
    · exact ⟨hm, h8⟩
  · by_cases hlt : i < ps.length
    · rw [List.getElem_append_left hlt, List.take_append_of_le_length (Nat.le_of_lt hlt)]
      exact h.off i hlt
    · have : i = ps.length := by simp at hi; omega
      subst this
      rw [List.getElem_append_right (Nat.le_refl _), List.take_append_of_le_length (Nat.le_refl _), List.take_length, h.cat]
      simpa using ho
/-- What is begun is what came of its key since its first part. -/
def Inv (r : List (Pt κ α)) (t : Tb κ α) : Prop := ∀ K b, find t.l K = Option.some b → Chain (own r K) b.d

theorem inv_nil (t : Tb κ α) (h : t.l = []) : Inv [] t := fun K b hb => by rw [h] at hb; simp [find] at hb
theorem own_other {p : Pt κ α} {r : List (Pt κ α)} {K : κ} (h : p.k ≠ K) : own (p :: r) K = own r K := by rw [own, if_neg (fun e => h e.1)]
theorem own_whole {p : Pt κ α} {r : List (Pt κ α)} {K : κ} (ho : p.o = 0) (hm : p.m = false) : own (p :: r) K = own r K := by rw [own, if_neg (fun e => e.2 ⟨ho, hm⟩)]
theorem own_first {p : Pt κ α} {r : List (Pt κ α)} (ho : p.o = 0) (hm : p.m = true) : own (p :: r) p.k = [p] := by rw [own, if_pos ⟨rfl, by simp [hm]⟩, if_pos ho]
theorem own_next {p : Pt κ α} {r : List (Pt κ α)} (ho : p.o ≠ 0) : own (p :: r) p.k = own r p.k ++ [p] := by rw [own, if_pos ⟨rfl, fun e => ho e.1⟩, if_neg ho]

theorem find_some_drop {l : List (Bg κ α)} {k : κ} {b : Bg κ α} (h : find (drop l k) k = Option.some b) : False := by rw [find_drop_self] at h; cases h

theorem inv_step {most : Nat} {wait : Int} {t : Tb κ α} {n : Int} {r : List (Pt κ α)} (hi : Inv r t) (hw : ∀ b ∈ t.l, n - b.t0 ≤ wait) (p : Pt κ α) (hp : passE t n = 0) : Inv (p :: r) (put most wait t n p.k p.m p.o p.d).1 := by
  have hk := keep_all hw
  intro K b hb
  by_cases hK : p.k = K
  · subst hK
    unfold put at hb
    rw [if_neg (by omega)] at hb
    by_cases h2 : p.m = false ∧ p.o = 0
    · rw [if_pos h2] at hb
      rw [own_whole h2.2 h2.1]
      exact hi _ _ (by simpa [passed, hk] using hb)
    · rw [if_neg h2] at hb
      by_cases h3 : p.o = 0
      · rw [if_pos h3] at hb
        have hm : p.m = true := by cases hm : p.m; exact absurd ⟨hm, h3⟩ h2; rfl
        rcases first_cases most (passed t wait n) p.k p.m p.d with e | ⟨e, hbad⟩
        · simp only [e] at hb; exact (find_some_drop hb).elim
        · simp only [e] at hb
          rw [find_snoc, find_drop_self] at hb
          simp at hb
          subst hb
          rw [hm] at hbad
          rw [own_first h3 hm]
          exact Chain.one hm h3 hbad
      · rw [if_neg h3] at hb
        have hl : (passed t wait n).l = t.l := hk
        unfold next at hb
        rw [hl] at hb
        cases hf : find t.l p.k with
        | none => rw [hf] at hb; simp only at hb; rw [hl, hf] at hb; cases hb
        | some c =>
          rw [hf] at hb
          simp only at hb
          by_cases g1 : c.d.length % 8 ≠ 0 ∨ p.o ≠ ((c.d.length / 8 : Nat) : Int)
          · rw [if_pos g1, if_pos (by omega)] at hb; exact (find_some_drop hb).elim
          · rw [if_neg g1] at hb
            by_cases g2 : bad p.m p.d = true
            · rw [if_pos g2, if_pos (by omega)] at hb; exact (find_some_drop hb).elim
            · rw [if_neg g2] at hb
              by_cases g3 : 8200 < c.d.length + p.d.length
              · rw [if_pos g3, if_pos (by omega)] at hb; exact (find_some_drop hb).elim
              · rw [if_neg g3, if_neg (by omega)] at hb
                by_cases g4 : p.m = true
                · rw [if_pos g4] at hb
                  simp only [find_more_self hf] at hb
                  cases hb
                  rw [own_next h3]
                  rw [g4] at g2
                  exact (hi _ _ hf).snoc g4 (by omega) (by simpa using g2)
                · rw [if_neg g4] at hb; exact (find_some_drop hb).elim
  · rw [own_other hK]
    refine hi K b ?_
    have hd : ∀ l : List (Bg κ α), find (drop l p.k) K = find l K := fun l => find_drop_other l hK
    rcases put_cases most wait t n p.k p.m p.o p.d with e | e | e | ⟨e, _, _⟩ | ⟨e, _, _⟩ <;> rw [e] at hb
    · exact hb
    · rwa [hk] at hb
    · rwa [hd, hk] at hb
    · rw [find_snoc, hd, hk] at hb
      simp only [hK, if_false, Option.or_none] at hb
      exact hb
    · rwa [find_more_other _ hK, hk] at hb

/-- What comes out whole: a packet that is no part, or what was begun and this part. -/
theorem out_cases {most : Nat} {wait : Int} {t : Tb κ α} {n : Int} {r : List (Pt κ α)} (hi : Inv r t) (hw : ∀ b ∈ t.l, n - b.t0 ≤ wait) (p : Pt κ α) {x : List α} (h : (put most wait t n p.k p.m p.o p.d).2.1 = Option.some x) :
    p.m = false ∧ ((p.o = 0 ∧ x = p.d) ∨ (p.o ≠ 0 ∧ ∃ b, Chain (own r p.k) b ∧ b.length % 8 = 0 ∧ p.o = ((b.length / 8 : Nat) : Int) ∧ x = b ++ p.d ∧ b.length + p.d.length ≤ 8200)) := by
  have hk := keep_all hw
  unfold put at h
  by_cases h1 : passE t n ≠ 0
  · rw [if_pos h1] at h; cases h
  · rw [if_neg h1] at h
    by_cases h2 : p.m = false ∧ p.o = 0
    · rw [if_pos h2] at h; cases h; exact ⟨h2.1, .inl ⟨h2.2, rfl⟩⟩
    · rw [if_neg h2] at h
      by_cases h3 : p.o = 0
      · rw [if_pos h3] at h; cases h
      · rw [if_neg h3] at h
        have hl : (passed t wait n).l = t.l := hk
        unfold next at h
        rw [hl] at h
        cases hf : find t.l p.k with
        | none => rw [hf] at h; cases h
        | some c =>
          rw [hf] at h
          simp only at h
          by_cases g1 : c.d.length % 8 ≠ 0 ∨ p.o ≠ ((c.d.length / 8 : Nat) : Int)
          · rw [if_pos g1, if_pos (by omega)] at h; cases h
          · rw [if_neg g1] at h
            by_cases g2 : bad p.m p.d = true
            · rw [if_pos g2, if_pos (by omega)] at h; cases h
            · rw [if_neg g2] at h
              by_cases g3 : 8200 < c.d.length + p.d.length
              · rw [if_pos g3, if_pos (by omega)] at h; cases h
              · rw [if_neg g3, if_neg (by omega)] at h
                by_cases g4 : p.m = true
                · rw [if_pos g4] at h; cases h
                · rw [if_neg g4] at h
                  cases h
                  exact ⟨by simpa using g4, .inr ⟨h3, c.d, hi _ _ hf, by omega, by omega, rfl, by omega⟩⟩
end Go.Proofs.PitotReasm
