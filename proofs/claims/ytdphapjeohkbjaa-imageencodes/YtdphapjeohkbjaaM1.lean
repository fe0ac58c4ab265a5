/- Merged: CfMath, BiMath, CrMath, ImMath, BiOnes, BiWr. -/
import Derived.Test.YtdphapjeohkbjaaRows
import Derived.WalkKit
import Derived.WalkSpells
import Derived.WalkLawsBesides
import Derived.BigQuiet
import Derived.Laws.BitsAllLaws
import Derived.Laws.BitsLemmas
import Derived.Deep.QuietTactic
import Derived.Lib.Hide
set_option linter.unusedVariables false
/- Networks, in plain words (chapter 10): what is wrong first with one, and what follows. It imports nothing of the program. -/
namespace Go.Proofs.PitotConf

structure Win where
  part : Int
  beg : Int
  long : Int
structure Vl where
  id : Int
  host : Int
  bag : Int
  smax : Int
  high : Bool
  subs : Int
  skew : Int
  to : List Int
structure Prt where
  id : Int
  host : Int
  part : Int
  kind : Int
  out : Bool
  vl : Int
  sub : Int
  udp : Int
  size : Int
  depth : Int
  fresh : Int
structure Cf where
  hosts : Int
  parts : List Int
  major : Int
  wins : List Win
  vls : List Vl
  ports : List Prt

/-- The first one of a list of which what is judged, behind those ahead of it, is not 0. -/
def scan {α : Type} (J : List α → α → Int) : List α → List α → Option (Nat × Int)
  | _, [] => none
  | pre, x :: r => if J pre x = 0 then scan J (pre ++ [x]) r else some (pre.length, J pre x)
section
variable {α : Type} {J : List α → α → Int}
theorem scan_none : ∀ (l pre : List α), scan J pre l = none ↔ ∀ i (h : i < l.length), J (pre ++ l.take i) l[i] = 0
  | [], pre => by simp [scan]
  | x :: r, pre => by
    rw [scan]
    by_cases h : J pre x = 0
    · rw [if_pos h, scan_none r (pre ++ [x])]
      constructor
      · intro H i hi
        cases i with
        | zero => simpa using h
        | succ i => simpa using H i (by simpa using hi)
      · intro H i hi
        have := H (i + 1) (Nat.succ_lt_succ hi)
        rw [List.append_assoc]
        exact this
    · rw [if_neg h]
      refine ⟨fun e => (by cases e), fun H => ?_⟩
      have := H 0 (Nat.succ_pos _)
      rw [List.take_zero, List.append_nil] at this
      exact absurd this h
theorem scan_some : ∀ (l pre : List α) (n : Nat) (e : Int), scan J pre l = some (n, e) ↔ ∃ i, ∃ h : i < l.length, n = pre.length + i ∧ e = J (pre ++ l.take i) l[i] ∧ e ≠ 0 ∧ ∀ k (hk : k < i), J (pre ++ l.take k) (l[k]'(Nat.lt_trans hk h)) = 0
  | [], pre, n, e => by simp [scan]
  | x :: r, pre, n, e => by
    rw [scan]
    by_cases h : J pre x = 0
    · rw [if_pos h, scan_some r (pre ++ [x]) n e]
      constructor
      · rintro ⟨i, hi, h1, h2, h3, h4⟩
        refine ⟨i + 1, by simpa using hi, by simp at h1; omega, by simpa using h2, h3, fun k hk => ?_⟩
        cases k with
        | zero => simpa using h
        | succ k => simpa using h4 k (by omega)
      · rintro ⟨i, hi, h1, h2, h3, h4⟩
        cases i with
        | zero => exact absurd (by simpa [h] using h2) h3
        | succ i =>
          refine ⟨i, by simpa using hi, by simp; omega, by simpa using h2, h3, fun k hk => ?_⟩
          simpa using h4 (k + 1) (by omega)
    · rw [if_neg h]
      constructor
      · intro H
        injection H with H
        injection H with h1 h2
        exact ⟨0, by simp, by simp [h1], by simpa using h2.symm, by rw [← h2]; exact h, fun k hk => by omega⟩
      · rintro ⟨i, hi, h1, h2, h3, h4⟩
        cases i with
        | zero => simp at h1 h2; simp [h1, h2]
        | succ i => exact absurd (by simpa using h4 0 (by omega)) h
/-- Of the first ones of a list of which all may be, all may be. -/
theorem scan_take {l : List α} (h : scan J [] l = none) (n : Nat) : scan J [] (l.take n) = none := by
  rw [scan_none] at h ⊢
  intro i hi
  have hi2 : i < l.length := by simp at hi; omega
  have := h i hi2
  simp only [List.length_take] at hi
  rw [List.getElem_take, List.take_take, Nat.min_eq_left (by omega)]
  exact this
/-- What is wrong first is wrong first without what is behind it. -/
theorem scan_cut {l : List α} {n : Nat} {e : Int} (h : scan J [] l = some (n, e)) : n < l.length ∧ e ≠ 0 ∧ scan J [] (l.take (n + 1)) = some (n, e) := by
  rw [scan_some] at h
  obtain ⟨i, hi, h1, h2, h3, h4⟩ := h
  have h1 : n = i := by simpa using h1
  subst h1
  refine ⟨hi, h3, ?_⟩
  rw [scan_some]
  refine ⟨n, by simp; omega, by simp, ?_, h3, fun k hk => ?_⟩
  · rw [List.getElem_take, List.take_take, Nat.min_eq_left (by omega)]
    exact h2
  · rw [List.getElem_take, List.take_take, Nat.min_eq_left (by omega)]
    exact h4 k hk
theorem scan_mono {J' : List α → α → Int} {l : List α} (hJ : ∀ i (h : i < l.length), J (l.take i) l[i] = 0 → J' (l.take i) l[i] = 0) (h : scan J [] l = none) : scan J' [] l = none := by
  rw [scan_none] at h ⊢
  intro i hi
  simpa using hJ i hi (by simpa using h i hi)
end

/-- The host of a partition, if it is one. -/
def hostOf (parts : List Int) (n : Int) : Option Int := if 0 ≤ n then parts[n.toNat]? else none
def isHost (hosts n : Int) : Bool := decide (0 ≤ n) && decide (n < hosts)
def partJ (hosts : Int) (pre : List Int) (h : Int) : Int := if 64 ≤ pre.length ∨ isHost hosts h = false then 1 else 0
/-- Where the last one ends of the windows of a host. -/
def endOf (parts : List Int) (h : Option Int) : List Win → Int → Int
  | [], e => e
  | w :: r, e => endOf parts h r (if hostOf parts w.part = h then w.beg + w.long else e)
def winJ (parts : List Int) (major : Int) (pre : List Win) (w : Win) : Int :=
  if 256 ≤ pre.length ∨ hostOf parts w.part = none ∨ w.beg < 0 ∨ w.long < 1 ∨ major < w.beg + w.long then 1
  else if w.beg < endOf parts (hostOf parts w.part) pre 0 then 25 else 0
/-- Does a list rise? -/
def rises : List Int → Bool
  | [] => true
  | [_] => true
  | a :: b :: r => decide (a < b) && rises (b :: r)
def linkJ (hosts : Int) (pre : List Vl) (v : Vl) : Int :=
  if 256 ≤ pre.length ∨ v.id < 1 ∨ 65535 < v.id ∨ isHost hosts v.host = false ∨ v.bag < 0 ∨ 7 < v.bag ∨ v.smax < 64 ∨ 1518 < v.smax ∨ v.subs < 1 ∨ 4 < v.subs ∨ v.skew < 0 ∨ 1073741824 < v.skew ∨ v.to = [] then 1
  else if (match pre.getLast? with | some u => decide (v.id ≤ u.id) | none => false) = true ∨ rises v.to = false then 25
  else if v.to.any (fun t => !isHost hosts t || decide (t = v.host)) = true then 20 else 0
def vlOf (vls : List Vl) (id : Int) : Option Vl := vls.find? fun v => decide (v.id = id)
def portOf (ports : List Prt) (id : Int) : Option Prt := ports.find? fun p => decide (p.id = id)
def portJ (parts : List Int) (vls : List Vl) (pre : List Prt) (p : Prt) : Int :=
  if 512 ≤ pre.length ∨ p.id < 1 ∨ (p.kind ≠ 1 ∧ p.kind ≠ 2) ∨ hostOf parts p.part = none ∨ p.udp < 0 ∨ 65535 < p.udp ∨ p.size < 1 ∨ 8192 < p.size then 1
  else if (match pre.getLast? with | some q => decide (p.id ≤ q.id) | none => false) = true then 25
  else if hostOf parts p.part ≠ some p.host then 20
  else match vlOf vls p.vl with
  | none => 20
  | some v =>
    if (p.out = true ∧ v.host ≠ p.host) ∨ (p.out = false ∧ v.to.contains p.host = false) then 20
    else if p.sub < 0 ∨ (p.out = true ∧ v.subs ≤ p.sub) ∨ (p.out = false ∧ p.sub ≠ 0) then 1
    else if p.kind = 2 ∧ (p.depth < 1 ∨ 64 < p.depth ∨ p.fresh ≠ 0) then 1
    else if p.kind = 1 ∧ (p.depth ≠ 0 ∨ (p.out = true ∧ p.fresh ≠ 0) ∨ (p.out = false ∧ (p.fresh < 1 ∨ 1099511627776 < p.fresh))) then 1
    else if p.kind = 1 ∧ v.smax - 47 < p.size then 11
    else if pre.any (fun q => decide (q.host = p.host) && decide (q.out = p.out) && decide (q.vl = p.vl) && decide (q.udp = p.udp)) = true then 21 else 0
def jitter (vls : List Vl) (h : Int) : Int := vls.foldl (fun n v => if v.host = h then n + v.smax + 20 else n) 500
def jitF (vls : List Vl) (hosts : Int) : Option Nat := (List.range hosts.toNat).find? fun (h : Nat) => decide (6250 < jitter vls (h : Int))
/-- What is wrong first with a network: of what, which one, and why. -/
def check (c : Cf) : Int × Int × Int :=
  if c.hosts < 1 ∨ 64 < c.hosts then (1, 0, 1)
  else match scan (partJ c.hosts) [] c.parts with
  | some (i, e) => (2, i, e)
  | none =>
    if c.major < 1 ∨ 1073741824 < c.major then (3, 0, 1)
    else match scan (winJ c.parts c.major) [] c.wins with
    | some (i, e) => (4, i, e)
    | none => match scan (linkJ c.hosts) [] c.vls with
      | some (i, e) => (5, i, e)
      | none => match scan (portJ c.parts c.vls) [] c.ports with
        | some (i, e) => (6, i, e)
        | none => match jitF c.vls c.hosts with
          | some h => (7, h, 26)
          | none => (0, 0, 0)
/-- A network that may be. -/
structure May (c : Cf) : Prop where
  hosts : 1 ≤ c.hosts ∧ c.hosts ≤ 64
  parts : scan (partJ c.hosts) [] c.parts = none
  major : 1 ≤ c.major ∧ c.major ≤ 1073741824
  wins : scan (winJ c.parts c.major) [] c.wins = none
  vls : scan (linkJ c.hosts) [] c.vls = none
  ports : scan (portJ c.parts c.vls) [] c.ports = none
  jit : jitF c.vls c.hosts = none
theorem May.check {c : Cf} (h : May c) : check c = (0, 0, 0) := by
  have h1 := h.hosts
  have h2 := h.major
  unfold PitotConf.check
  rw [if_neg (by omega), h.parts]
  simp only
  rw [if_neg (by omega), h.wins, h.vls, h.ports, h.jit]
theorem check_may {c : Cf} (h : (check c).2.2 = 0) : May c := by
  unfold check at h
  by_cases h1 : c.hosts < 1 ∨ 64 < c.hosts
  · rw [if_pos h1] at h; simp at h
  · rw [if_neg h1] at h
    cases hp : scan (partJ c.hosts) [] c.parts with
    | some x => obtain ⟨i, e⟩ := x; rw [hp] at h; exact absurd h (scan_cut hp).2.1
    | none =>
      rw [hp] at h
      simp only at h
      by_cases h2 : c.major < 1 ∨ 1073741824 < c.major
      · rw [if_pos h2] at h; simp at h
      · rw [if_neg h2] at h
        cases hw : scan (winJ c.parts c.major) [] c.wins with
        | some x => obtain ⟨i, e⟩ := x; rw [hw] at h; exact absurd h (scan_cut hw).2.1
        | none =>
          rw [hw] at h
          simp only at h
          cases hv : scan (linkJ c.hosts) [] c.vls with
          | some x => obtain ⟨i, e⟩ := x; rw [hv] at h; exact absurd h (scan_cut hv).2.1
          | none =>
            rw [hv] at h
            simp only at h
            cases hq : scan (portJ c.parts c.vls) [] c.ports with
            | some x => obtain ⟨i, e⟩ := x; rw [hq] at h; exact absurd h (scan_cut hq).2.1
            | none =>
              rw [hq] at h
              simp only at h
              cases hj : jitF c.vls c.hosts with
              | some x => rw [hj] at h; simp at h
              | none => exact ⟨by omega, hp, by omega, hw, hv, hq, hj⟩
theorem check_zero {c : Cf} (h : (check c).2.2 = 0) : check c = (0, 0, 0) := (check_may h).check

/-! ### P10.4, the Jitter -/
theorem foldl_jit (l : List Vl) (h a b : Int) : l.foldl (fun n v => if v.host = h then n + v.smax + 20 else n) (a + b) = l.foldl (fun n v => if v.host = h then n + v.smax + 20 else n) a + b := by
  induction l generalizing a with
  | nil => rfl
  | cons v r ih =>
    simp only [List.foldl_cons]
    by_cases e : v.host = h
    · rw [if_pos e, if_pos e, ← ih]; congr 1; omega
    · rw [if_neg e, if_neg e, ih]
theorem jitter_snoc (l : List Vl) (v : Vl) (h : Int) : jitter (l ++ [v]) h = if v.host = h then jitter l h + v.smax + 20 else jitter l h := by
  simp [jitter, List.foldl_append]
theorem jitter_none {l : List Vl} {h : Int} (H : ∀ v ∈ l, v.host ≠ h) : jitter l h = 500 := by
  unfold jitter
  induction l with
  | nil => rfl
  | cons v r ih =>
    simp only [List.foldl_cons]
    rw [if_neg (H v (List.mem_cons_self ..))]
    exact ih fun u hu => H u (List.mem_cons_of_mem _ hu)
theorem jitter_le {l : List Vl} (H : ∀ v ∈ l, v.smax ≤ 10000) (H0 : ∀ v ∈ l, 0 ≤ v.smax) (h : Int) : 500 ≤ jitter l h ∧ jitter l h ≤ 500 + l.length * 10020 := by
  have key : ∀ (l : List Vl), (∀ v ∈ l, v.smax ≤ 10000) → (∀ v ∈ l, 0 ≤ v.smax) → ∀ a : Int, a ≤ l.foldl (fun n v => if v.host = h then n + v.smax + 20 else n) a ∧ l.foldl (fun n v => if v.host = h then n + v.smax + 20 else n) a ≤ a + l.length * 10020 := by
    intro l
    induction l with
    | nil => intro _ _ a; simp
    | cons v r ih =>
      intro H H0 a
      have h1 := H v (List.mem_cons_self ..)
      have h2 := H0 v (List.mem_cons_self ..)
      simp only [List.foldl_cons, List.length_cons]
      have := ih (fun u hu => H u (List.mem_cons_of_mem _ hu)) (fun u hu => H0 u (List.mem_cons_of_mem _ hu)) (if v.host = h then a + v.smax + 20 else a)
      by_cases e : v.host = h
      · rw [if_pos e] at this ⊢; omega
      · rw [if_neg e] at this ⊢; omega
  exact key l H H0 500

/-! ### What is wrong is told first -/
def bare (c : Cf) : Cf := ⟨c.hosts, c.parts, c.major, [], [], []⟩
/-- The network without what is behind its fault. -/
def upto (c : Cf) (what at_ : Int) : Cf :=
  if what = 4 then ⟨c.hosts, c.parts, c.major, c.wins.take (at_.toNat + 1), [], []⟩
  else if what = 5 then ⟨c.hosts, c.parts, c.major, c.wins, c.vls.take (at_.toNat + 1), []⟩
  else if what = 6 then ⟨c.hosts, c.parts, c.major, c.wins, c.vls, c.ports.take (at_.toNat + 1)⟩
  else if what = 7 then c else bare c
theorem first_told {c : Cf} (h : (check c).2.2 ≠ 0) :
    check (upto c (check c).1 (check c).2.1) = check c ∧ ((check c).1 = 4 → 0 ≤ (check c).2.1 ∧ (check c).2.1 < c.wins.length) ∧ ((check c).1 = 5 → 0 ≤ (check c).2.1 ∧ (check c).2.1 < c.vls.length) ∧ ((check c).1 = 6 → 0 ≤ (check c).2.1 ∧ (check c).2.1 < c.ports.length) ∧ 1 ≤ (check c).1 ∧ (check c).1 ≤ 7 := by
  by_cases h1 : c.hosts < 1 ∨ 64 < c.hosts
  · have e : check c = (1, 0, 1) := by unfold check; rw [if_pos h1]
    rw [e]
    refine ⟨?_, by simp, by simp, by simp, by simp, by simp⟩
    show check (bare c) = _
    unfold check bare
    rw [if_pos h1]
  · cases hp : scan (partJ c.hosts) [] c.parts with
    | some x =>
      obtain ⟨i, er⟩ := x
      have e : check c = (2, (i : Int), er) := by unfold check; rw [if_neg h1, hp]
      rw [e]
      refine ⟨?_, by simp, by simp, by simp, by simp, by simp⟩
      show check (bare c) = _
      unfold check bare
      rw [if_neg h1, hp]
    | none =>
      by_cases h2 : c.major < 1 ∨ 1073741824 < c.major
      · have e : check c = (3, 0, 1) := by unfold check; rw [if_neg h1, hp]; simp only; rw [if_pos h2]
        rw [e]
        refine ⟨?_, by simp, by simp, by simp, by simp, by simp⟩
        show check (bare c) = _
        unfold check bare
        rw [if_neg h1]
        simp only
        rw [hp]
        simp only
        rw [if_pos h2]
      · cases hw : scan (winJ c.parts c.major) [] c.wins with
        | some x =>
          obtain ⟨i, er⟩ := x
          obtain ⟨hi, he, hc⟩ := scan_cut hw
          have e : check c = (4, (i : Int), er) := by unfold check; rw [if_neg h1, hp]; simp only; rw [if_neg h2, hw]
          rw [e]
          refine ⟨?_, fun _ => by simp; omega, by simp, by simp, by simp, by simp⟩
          show check ⟨c.hosts, c.parts, c.major, c.wins.take (i + 1), [], []⟩ = _
          unfold check
          rw [if_neg h1]
          simp only
          rw [hp]
          simp only
          rw [if_neg h2, hc]
        | none =>
          cases hv : scan (linkJ c.hosts) [] c.vls with
          | some x =>
            obtain ⟨i, er⟩ := x
            obtain ⟨hi, he, hc⟩ := scan_cut hv
            have e : check c = (5, (i : Int), er) := by unfold check; rw [if_neg h1, hp]; simp only; rw [if_neg h2, hw]; simp only; rw [hv]
            rw [e]
            refine ⟨?_, by simp, fun _ => by simp; omega, by simp, by simp, by simp⟩
            show check ⟨c.hosts, c.parts, c.major, c.wins, c.vls.take (i + 1), []⟩ = _
            unfold check
            rw [if_neg h1]
            simp only
            rw [hp]
            simp only
            rw [if_neg h2, hw]
            simp only
            rw [hc]
          | none =>
            cases hq : scan (portJ c.parts c.vls) [] c.ports with
            | some x =>
              obtain ⟨i, er⟩ := x
              obtain ⟨hi, he, hc⟩ := scan_cut hq
              have e : check c = (6, (i : Int), er) := by unfold check; rw [if_neg h1, hp]; simp only; rw [if_neg h2, hw]; simp only; rw [hv]; simp only; rw [hq]
              rw [e]
              refine ⟨?_, by simp, by simp, fun _ => by simp; omega, by simp, by simp⟩
              show check ⟨c.hosts, c.parts, c.major, c.wins, c.vls, c.ports.take (i + 1)⟩ = _
              unfold check
              rw [if_neg h1]
              simp only
              rw [hp]
              simp only
              rw [if_neg h2, hw]
              simp only
              rw [hv]
              simp only
              rw [hc]
            | none =>
              cases hj : jitF c.vls c.hosts with
              | some x =>
                have e : check c = (7, (x : Int), 26) := by unfold check; rw [if_neg h1, hp]; simp only; rw [if_neg h2, hw]; simp only; rw [hv]; simp only; rw [hq]; simp only; rw [hj]
                rw [e]
                refine ⟨?_, by simp, by simp, by simp, by simp, by simp⟩
                show check c = _
                rw [e]
              | none =>
                have e := (May.mk ⟨by omega, by omega⟩ hp ⟨by omega, by omega⟩ hw hv hq hj : May c).check
                rw [e] at h
                exact absurd rfl h

/-! ### Of a network that may be -/
theorem ite0 {c : Prop} [Decidable c] {a b : Int} (ha : a ≠ 0) (h : (if c then a else b) = 0) : ¬ c ∧ b = 0 := by
  by_cases hc : c
  · rw [if_pos hc] at h; exact absurd h ha
  · rw [if_neg hc] at h; exact ⟨hc, h⟩
theorem ite_0 {c : Prop} [Decidable c] {a b : Int} (hc : ¬ c) (h : b = 0) : (if c then a else b) = 0 := by rw [if_neg hc]; exact h
theorem isHost_iff {hosts n : Int} : isHost hosts n = true ↔ 0 ≤ n ∧ n < hosts := by simp [isHost]
theorem May.link {c : Cf} (h : May c) {v : Vl} (hv : v ∈ c.vls) : 0 ≤ v.host ∧ v.host < c.hosts ∧ 64 ≤ v.smax ∧ v.smax ≤ 1518 ∧ ∀ t ∈ v.to, 0 ≤ t ∧ t < c.hosts ∧ t ≠ v.host := by
  obtain ⟨i, hi, rfl⟩ := List.mem_iff_getElem.1 hv
  have := (scan_none _ _).1 h.vls i hi
  unfold linkJ at this
  obtain ⟨g1, this⟩ := ite0 (by decide) this
  obtain ⟨_, this⟩ := ite0 (by decide) this
  obtain ⟨g3, _⟩ := ite0 (by decide) this
  simp only [not_or] at g1
  obtain ⟨_, _, _, g, _, _, g5, g6, _⟩ := g1
  have hh : isHost c.hosts c.vls[i].host = true := by simpa using g
  rw [isHost_iff] at hh
  refine ⟨hh.1, hh.2, by omega, by omega, fun t ht => ?_⟩
  have g3 : (c.vls[i].to.any fun t => !isHost c.hosts t || decide (t = c.vls[i].host)) = false := by
    cases hb : (c.vls[i].to.any fun t => !isHost c.hosts t || decide (t = c.vls[i].host)) with
    | true => exact absurd hb g3
    | false => rfl
  rw [List.any_eq_false] at g3
  have := g3 t ht
  simp only [Bool.or_eq_true, Bool.not_eq_true', decide_eq_true_eq, not_or] at this
  have h1 : isHost c.hosts t = true := by simpa using this.1
  rw [isHost_iff] at h1
  exact ⟨h1.1, h1.2, this.2⟩
theorem jitF_none {vls : List Vl} {hosts : Int} : jitF vls hosts = none ↔ ∀ h : Nat, (h : Int) < hosts → jitter vls h ≤ 6250 := by
  unfold jitF
  rw [List.find?_eq_none]
  constructor
  · intro H h hh
    have := H h (List.mem_range.2 (by omega))
    simp only [decide_eq_true_eq] at this
    omega
  · intro H h hh
    rw [List.mem_range] at hh
    have := H h (by omega)
    simp only [decide_eq_true_eq]
    omega
theorem jitter_take {l : List Vl} (H : ∀ v ∈ l, 0 ≤ v.smax) (n : Nat) (h : Int) : jitter (l.take n) h ≤ jitter l h := by
  have e : jitter l h = (l.drop n).foldl (fun n v => if v.host = h then n + v.smax + 20 else n) (jitter (l.take n) h) := by
    unfold jitter
    rw [← List.foldl_append, List.take_append_drop]
  rw [e]
  have key : ∀ (r : List Vl), (∀ v ∈ r, 0 ≤ v.smax) → ∀ a : Int, a ≤ r.foldl (fun n v => if v.host = h then n + v.smax + 20 else n) a := by
    intro r
    induction r with
    | nil => intro _ a; exact Int.le_refl _
    | cons v r ih =>
      intro H a
      have := H v (List.mem_cons_self ..)
      simp only [List.foldl_cons]
      have h2 := ih (fun u hu => H u (List.mem_cons_of_mem _ hu)) (if v.host = h then a + v.smax + 20 else a)
      by_cases e : v.host = h
      · rw [if_pos e] at h2 ⊢; omega
      · rw [if_neg e] at h2 ⊢; exact h2
  exact key _ (fun v hv => H v (List.mem_of_mem_drop hv)) _
/-- Without its last port, or more. -/
theorem May.less_ports {c : Cf} (h : May c) (n : Nat) : May ⟨c.hosts, c.parts, c.major, c.wins, c.vls, c.ports.take n⟩ := ⟨h.hosts, h.parts, h.major, h.wins, h.vls, scan_take h.ports n, h.jit⟩
theorem May.less_wins {c : Cf} (h : May c) (n : Nat) : May ⟨c.hosts, c.parts, c.major, c.wins.take n, c.vls, c.ports⟩ := ⟨h.hosts, h.parts, h.major, scan_take h.wins n, h.vls, h.ports, h.jit⟩
theorem May.less_vls {c : Cf} (h : May c) (n : Nat) : May ⟨c.hosts, c.parts, c.major, c.wins, c.vls.take n, []⟩ := by
  refine ⟨h.hosts, h.parts, h.major, h.wins, scan_take h.vls n, rfl, ?_⟩
  have hj := h.jit
  rw [jitF_none] at hj ⊢
  intro k hk
  have h1 := jitter_take (l := c.vls) (fun v hv => by have := (h.link hv).2.2.1; omega) n (k : Int)
  have h2 := hj k hk
  exact Int.le_trans h1 h2
theorem isHost_more {hosts n : Int} (h : isHost hosts n = true) : isHost (hosts + 1) n = true := by
  rw [isHost_iff] at h ⊢; omega
/-- With one host more. -/
theorem May.more {c : Cf} (h : May c) (hl : c.hosts < 64) : May ⟨c.hosts + 1, c.parts, c.major, c.wins, c.vls, c.ports⟩ ∧ jitter c.vls c.hosts = 500 ∧ (∀ v ∈ c.vls, v.host ≠ c.hosts) ∧ (∀ v ∈ c.vls, c.hosts ∉ v.to) := by
  have hh := h.hosts
  have hno : ∀ v ∈ c.vls, v.host ≠ c.hosts := fun v hv e => by have := (h.link hv).2.1; omega
  have hj := jitter_none hno
  refine ⟨⟨⟨by show 1 ≤ c.hosts + 1; omega, by show c.hosts + 1 ≤ 64; omega⟩, scan_mono (fun i hi e => ?_) h.parts, h.major, h.wins, scan_mono (fun i hi e => ?_) h.vls, h.ports, ?_⟩, hj, hno, fun v hv hm => ?_⟩
  · unfold partJ at e ⊢
    obtain ⟨g, _⟩ := ite0 (by decide) e
    simp only [not_or, Bool.not_eq_false] at g
    refine ite_0 ?_ rfl
    simp only [not_or, Bool.not_eq_false]
    exact ⟨g.1, isHost_more g.2⟩
  · have hi : i < c.vls.length := hi
    have hlk := h.link (List.getElem_mem hi)
    have hto : (c.vls[i].to.any fun t => !isHost (c.hosts + 1) t || decide (t = c.vls[i].host)) = false := by
      rw [List.any_eq_false]
      intro t ht
      have := hlk.2.2.2.2 t ht
      have h1 : isHost (c.hosts + 1) t = true := isHost_iff.2 (by omega)
      rw [h1]
      simpa using this.2.2
    have hH : isHost (c.hosts + 1) c.vls[i].host = true := isHost_iff.2 (by omega)
    have hH0 : isHost c.hosts c.vls[i].host = true := isHost_iff.2 (by omega)
    unfold linkJ at e ⊢
    obtain ⟨g1, e⟩ := ite0 (by decide) e
    obtain ⟨g2, e⟩ := ite0 (by decide) e
    refine ite_0 ?_ (ite_0 g2 (ite_0 ?_ rfl))
    · intro g
      apply g1
      rw [hH0]
      show _ ∨ _
      have g : 256 ≤ (List.take i c.vls).length ∨ c.vls[i].id < 1 ∨ 65535 < c.vls[i].id ∨ isHost (c.hosts + 1) c.vls[i].host = false ∨ c.vls[i].bag < 0 ∨ 7 < c.vls[i].bag ∨ c.vls[i].smax < 64 ∨ 1518 < c.vls[i].smax ∨ c.vls[i].subs < 1 ∨ 4 < c.vls[i].subs ∨ c.vls[i].skew < 0 ∨ 1073741824 < c.vls[i].skew ∨ c.vls[i].to = [] := g
      rw [hH] at g
      exact g
    · intro g
      have g : (c.vls[i].to.any fun t => !isHost (c.hosts + 1) t || decide (t = c.vls[i].host)) = true := g
      rw [hto] at g
      cases g
  · have hj2 := h.jit
    rw [jitF_none] at hj2 ⊢
    intro k hk
    by_cases e : (k : Int) < c.hosts
    · exact hj2 k e
    · have : (k : Int) = c.hosts := by have hk : (k : Int) < c.hosts + 1 := hk; omega
      show jitter c.vls k ≤ 6250
      rw [this, hj]; omega
  · have := (h.link hv).2.2.2.2 _ hm
    omega

/-! ### P10.5, what follows -/
theorem mem_take_lt {α : Type} {l : List α} {i : Nat} (h : i < l.length) (J : List α → α → Int) (hs : scan J [] l = none) : J (l.take i) l[i] = 0 := (scan_none l []).1 hs i h
theorem vlOf_some {vls : List Vl} {id : Int} {v : Vl} (h : vlOf vls id = some v) : v ∈ vls ∧ v.id = id := ⟨List.mem_of_find?_eq_some h, by simpa using List.find?_some h⟩
/-- What is so of a port of a network that may be. -/
theorem May.port {c : Cf} (h : May c) {p : Prt} (hp : p ∈ c.ports) : ∃ v, vlOf c.vls p.vl = some v ∧ hostOf c.parts p.part = some p.host ∧ (p.out = true → v.host = p.host) ∧ (p.out = false → p.host ∈ v.to) ∧ (p.kind = 1 → p.size + 47 ≤ v.smax) ∧ 1 ≤ p.size ∧ p.size ≤ 8192 := by
  obtain ⟨i, hi, rfl⟩ := List.mem_iff_getElem.1 hp
  have := mem_take_lt hi _ h.ports
  unfold portJ at this
  obtain ⟨g1, this⟩ := ite0 (by decide) this
  obtain ⟨_, this⟩ := ite0 (by decide) this
  obtain ⟨g3, this⟩ := ite0 (by decide) this
  cases hv : vlOf c.vls c.ports[i].vl with
  | none => rw [hv] at this; simp at this
  | some v =>
    rw [hv] at this
    simp only at this
    obtain ⟨g4, this⟩ := ite0 (by decide) this
    obtain ⟨_, this⟩ := ite0 (by decide) this
    obtain ⟨_, this⟩ := ite0 (by decide) this
    obtain ⟨_, this⟩ := ite0 (by decide) this
    obtain ⟨g8, _⟩ := ite0 (by decide) this
    simp only [not_or] at g1
    refine ⟨v, rfl, Classical.byContradiction fun hh => g3 hh, fun ho => Classical.byContradiction fun hh => g4 (.inl ⟨ho, hh⟩), fun ho => ?_, fun hk => ?_, by omega, by omega⟩
    · have : ¬ (v.to.contains c.ports[i].host = false) := fun hh => g4 (.inr ⟨ho, hh⟩)
      simpa using this
    · have : ¬ (v.smax - 47 < c.ports[i].size) := fun hh => g8 ⟨hk, hh⟩
      omega
theorem endOf_snoc (parts : List Int) (h : Option Int) (l : List Win) (w : Win) (e : Int) : endOf parts h (l ++ [w]) e = if hostOf parts w.part = h then w.beg + w.long else endOf parts h l e := by
  induction l generalizing e with
  | nil => rfl
  | cons x r ih => exact ih _
theorem hostOf_some {parts : List Int} {n : Int} (h : hostOf parts n ≠ none) : 0 ≤ n ∧ n < parts.length := by
  unfold hostOf at h
  by_cases e : 0 ≤ n
  · rw [if_pos e] at h
    refine ⟨e, ?_⟩
    have h2 : ¬ parts.length ≤ n.toNat := fun hl => h (List.getElem?_eq_none hl)
    omega
  · rw [if_neg e] at h; exact absurd rfl h
theorem May.win {c : Cf} (h : May c) (i : Nat) (hi : i < c.wins.length) : hostOf c.parts c.wins[i].part ≠ none ∧ 0 ≤ c.wins[i].beg ∧ 1 ≤ c.wins[i].long ∧ c.wins[i].beg + c.wins[i].long ≤ c.major ∧ endOf c.parts (hostOf c.parts c.wins[i].part) (c.wins.take i) 0 ≤ c.wins[i].beg := by
  have := mem_take_lt hi _ h.wins
  unfold winJ at this
  obtain ⟨g1, this⟩ := ite0 (by decide) this
  obtain ⟨g2, _⟩ := ite0 (by decide) this
  simp only [not_or] at g1
  exact ⟨g1.2.1, by omega, by omega, by omega, by omega⟩
/-- Windows of one host end ahead of the next one's beginning. -/
theorem May.ends {c : Cf} (h : May c) (k : Nat) (hk : k < c.wins.length) : ∀ i, k < i → i ≤ c.wins.length → c.wins[k].beg + c.wins[k].long ≤ endOf c.parts (hostOf c.parts c.wins[k].part) (c.wins.take i) 0
  | 0, h0, _ => by omega
  | i + 1, hki, hi => by
    have hil : i < c.wins.length := by omega
    rw [List.take_succ_eq_append_getElem hil, endOf_snoc]
    by_cases e : k = i
    · subst e; rw [if_pos rfl]; exact Int.le_refl _
    · have ih := May.ends h k hk i (by omega) (by omega)
      by_cases e2 : hostOf c.parts c.wins[i].part = hostOf c.parts c.wins[k].part
      · rw [if_pos e2]
        have := h.win i hil
        rw [e2] at this
        omega
      · rw [if_neg e2]; exact ih
theorem May.apart {c : Cf} (h : May c) (k i : Nat) (hki : k < i) (hi : i < c.wins.length) (e : hostOf c.parts c.wins[i].part = hostOf c.parts (c.wins[k]'(by omega)).part) : (c.wins[k]'(by omega)).beg + (c.wins[k]'(by omega)).long ≤ c.wins[i].beg := by
  have h1 := h.ends k (by omega) i hki (by omega)
  have h2 := (h.win i hi).2.2.2.2
  rw [e] at h2
  omega

/-! ### P10.4, rising lists -/
/-- A number is put into a list that rises, if it is not there. -/
def ins (l : List Int) (n : Int) : List Int := l.filter (fun x => decide (x < n)) ++ n :: l.filter (fun x => decide (n < x))
abbrev Rising (l : List Int) : Prop := l.Pairwise (· < ·)
theorem ins_mem {l : List Int} {n x : Int} : x ∈ ins l n ↔ x = n ∨ x ∈ l := by
  simp only [ins, List.mem_append, List.mem_filter, List.mem_cons, decide_eq_true_eq]
  constructor
  · rintro (⟨h, _⟩ | h | ⟨h, _⟩)
    · exact .inr h
    · exact .inl h
    · exact .inr h
  · rintro (h | h)
    · exact .inr (.inl h)
    · rcases Int.lt_trichotomy x n with h2 | h2 | h2
      · exact .inl ⟨h, h2⟩
      · exact .inr (.inl h2)
      · exact .inr (.inr ⟨h, h2⟩)
theorem ins_rising {l : List Int} (h : Rising l) (n : Int) : Rising (ins l n) := by
  unfold ins Rising
  rw [List.pairwise_append]
  refine ⟨h.filter _, List.pairwise_cons.2 ⟨fun x hx => by simpa using (List.mem_filter.1 hx).2, h.filter _⟩, fun a ha b hb => ?_⟩
  have h1 : a < n := by simpa using (List.mem_filter.1 ha).2
  rcases List.mem_cons.1 hb with rfl | hb
  · exact h1
  · have h2 : n < b := by simpa using (List.mem_filter.1 hb).2
    omega
theorem rising_eq : ∀ {a b : List Int}, Rising a → Rising b → (∀ x, x ∈ a ↔ x ∈ b) → a = b
  | [], [], _, _, _ => rfl
  | [], y :: b, _, _, h => by have := (h y).2 (List.mem_cons_self ..); simp at this
  | x :: a, [], _, _, h => by have := (h x).1 (List.mem_cons_self ..); simp at this
  | x :: a, y :: b, ha, hb, h => by
    rw [Rising, List.pairwise_cons] at ha hb
    have hxy : x = y := by
      rcases List.mem_cons.1 ((h x).1 (List.mem_cons_self ..)) with e | e
      · exact e
      · rcases List.mem_cons.1 ((h y).2 (List.mem_cons_self ..)) with e2 | e2
        · exact e2.symm
        · have := hb.1 x e; have := ha.1 y e2; omega
    subst hxy
    rw [rising_eq ha.2 hb.2 fun z => ?_]
    constructor
    · intro hz
      rcases List.mem_cons.1 ((h z).1 (List.mem_cons_of_mem _ hz)) with e | e
      · subst e; have := ha.1 _ hz; omega
      · exact e
    · intro hz
      rcases List.mem_cons.1 ((h z).2 (List.mem_cons_of_mem _ hz)) with e | e
      · subst e; have := hb.1 _ hz; omega
      · exact e
def gatherIds (vls : List Vl) (f : Vl → Bool) : List Int := (vls.filter f).foldl (fun l v => ins l v.id) []
theorem fold_ins (l : List Vl) : ∀ (a : List Int), Rising a → Rising (l.foldl (fun l v => ins l v.id) a) ∧ ∀ x, x ∈ l.foldl (fun l v => ins l v.id) a ↔ x ∈ a ∨ ∃ v ∈ l, v.id = x := by
  induction l with
  | nil => intro a h; exact ⟨h, fun x => by simp⟩
  | cons v r ih =>
    intro a h
    obtain ⟨h1, h2⟩ := ih (ins a v.id) (ins_rising h _)
    refine ⟨h1, fun x => ?_⟩
    rw [List.foldl_cons, h2 x, ins_mem]
    constructor
    · rintro ((h | h) | ⟨u, hu, e⟩)
      · exact .inr ⟨v, List.mem_cons_self .., h.symm⟩
      · exact .inl h
      · exact .inr ⟨u, List.mem_cons_of_mem _ hu, e⟩
    · rintro (h | ⟨u, hu, e⟩)
      · exact .inl (.inr h)
      · rcases List.mem_cons.1 hu with rfl | hu
        · exact .inl (.inl e.symm)
        · exact .inr ⟨u, hu, e⟩
theorem gatherIds_rising (vls : List Vl) (f : Vl → Bool) : Rising (gatherIds vls f) := (fold_ins _ [] List.Pairwise.nil).1
theorem gatherIds_mem (vls : List Vl) (f : Vl → Bool) (x : Int) : x ∈ gatherIds vls f ↔ ∃ v ∈ vls, f v = true ∧ v.id = x := by
  rw [gatherIds, (fold_ins _ [] List.Pairwise.nil).2 x]
  simp only [List.not_mem_nil, false_or, List.mem_filter]
  exact ⟨fun ⟨v, hv, e⟩ => ⟨v, hv.1, hv.2, e⟩, fun ⟨v, hv, hf, e⟩ => ⟨v, ⟨hv, hf⟩, e⟩⟩
/-- Whatever rises and has the same numbers is the same. -/
theorem gatherIds_only {vls : List Vl} {f : Vl → Bool} {l : List Int} (h : Rising l) (hm : ∀ x, x ∈ l ↔ ∃ v ∈ vls, f v = true ∧ v.id = x) : l = gatherIds vls f :=
  rising_eq h (gatherIds_rising vls f) fun x => (hm x).trans (gatherIds_mem vls f x).symm
theorem gatherIds_none {vls : List Vl} {f : Vl → Bool} (h : ∀ v ∈ vls, f v = false) : gatherIds vls f = [] := by
  rw [gatherIds, List.filter_eq_nil_iff.2 (fun v hv => by rw [h v hv]; simp)]; rfl
end Go.Proofs.PitotConf
/- Plain facts on sums of 16 bits over lists of bytes. No conditions. -/
namespace Go.Proofs.PitotMath

/-- The numbers of 16 bits that bytes are, added (a byte 0 behind an odd length). -/
def s16 : List UInt8 → Nat
  | [] => 0
  | [a] => 256 * a.toNat
  | a :: b :: t => 256 * a.toNat + b.toNat + s16 t

/-- What is left when what runs over is taken in again. -/
def f16 (n : Nat) : Nat := if n = 0 then 0 else (n - 1) % 65535 + 1

theorem f16_small (n : Nat) (h : n ≤ 65535) : f16 n = n := by
  unfold f16; split <;> omega

theorem f16_le (n : Nat) : f16 n ≤ 65535 := by
  unfold f16; split <;> omega

theorem f16_step (n : Nat) (h : 65535 < n) : f16 (n / 65536 + n % 65536) = f16 n := by
  unfold f16
  have : n / 65536 + n % 65536 ≠ 0 := by omega
  rw [if_neg this, if_neg (by omega)]
  omega

theorem s16_even (l m : List UInt8) (h : l.length % 2 = 0) : s16 (l ++ m) = s16 l + s16 m := by
  match l, h with
  | [], _ => simp [s16]
  | [a], h => simp at h
  | a :: b :: t, h =>
    have := s16_even t m (by simp at h; omega)
    simp [s16, this]; omega

theorem s16_snoc (l : List UInt8) (c : UInt8) : s16 (l ++ [c]) = s16 l + if l.length % 2 = 0 then 256 * c.toNat else c.toNat := by
  match l with
  | [] => simp [s16]
  | [a] => simp [s16]
  | a :: b :: t =>
    have h1 := s16_snoc t c
    have h2 : (a :: b :: t).length % 2 = t.length % 2 := by simp only [List.length_cons]; omega
    rw [h2]
    show 256 * a.toNat + b.toNat + s16 (t ++ [c]) = 256 * a.toNat + b.toNat + s16 t + _
    omega

theorem s16_zero (l : List UInt8) : s16 (l ++ [0]) = s16 l := by
  rw [s16_snoc]; split <;> simp

theorem s16_le (l : List UInt8) : s16 l ≤ 65280 * l.length := by
  match l with
  | [] => simp [s16]
  | [a] => have := a.toNat_lt; simp [s16]; omega
  | a :: b :: t =>
    have := s16_le t
    have := a.toNat_lt
    have := b.toNat_lt
    simp [s16]; omega

/-- The sum of 16 bits of a text, turned about. -/
def ones (l : List UInt8) : Nat := 65535 - f16 (s16 l)

theorem ones_le (l : List UInt8) : ones l ≤ 65535 := by unfold ones; omega

theorem ones_zero (l : List UInt8) : ones (l ++ [0]) = ones l := by unfold ones; rw [s16_zero]

theorem ones_sealed (l : List UInt8) (h : l.length % 2 = 0) (a b : UInt8) (ha : a.toNat = ones l / 256) (hb : b.toNat = ones l % 256) : ones (l ++ [a, b]) = 0 := by
  have e : s16 (l ++ [a, b]) = s16 l + (65535 - f16 (s16 l)) := by
    rw [s16_even l _ h]; simp [s16, ha, hb]; unfold ones; have := f16_le (s16 l); omega
  unfold ones; rw [e]
  generalize s16 l = n
  unfold f16
  by_cases h0 : n = 0
  · subst h0; simp
  · rw [if_neg h0, if_neg (by omega)]; omega

/-- A number in so many bytes, the highest ones first. -/
def be : Nat → Nat → List UInt8
  | 0, _ => []
  | m + 1, n => be m (n / 256) ++ [UInt8.ofNat (n % 256)]

theorem be_length : ∀ (m n : Nat), (be m n).length = m
  | 0, _ => rfl
  | m + 1, n => by simp [be, be_length m]

theorem be_get? : ∀ (m n i : Nat), i < m → (be m n)[i]? = some (UInt8.ofNat (n / 256 ^ (m - 1 - i) % 256))
  | 0, _, _, h => by omega
  | m + 1, n, i, h => by
    by_cases hi : i < m
    · have e := be_get? m (n / 256) i hi
      rw [be, List.getElem?_append_left (by rw [be_length]; exact hi), e]
      have e2 : m + 1 - 1 - i = (m - 1 - i) + 1 := by omega
      rw [e2, Nat.pow_succ, Nat.mul_comm, ← Nat.div_div_eq_div_mul]
    · obtain rfl : i = m := by omega
      rw [be, List.getElem?_append_right (by rw [be_length]; exact Nat.le_refl _), be_length]
      simp

theorem pow_8 (j : Nat) : 2 ^ (8 * j) = 256 ^ j := by rw [Nat.pow_mul]

/-- The number that bytes are. -/
def num (l : List UInt8) : Nat := l.foldl (fun n c => 256 * n + c.toNat) 0

theorem num_snoc (l : List UInt8) (c : UInt8) : num (l ++ [c]) = 256 * num l + c.toNat := by simp [num]

theorem num_lt (l : List UInt8) : num l < 256 ^ l.length := by
  have h : ∀ (l : List UInt8) (n k : Nat), n < 256 ^ k → l.foldl (fun n c => 256 * n + c.toNat) n < 256 ^ (k + l.length) := by
    intro l
    induction l with
    | nil => intro n k h; simpa using h
    | cons c t ih =>
      intro n k h
      have hc := c.toNat_lt
      have := ih (256 * n + c.toNat) (k + 1) (by rw [Nat.pow_succ]; omega)
      simpa [Nat.add_assoc, Nat.add_comm 1] using this
  have := h l 0 0 (by simp)
  simpa [num] using this

theorem num_be : ∀ (m n : Nat), n < 256 ^ m → num (be m n) = n
  | 0, n, h => by simp at h; subst h; rfl
  | m + 1, n, h => by
    rw [be, num_snoc, num_be m (n / 256) (by rw [Nat.pow_succ] at h; omega)]
    simp; omega

theorem be_num (l : List UInt8) : be l.length (num l) = l := by
  have h : ∀ (n : Nat) (l : List UInt8), l.length = n → be n (num l) = l := by
    intro n
    induction n with
    | zero => intro l h; rw [List.length_eq_zero_iff] at h; subst h; rfl
    | succ n ih =>
      intro l h
      obtain ⟨t, c, rfl⟩ : ∃ t c, l = t ++ [c] := ⟨l.dropLast, l.getLast (by intro e; subst e; simp at h), (List.dropLast_concat_getLast _).symm⟩
      have hc := c.toNat_lt
      have e1 : (256 * num t + c.toNat) / 256 = num t := by omega
      have e2 : (256 * num t + c.toNat) % 256 = c.toNat := by omega
      rw [num_snoc, be, e1, e2, ih t (by simp at h; omega)]
      simp
  exact h _ l rfl

end Go.Proofs.PitotMath
/- Plain facts on the check sum of 32 bits over lists of bytes. No conditions. -/
namespace Go.Proofs.PitotCrc

/-- One step: a bit is moved out; where it was 1 the polynomial is taken in. -/
def st (c : Nat) : Nat := if c % 2 = 1 then (c / 2) ^^^ 3988292384 else c / 2

def sts : Nat → Nat → Nat
  | 0, c => c
  | k + 1, c => st (sts k c)

/-- Eight steps. -/
def mv (c : Nat) : Nat := sts 8 c

/-- A byte taken into a number. -/
def tk (c : Nat) (b : UInt8) : Nat := mv (c ^^^ b.toNat)

/-- Bytes taken into a number. -/
def go (c : Nat) (l : List UInt8) : Nat := l.foldl tk c

/-- The check sum. -/
def sum (l : List UInt8) : Nat := 4294967295 ^^^ go 4294967295 l

/-- Four bytes, the lowest ones first. -/
def le4 (n : Nat) : List UInt8 := [UInt8.ofNat (n % 256), UInt8.ofNat (n / 256 % 256), UInt8.ofNat (n / 65536 % 256), UInt8.ofNat (n / 16777216 % 256)]

def sealed (l : List UInt8) : List UInt8 := l ++ le4 (sum l)

theorem xor_half (a b : Nat) : (a ^^^ b) / 2 = (a / 2) ^^^ (b / 2) := by
  apply Nat.eq_of_testBit_eq
  intro i
  simp [Nat.testBit_div_two]

theorem xor_par (a b : Nat) : (a ^^^ b) % 2 = (a % 2 + b % 2) % 2 := by
  have h : (a ^^^ b) % 2 ^ 1 = (a % 2 ^ 1) ^^^ (b % 2 ^ 1) := Nat.xor_mod_two_pow
  have ha : a % 2 = 0 ∨ a % 2 = 1 := by omega
  have hb : b % 2 = 0 ∨ b % 2 = 1 := by omega
  rw [Nat.pow_one] at h
  rw [h]
  rcases ha with ha | ha <;> rcases hb with hb | hb <;> rw [ha, hb] <;> rfl

theorem st_lt (c : Nat) (h : c < 4294967296) : st c < 4294967296 := by
  unfold st
  split
  · exact Nat.xor_lt_two_pow (n := 32) (by omega) (by decide)
  · omega

theorem st_xor (a b : Nat) : st (a ^^^ b) = st a ^^^ st b := by
  unfold st
  rw [xor_half, xor_par]
  have ha : a % 2 = 0 ∨ a % 2 = 1 := by omega
  have hb : b % 2 = 0 ∨ b % 2 = 1 := by omega
  generalize a / 2 = x
  generalize b / 2 = y
  generalize 3988292384 = p
  rcases ha with ha | ha <;> rcases hb with hb | hb <;> simp only [ha, hb] <;> simp
  · rw [Nat.xor_assoc]
  · rw [Nat.xor_assoc, Nat.xor_assoc, Nat.xor_comm p y]
  · rw [Nat.xor_assoc, ← Nat.xor_assoc p y p, Nat.xor_comm p y, Nat.xor_assoc y p p, Nat.xor_self, Nat.xor_zero]

theorem sts_xor : ∀ (k a b : Nat), sts k (a ^^^ b) = sts k a ^^^ sts k b
  | 0, _, _ => rfl
  | k + 1, a, b => by rw [sts, sts_xor k, st_xor]; rfl

theorem sts_lt : ∀ (k c : Nat), c < 4294967296 → sts k c < 4294967296
  | 0, _, h => h
  | k + 1, c, h => st_lt _ (sts_lt k c h)

theorem mv_xor (a b : Nat) : mv (a ^^^ b) = mv a ^^^ mv b := sts_xor 8 a b
theorem mv_lt (c : Nat) (h : c < 4294967296) : mv c < 4294967296 := sts_lt 8 c h

theorem st_even (x : Nat) : st (2 * x) = x := by
  unfold st; rw [if_neg (by omega)]; omega

theorem mv_256 (h : Nat) : mv (256 * h) = h := by
  have e : 256 * h = 2 * (2 * (2 * (2 * (2 * (2 * (2 * (2 * h))))))) := by omega
  rw [e]
  simp only [mv, sts, st_even]

theorem split_256 (c : Nat) : c = 256 * (c / 256) ^^^ (c % 256) := by
  apply Nat.eq_of_testBit_eq
  intro i
  rw [Nat.testBit_xor, show (256 : Nat) = 2 ^ 8 from rfl, Nat.testBit_two_pow_mul, Nat.testBit_mod_two_pow, Nat.testBit_div_two_pow]
  by_cases h : i < 8
  · simp [h, show ¬ 8 ≤ i by omega]
  · simp [h, show 8 ≤ i by omega]

/-- What the table does: the lowest byte alone is looked up. -/
theorem tk_table (c : Nat) (b : UInt8) : tk c b = mv ((c % 256) ^^^ b.toNat) ^^^ (c / 256) := by
  unfold tk
  have e : c ^^^ b.toNat = 256 * (c / 256) ^^^ ((c % 256) ^^^ b.toNat) := by
    rw [← Nat.xor_assoc, ← split_256]
  rw [e, mv_xor, mv_256, Nat.xor_comm]

theorem tk_lt (c : Nat) (b : UInt8) (h : c < 4294967296) : tk c b < 4294967296 :=
  mv_lt _ (Nat.xor_lt_two_pow (n := 32) h (by have := b.toNat_lt; omega))

theorem go_snoc (c : Nat) (l : List UInt8) (b : UInt8) : go c (l ++ [b]) = tk (go c l) b := by simp [go]
theorem go_append (c : Nat) (l m : List UInt8) : go c (l ++ m) = go (go c l) m := by simp [go]
theorem go_nil (c : Nat) : go c [] = c := rfl

theorem go_lt (c : Nat) (l : List UInt8) (h : c < 4294967296) : go c l < 4294967296 := by
  induction l generalizing c with
  | nil => exact h
  | cons b t ih => exact ih _ (tk_lt c b h)

theorem sum_lt (l : List UInt8) : sum l < 4294967296 :=
  Nat.xor_lt_two_pow (n := 32) (by decide) (go_lt _ _ (by decide))

theorem le4_length (n : Nat) : (le4 n).length = 4 := rfl

theorem le4_inj (a b : Nat) (ha : a < 4294967296) (hb : b < 4294967296) (h : le4 a = le4 b) : a = b := by
  unfold le4 at h
  simp only [List.cons.injEq, and_true] at h
  obtain ⟨h0, h1, h2, h3⟩ := h
  have g : ∀ x y : Nat, UInt8.ofNat (x % 256) = UInt8.ofNat (y % 256) → x % 256 = y % 256 := by
    intro x y h
    have := congrArg UInt8.toNat h
    simpa using this
  have := g _ _ h0
  have := g _ _ h1
  have := g _ _ h2
  have := g _ _ h3
  omega

theorem xor_eq_zero (a b : Nat) (h : a ^^^ b = 0) : a = b := by
  have h1 : a ^^^ b ^^^ b = b := by rw [h, Nat.zero_xor]
  rwa [Nat.xor_assoc, Nat.xor_self, Nat.xor_zero] at h1

theorem st_zero (c : Nat) (hc : c < 4294967296) (h : st c = 0) : c = 0 := by
  unfold st at h
  split at h
  · have := xor_eq_zero _ _ h; omega
  · omega

theorem sts_zero : ∀ (k c : Nat), c < 4294967296 → sts k c = 0 → c = 0
  | 0, _, _, h => h
  | k + 1, c, hc, h => sts_zero k c hc (st_zero _ (sts_lt k c hc) h)

theorem mv_inj (a b : Nat) (ha : a < 4294967296) (hb : b < 4294967296) (h : mv a = mv b) : a = b := by
  refine xor_eq_zero a b (sts_zero 8 _ (Nat.xor_lt_two_pow (n := 32) ha hb) ?_)
  show mv (a ^^^ b) = 0
  rw [mv_xor, h, Nat.xor_self]

theorem xor_cancel (a b c : Nat) (h : a ^^^ c = b ^^^ c) : a = b := by
  have h1 := congrArg (· ^^^ c) h
  simpa [Nat.xor_assoc] using h1

theorem tk_inj_c (a b : Nat) (x : UInt8) (ha : a < 4294967296) (hb : b < 4294967296) (h : tk a x = tk b x) : a = b := by
  have hx := x.toNat_lt
  exact xor_cancel _ _ _ (mv_inj _ _ (Nat.xor_lt_two_pow (n := 32) ha (by omega)) (Nat.xor_lt_two_pow (n := 32) hb (by omega)) h)

theorem tk_inj_b (c : Nat) (x y : UInt8) (hc : c < 4294967296) (h : tk c x = tk c y) : x = y := by
  have hx := x.toNat_lt
  have hy := y.toNat_lt
  have h1 := mv_inj _ _ (Nat.xor_lt_two_pow (n := 32) hc (by omega)) (Nat.xor_lt_two_pow (n := 32) hc (by omega)) h
  rw [Nat.xor_comm c, Nat.xor_comm c] at h1
  exact UInt8.toNat.inj (xor_cancel _ _ _ h1)

theorem go_inj (l : List UInt8) (a b : Nat) (ha : a < 4294967296) (hb : b < 4294967296) (h : go a l = go b l) : a = b := by
  induction l generalizing a b with
  | nil => exact h
  | cons x t ih => exact tk_inj_c a b x ha hb (ih _ _ (tk_lt a x ha) (tk_lt b x hb) h)

/-- One byte that is another one makes another sum. -/
theorem sum_turn (l m : List UInt8) (x y : UInt8) (h : sum (l ++ x :: m) = sum (l ++ y :: m)) : x = y := by
  unfold sum at h
  rw [Nat.xor_comm, Nat.xor_comm 4294967295] at h
  have h1 := xor_cancel _ _ _ h
  rw [go_append, go_append] at h1
  have hl := go_lt 4294967295 l (by decide)
  exact tk_inj_b _ _ _ hl (go_inj m _ _ (tk_lt _ _ hl) (tk_lt _ _ hl) h1)

theorem sealed_length (l : List UInt8) : (sealed l).length = l.length + 4 := by simp [sealed, le4_length]

/-- A text of four bytes or more is sealed, or not. -/
def opened (l : List UInt8) : Bool := decide (sealed (l.take (l.length - 4)) = l)

theorem opened_iff (l : List UInt8) (_h : 4 ≤ l.length) : opened l = decide (l.drop (l.length - 4) = le4 (sum (l.take (l.length - 4)))) := by
  unfold opened sealed
  rw [Bool.eq_iff_iff]
  simp only [decide_eq_true_eq]
  constructor
  · intro e
    have e2 : l.take (l.length - 4) ++ l.drop (l.length - 4) = l := List.take_append_drop _ _
    have e3 := e.trans e2.symm
    exact (List.append_cancel_left e3).symm
  · intro e
    rw [← e]; exact List.take_append_drop _ _

theorem opened_sealed (l : List UInt8) : opened (sealed l) = true := by
  unfold opened
  rw [sealed_length]
  simp [sealed]

theorem set_split (l : List UInt8) (k : Nat) (h : k < l.length) (v : UInt8) : l.set k v = l.take k ++ v :: l.drop (k + 1) := by
  rw [List.set_eq_take_append_cons_drop, if_pos h]

/-- A sealed text of which one byte is another one is none. -/
theorem opened_turn (l : List UInt8) (k : Nat) (hk : k < (sealed l).length) (v : UInt8) (hv : v ≠ (sealed l)[k]) : opened ((sealed l).set k v) = false := by
  have hlen := sealed_length l
  cases hop : opened ((sealed l).set k v) with
  | false => rfl
  | true =>
    exfalso
    have hs : ((sealed l).set k v).length = l.length + 4 := by simp [hlen]
    have h1 := (opened_iff ((sealed l).set k v) (by omega)).symm.trans hop
    rw [decide_eq_true_eq, hs] at h1
    have e4 : l.length + 4 - 4 = l.length := by omega
    rw [e4] at h1
    by_cases hkl : k < l.length
    · have hd : ((sealed l).set k v).drop l.length = le4 (sum l) := by
        rw [List.drop_set_of_lt hkl]; simp [sealed]
      have ht : ((sealed l).set k v).take l.length = l.set k v := by
        rw [List.take_set]; simp [sealed]
      rw [hd, ht] at h1
      have h2 := le4_inj _ _ (sum_lt _) (sum_lt _) h1
      rw [set_split l k hkl] at h2
      have e : l = l.take k ++ l[k] :: l.drop (k + 1) := by
        rw [← List.drop_eq_getElem_cons hkl, List.take_append_drop]
      have h3 := sum_turn (l.take k) (l.drop (k + 1)) l[k] v (by rw [← e]; exact h2)
      apply hv
      rw [← h3]
      simp [sealed, List.getElem_append_left hkl]
    · have ht : ((sealed l).set k v).take l.length = l := by
        rw [List.take_set_of_le (by omega)]; simp [sealed]
      rw [ht] at h1
      have h2 : (sealed l).set k v = sealed l := by
        have := List.take_append_drop l.length ((sealed l).set k v)
        rw [ht, h1] at this
        exact this.symm
      apply hv
      have h3 := List.getElem_set_self (l := sealed l) (i := k) (a := v) (by simpa using hk)
      rw [← h3]
      simp only [h2]

theorem sum_go (l : List UInt8) : sum l = 4294967295 ^^^ go 4294967295 l := rfl

theorem sum_known : sum [49, 50, 51, 52, 53, 54, 55, 56, 57] = 3421780262 := by decide +kernel
end Go.Proofs.PitotCrc
/- Networks as bytes, in plain words (chapter 11): an image, what is read of bytes, and what follows. It imports nothing of the program. -/
namespace Go.Proofs.PitotImg
open Go.Proofs.PitotMath Go.Proofs.PitotConf
open Go.Proofs.PitotCrc (sealed opened)

/-! ### Reading -/
abbrev P (α : Type) := List UInt8 → Except Int (α × List UInt8)
/-- A number of so many bytes. -/
def u (k : Nat) : P Int := fun l => if k ≤ l.length then .ok ((num (l.take k) : Int), l.drop k) else .error 10
def ret {α : Type} (a : α) : P α := fun l => .ok (a, l)
def bind {α β : Type} (p : P α) (f : α → P β) : P β := fun l => match p l with
  | .ok x => f x.1 x.2
  | .error e => .error e
/-- So many, one behind the other. -/
def rep {α : Type} (p : P α) : Nat → P (List α)
  | 0 => ret []
  | n + 1 => bind p fun a => bind (rep p n) fun az => ret (a :: az)
/-- How many, and each. -/
def many {α : Type} (p : P α) : P (List α) := bind (u 2) fun n => rep p n.toNat

/-! ### Writing -/
/-- A number in so many bytes. -/
def w (k : Nat) (n : Int) : List UInt8 := be k n.toNat
def fits (k : Nat) (n : Int) : Prop := 0 ≤ n ∧ n < ((256 ^ k : Nat) : Int)
def manyW {α : Type} (e : α → List UInt8) (l : List α) : List UInt8 := w 2 l.length ++ l.flatMap e

theorem bind_ok {α β : Type} {p : P α} {f : α → P β} {l r : List UInt8} {b : β} : bind p f l = .ok (b, r) ↔ ∃ a r', p l = .ok (a, r') ∧ f a r' = .ok (b, r) := by
  unfold bind
  cases h : p l with
  | error e => simp
  | ok x =>
    obtain ⟨a, r'⟩ := x
    simp only [Except.ok.injEq, Prod.mk.injEq]
    exact ⟨fun h => ⟨a, r', ⟨rfl, rfl⟩, h⟩, by rintro ⟨_, _, ⟨rfl, rfl⟩, h⟩; exact h⟩
theorem bind_of {α β : Type} {p : P α} {f : α → P β} {l r' : List UInt8} {a : α} (h : p l = .ok (a, r')) : bind p f l = f a r' := by
  unfold bind; rw [h]
theorem w_length (k : Nat) (n : Int) : (w k n).length = k := be_length k _
theorem u_w {k : Nat} {n : Int} (h : fits k n) (r : List UInt8) : u k (w k n ++ r) = .ok (n, r) := by
  have hl := w_length k n
  unfold u
  rw [if_pos (by rw [List.length_append]; omega), List.take_append_of_le_length (by omega), List.take_of_length_le (by omega), List.drop_append_of_le_length (by omega), List.drop_of_length_le (by omega), List.nil_append]
  have : (num (w k n) : Int) = n := by
    unfold w
    have h2 := h.2
    have h1 := h.1
    rw [num_be k _ (by omega)]
    omega
  rw [this]
theorem u_ok {k : Nat} {n : Int} {l r : List UInt8} (h : u k l = .ok (n, r)) : l = w k n ++ r ∧ fits k n := by
  unfold u at h
  by_cases hk : k ≤ l.length
  · rw [if_pos hk] at h
    injection h with h
    injection h with h1 h2
    subst h1; subst h2
    have hlen : (l.take k).length = k := by rw [List.length_take]; omega
    have e : w k (num (l.take k) : Int) = l.take k := by
      unfold w
      have := be_num (l.take k)
      rw [hlen] at this
      simpa using this
    refine ⟨by rw [e, List.take_append_drop], by omega, ?_⟩
    have := num_lt (l.take k)
    rw [hlen] at this
    omega
  · rw [if_neg hk] at h; cases h
section
variable {α : Type} {p : P α} {e : α → List UInt8} {ok : α → Prop}
theorem rep_w (hp : ∀ a, ok a → ∀ r, p (e a ++ r) = .ok (a, r)) : ∀ (l : List α), (∀ a ∈ l, ok a) → ∀ r, rep p l.length (l.flatMap e ++ r) = .ok (l, r)
  | [], _, r => rfl
  | a :: l, h, r => by
    rw [List.flatMap_cons, List.append_assoc]
    show bind p _ _ = _
    rw [bind_of (hp a (h a (List.mem_cons_self ..)) _), bind_of (rep_w hp l (fun b hb => h b (List.mem_cons_of_mem _ hb)) r)]
    rfl
theorem rep_ok (hp : ∀ l a r, p l = .ok (a, r) → l = e a ++ r) : ∀ (n : Nat) (l : List UInt8) (az : List α) (r : List UInt8), rep p n l = .ok (az, r) → l = az.flatMap e ++ r ∧ az.length = n
  | 0, l, az, r, h => by
    have h : (Except.ok ([], l) : Except Int _) = .ok (az, r) := h
    injection h with h
    injection h with h1 h2
    subst h1; subst h2
    exact ⟨rfl, rfl⟩
  | n + 1, l, az, r, h => by
    obtain ⟨a, r1, h1, h2⟩ := bind_ok.1 h
    obtain ⟨az', r2, h3, h4⟩ := bind_ok.1 h2
    have h4 : (Except.ok (a :: az', r2) : Except Int _) = .ok (az, r) := h4
    injection h4 with h4
    injection h4 with h5 h6
    subst h5; subst h6
    obtain ⟨h7, h8⟩ := rep_ok hp n r1 az' r2 h3
    rw [hp l a r1 h1, h7]
    exact ⟨by simp, by simp [h8]⟩
theorem rep_all {q : α → Prop} (hp : ∀ l a r, p l = .ok (a, r) → q a) : ∀ (n : Nat) (l : List UInt8) (az : List α) (r : List UInt8), rep p n l = .ok (az, r) → ∀ a ∈ az, q a
  | 0, l, az, r, h => by
    have h : (Except.ok ([], l) : Except Int _) = .ok (az, r) := h
    injection h with h
    injection h with h1 h2
    subst h1
    intro a ha; cases ha
  | n + 1, l, az, r, h => by
    obtain ⟨a, r1, h1, h2⟩ := bind_ok.1 h
    obtain ⟨az', r2, h3, h4⟩ := bind_ok.1 h2
    have h4 : (Except.ok (a :: az', r2) : Except Int _) = .ok (az, r) := h4
    injection h4 with h4
    injection h4 with h5 h6
    subst h5
    intro b hb
    rcases List.mem_cons.1 hb with rfl | hb
    · exact hp l _ r1 h1
    · exact rep_all hp n r1 az' r2 h3 b hb
theorem many_w (hp : ∀ a, ok a → ∀ r, p (e a ++ r) = .ok (a, r)) (l : List α) (h : ∀ a ∈ l, ok a) (hl : l.length < 65536) (r : List UInt8) : many p (manyW e l ++ r) = .ok (l, r) := by
  unfold many manyW
  rw [List.append_assoc, bind_of (u_w (n := (l.length : Int)) ⟨by omega, by show (l.length : Int) < 65536; omega⟩ _)]
  have := rep_w hp l h r
  simpa using this
theorem many_ok (hp : ∀ l a r, p l = .ok (a, r) → l = e a ++ r) {l r : List UInt8} {az : List α} (h : many p l = .ok (az, r)) : l = manyW e az ++ r ∧ az.length < 65536 := by
  obtain ⟨n, r1, h1, h2⟩ := bind_ok.1 h
  obtain ⟨h3, h4⟩ := u_ok h1
  obtain ⟨h5, h6⟩ := rep_ok hp _ _ _ _ h2
  have hn : n = (az.length : Int) := by have := h4.1; omega
  refine ⟨by rw [h3, h5, hn, manyW, List.append_assoc], ?_⟩
  have := h4.2
  have : n < 65536 := this
  omega
end

/-! ### A network -/
def winW (x : Win) : List UInt8 := w 2 x.part ++ (w 4 x.beg ++ w 4 x.long)
def winR : P Win := bind (u 2) fun a => bind (u 4) fun b => bind (u 4) fun c => ret ⟨a, b, c⟩
def vlByte (x : Vl) : Int := 16 * x.bag + (if x.high = true then 8 else 0) + x.subs
def vlW (x : Vl) : List UInt8 := w 2 x.id ++ (w 2 x.host ++ (w 1 (vlByte x) ++ (w 2 x.smax ++ (w 4 x.skew ++ manyW (w 2) x.to))))
def vlR : P Vl := bind (u 2) fun id => bind (u 2) fun host => bind (u 1) fun b => bind (u 2) fun smax => bind (u 4) fun skew => bind (many (u 2)) fun to_ => ret ⟨id, host, b / 16, smax, decide (b / 8 % 2 = 1), b % 8, skew, to_⟩
def prtByte (x : Prt) : Int := 64 * x.kind + (if x.out = true then 32 else 0) + x.sub
def prtW (x : Prt) : List UInt8 := w 4 x.id ++ (w 2 x.host ++ (w 2 x.part ++ (w 1 (prtByte x) ++ (w 2 x.vl ++ (w 2 x.udp ++ (w 2 x.size ++ (w 2 x.depth ++ (w 4 (x.fresh / 4294967296) ++ w 4 (x.fresh % 4294967296)))))))))
/-- A port; 1: its Fresh may not be. -/
def prtR : P Prt := bind (u 4) fun id => bind (u 2) fun host => bind (u 2) fun part => bind (u 1) fun b => bind (u 2) fun vl => bind (u 2) fun udp => bind (u 2) fun size => bind (u 2) fun depth => bind (u 4) fun hi => bind (u 4) fun lo =>
  fun l => if 1099511627776 < hi * 4294967296 + lo then .error 1 else .ok (⟨id, host, part, b / 64, decide (b / 32 % 2 = 1), vl, b % 32, udp, size, depth, hi * 4294967296 + lo⟩, l)
def cfW (c : Cf) : List UInt8 := w 2 c.hosts ++ (manyW (w 2) c.parts ++ (w 4 c.major ++ (manyW winW c.wins ++ (manyW vlW c.vls ++ manyW prtW c.ports))))
def cfR : P Cf := bind (u 2) fun hosts => bind (many (u 2)) fun parts => bind (u 4) fun major => bind (many winR) fun wins => bind (many vlR) fun vls => bind (many prtR) fun ports => ret ⟨hosts, parts, major, wins, vls, ports⟩
def magic : List UInt8 := [65, 70, 68, 88, 0, 1]
/-- A network as an image; or why none. -/
def encode (c : Cf) : Except Int (List UInt8) :=
  if (check c).2.2 ≠ 0 then .error (check c).2.2
  else if c.ports.any (fun p => decide (4294967295 < p.id)) = true then .error 11
  else .ok (sealed (magic ++ cfW c))
/-- The network that an image is of; or why it is of none. -/
def load (s : List UInt8) : Except Int Cf :=
  if s.length < 4 then .error 10
  else if opened s = false then .error 12
  else
    let t := s.take (s.length - 4)
    if t.length < 6 then .error 10
    else if t.take 6 ≠ magic then .error 13
    else match cfR (t.drop 6) with
    | .error e => .error e
    | .ok x => if x.2 ≠ [] then .error 11 else if (check x.1).2.2 ≠ 0 then .error (check x.1).2.2 else .ok x.1

theorem winR_w (x : Win) (h : fits 2 x.part ∧ fits 4 x.beg ∧ fits 4 x.long) (r : List UInt8) : winR (winW x ++ r) = .ok (x, r) := by
  obtain ⟨h1, h2, h3⟩ := h
  simp only [winR, winW, List.append_assoc]
  rw [bind_of (u_w h1 _), bind_of (u_w h2 _), bind_of (u_w h3 _)]; rfl
theorem winR_ok (l : List UInt8) (x : Win) (r : List UInt8) (h : winR l = .ok (x, r)) : l = winW x ++ r := by
  obtain ⟨a, r1, h1, h⟩ := bind_ok.1 h
  obtain ⟨b, r2, h2, h⟩ := bind_ok.1 h
  obtain ⟨c, r3, h3, h⟩ := bind_ok.1 h
  have h : (Except.ok (⟨a, b, c⟩, r3) : Except Int (Win × List UInt8)) = .ok (x, r) := h
  injection h with h
  injection h with e1 e2
  subst e1; subst e2
  rw [(u_ok h1).1, (u_ok h2).1, (u_ok h3).1]
  simp [winW]
def vlOk (x : Vl) : Prop := fits 2 x.id ∧ fits 2 x.host ∧ (0 ≤ x.bag ∧ x.bag ≤ 15) ∧ fits 2 x.smax ∧ (0 ≤ x.subs ∧ x.subs ≤ 7) ∧ fits 4 x.skew ∧ (∀ t ∈ x.to, fits 2 t) ∧ x.to.length < 65536
theorem vlR_w (x : Vl) (h : vlOk x) (r : List UInt8) : vlR (vlW x ++ r) = .ok (x, r) := by
  obtain ⟨h1, h2, h3, h4, h5, h6, h7, h8⟩ := h
  have hb : fits 1 (vlByte x) := by
    unfold vlByte
    constructor
    · split <;> omega
    · show _ < (256 : Int); split <;> omega
  simp only [vlR, vlW, List.append_assoc]
  rw [bind_of (u_w h1 _), bind_of (u_w h2 _), bind_of (u_w hb _), bind_of (u_w h4 _), bind_of (u_w h6 _), bind_of (many_w (ok := fits 2) (fun a ha r => u_w ha r) x.to h7 h8 r)]
  show Except.ok _ = _
  obtain ⟨id, host, bag, smax, high, subs, skew, to_⟩ := x
  simp only at h3 h5
  have e1 : vlByte ⟨id, host, bag, smax, high, subs, skew, to_⟩ / 16 = bag := by
    unfold vlByte; simp only; split <;> omega
  have e2 : vlByte ⟨id, host, bag, smax, high, subs, skew, to_⟩ % 8 = subs := by
    unfold vlByte; simp only; split <;> omega
  have e3 : decide (vlByte ⟨id, host, bag, smax, high, subs, skew, to_⟩ / 8 % 2 = 1) = high := by
    unfold vlByte
    cases high
    · rw [if_neg (show ¬ (false = true) by decide)]; exact decide_eq_false (by simp only; omega)
    · rw [if_pos rfl]; exact decide_eq_true (by simp only; omega)
  rw [e1, e2, e3]
theorem vlR_ok (l : List UInt8) (x : Vl) (r : List UInt8) (h : vlR l = .ok (x, r)) : l = vlW x ++ r := by
  obtain ⟨id, r1, h1, h⟩ := bind_ok.1 h
  obtain ⟨host, r2, h2, h⟩ := bind_ok.1 h
  obtain ⟨b, r3, h3, h⟩ := bind_ok.1 h
  obtain ⟨smax, r4, h4, h⟩ := bind_ok.1 h
  obtain ⟨skew, r5, h5, h⟩ := bind_ok.1 h
  obtain ⟨to_, r6, h6, h⟩ := bind_ok.1 h
  have h : (Except.ok (⟨id, host, b / 16, smax, decide (b / 8 % 2 = 1), b % 8, skew, to_⟩, r6) : Except Int (Vl × List UInt8)) = .ok (x, r) := h
  injection h with h
  injection h with e1 e2
  subst e1; subst e2
  obtain ⟨g3, g3a, g3b⟩ := u_ok h3
  have g3b : b < 256 := g3b
  have eb : vlByte ⟨id, host, b / 16, smax, decide (b / 8 % 2 = 1), b % 8, skew, to_⟩ = b := by
    unfold vlByte
    simp only
    by_cases hh : b / 8 % 2 = 1
    · rw [decide_eq_true hh, if_pos rfl]; omega
    · rw [decide_eq_false hh, if_neg (by decide)]; omega
  rw [(u_ok h1).1, (u_ok h2).1, g3, (u_ok h4).1, (u_ok h5).1, (many_ok (fun l a r h => (u_ok h).1) h6).1]
  simp only [vlW, List.append_assoc]
  rw [eb]
def prtOk (x : Prt) : Prop := fits 4 x.id ∧ fits 2 x.host ∧ fits 2 x.part ∧ (0 ≤ x.kind ∧ x.kind ≤ 3) ∧ fits 2 x.vl ∧ (0 ≤ x.sub ∧ x.sub ≤ 31) ∧ fits 2 x.udp ∧ fits 2 x.size ∧ fits 2 x.depth ∧ (0 ≤ x.fresh ∧ x.fresh ≤ 1099511627776)
theorem prtR_w (x : Prt) (h : prtOk x) (r : List UInt8) : prtR (prtW x ++ r) = .ok (x, r) := by
  obtain ⟨h1, h2, h3, h4, h5, h6, h7, h8, h9, h10⟩ := h
  have hb : fits 1 (prtByte x) := by
    unfold prtByte
    constructor
    · split <;> omega
    · show _ < (256 : Int); split <;> omega
  have hf1 : fits 4 (x.fresh / 4294967296) := ⟨by omega, by show _ < (4294967296 : Int); omega⟩
  have hf2 : fits 4 (x.fresh % 4294967296) := ⟨by omega, by show _ < (4294967296 : Int); omega⟩
  simp only [prtR, prtW, List.append_assoc]
  rw [bind_of (u_w h1 _), bind_of (u_w h2 _), bind_of (u_w h3 _), bind_of (u_w hb _), bind_of (u_w h5 _), bind_of (u_w h7 _), bind_of (u_w h8 _), bind_of (u_w h9 _), bind_of (u_w hf1 _), bind_of (u_w hf2 _)]
  have ef : x.fresh / 4294967296 * 4294967296 + x.fresh % 4294967296 = x.fresh := by omega
  rw [ef, if_neg (by omega)]
  obtain ⟨id, host, part, kind, out, vl, sub, udp, size, depth, fresh⟩ := x
  simp only at h4 h6
  have e1 : prtByte ⟨id, host, part, kind, out, vl, sub, udp, size, depth, fresh⟩ / 64 = kind := by
    unfold prtByte; simp only; split <;> omega
  have e2 : prtByte ⟨id, host, part, kind, out, vl, sub, udp, size, depth, fresh⟩ % 32 = sub := by
    unfold prtByte; simp only; split <;> omega
  have e3 : decide (prtByte ⟨id, host, part, kind, out, vl, sub, udp, size, depth, fresh⟩ / 32 % 2 = 1) = out := by
    unfold prtByte
    cases out
    · rw [if_neg (show ¬ (false = true) by decide)]; exact decide_eq_false (by simp only; omega)
    · rw [if_pos rfl]; exact decide_eq_true (by simp only; omega)
  rw [e1, e2, e3]
theorem prtR_ok (l : List UInt8) (x : Prt) (r : List UInt8) (h : prtR l = .ok (x, r)) : l = prtW x ++ r := by
  obtain ⟨id, r1, h1, h⟩ := bind_ok.1 h
  obtain ⟨host, r2, h2, h⟩ := bind_ok.1 h
  obtain ⟨part, r3, h3, h⟩ := bind_ok.1 h
  obtain ⟨b, r4, h4, h⟩ := bind_ok.1 h
  obtain ⟨vl, r5, h5, h⟩ := bind_ok.1 h
  obtain ⟨udp, r6, h6, h⟩ := bind_ok.1 h
  obtain ⟨size, r7, h7, h⟩ := bind_ok.1 h
  obtain ⟨depth, r8, h8, h⟩ := bind_ok.1 h
  obtain ⟨hi, r9, h9, h⟩ := bind_ok.1 h
  obtain ⟨lo, r10, h10, h⟩ := bind_ok.1 h
  obtain ⟨g4, g4a, g4b⟩ := u_ok h4
  obtain ⟨g9, g9a, g9b⟩ := u_ok h9
  obtain ⟨g10, g10a, g10b⟩ := u_ok h10
  have g4b : b < 256 := g4b
  have g9b : hi < 4294967296 := g9b
  have g10b : lo < 4294967296 := g10b
  by_cases hw : 1099511627776 < hi * 4294967296 + lo
  · rw [if_pos hw] at h; cases h
  rw [if_neg hw] at h
  injection h with h
  injection h with e1 e2
  subst e1; subst e2
  have eb : prtByte ⟨id, host, part, b / 64, decide (b / 32 % 2 = 1), vl, b % 32, udp, size, depth, hi * 4294967296 + lo⟩ = b := by
    unfold prtByte
    simp only
    by_cases hh : b / 32 % 2 = 1
    · rw [decide_eq_true hh, if_pos rfl]; omega
    · rw [decide_eq_false hh, if_neg (by decide)]; omega
  have ef1 : (hi * 4294967296 + lo) / 4294967296 = hi := by omega
  have ef2 : (hi * 4294967296 + lo) % 4294967296 = lo := by omega
  rw [(u_ok h1).1, (u_ok h2).1, (u_ok h3).1, g4, (u_ok h5).1, (u_ok h6).1, (u_ok h7).1, (u_ok h8).1, g9, g10]
  simp only [prtW, List.append_assoc]
  rw [eb, ef1, ef2]
/-- What is told of the bits of two bytes is told of all bytes. -/
def cfOk (c : Cf) : Prop := fits 2 c.hosts ∧ ((∀ t ∈ c.parts, fits 2 t) ∧ c.parts.length < 65536) ∧ fits 4 c.major ∧ ((∀ x ∈ c.wins, fits 2 x.part ∧ fits 4 x.beg ∧ fits 4 x.long) ∧ c.wins.length < 65536) ∧ ((∀ x ∈ c.vls, vlOk x) ∧ c.vls.length < 65536) ∧ ((∀ x ∈ c.ports, prtOk x) ∧ c.ports.length < 65536)
theorem cfR_w (c : Cf) (h : cfOk c) (r : List UInt8) : cfR (cfW c ++ r) = .ok (c, r) := by
  obtain ⟨h1, ⟨h2, h2'⟩, h3, ⟨h4, h4'⟩, ⟨h5, h5'⟩, ⟨h6, h6'⟩⟩ := h
  simp only [cfR, cfW, List.append_assoc]
  rw [bind_of (u_w h1 _), bind_of (many_w (ok := fits 2) (fun a ha r => u_w ha r) c.parts h2 h2' _), bind_of (u_w h3 _), bind_of (many_w winR_w c.wins h4 h4' _), bind_of (many_w vlR_w c.vls h5 h5' _), bind_of (many_w prtR_w c.ports h6 h6' r)]
  rfl
theorem cfR_ok {l : List UInt8} {c : Cf} {r : List UInt8} (h : cfR l = .ok (c, r)) : l = cfW c ++ r := by
  obtain ⟨hosts, r1, h1, h⟩ := bind_ok.1 h
  obtain ⟨parts, r2, h2, h⟩ := bind_ok.1 h
  obtain ⟨major, r3, h3, h⟩ := bind_ok.1 h
  obtain ⟨wins, r4, h4, h⟩ := bind_ok.1 h
  obtain ⟨vls, r5, h5, h⟩ := bind_ok.1 h
  obtain ⟨ports, r6, h6, h⟩ := bind_ok.1 h
  have h : (Except.ok (⟨hosts, parts, major, wins, vls, ports⟩, r6) : Except Int (Cf × List UInt8)) = .ok (c, r) := h
  injection h with h
  injection h with e1 e2
  subst e1; subst e2
  rw [(u_ok h1).1, (many_ok (fun l a r h => (u_ok h).1) h2).1, (u_ok h3).1, (many_ok winR_ok h4).1, (many_ok vlR_ok h5).1, (many_ok prtR_ok h6).1]
  simp [cfW]

/-! ### A network that may be can be written -/
theorem scan_len {α : Type} {J : List α → α → Int} {n : Nat} (hn : ∀ pre x, n ≤ pre.length → J pre x ≠ 0) {l : List α} (h : scan J [] l = none) : l.length ≤ n := by
  apply Classical.byContradiction
  intro hl
  have := (scan_none l []).1 h n (by omega)
  rw [List.nil_append] at this
  exact hn _ _ (by rw [List.length_take]; omega) this
theorem parts_fit {c : Cf} (h : May c) : (∀ t ∈ c.parts, 0 ≤ t ∧ t < 64) ∧ c.parts.length ≤ 64 := by
  have hh := h.hosts
  refine ⟨fun t ht => ?_, scan_len (fun pre x hp => by unfold partJ; rw [if_pos (Or.inl hp)]; decide) h.parts⟩
  obtain ⟨i, hi, rfl⟩ := List.mem_iff_getElem.1 ht
  have := mem_take_lt hi _ h.parts
  unfold partJ at this
  have hb := (ite0 (by decide) this).1
  simp only [not_or, Bool.not_eq_false] at hb
  have := isHost_iff.1 hb.2
  omega
theorem wins_fit {c : Cf} (h : May c) : (∀ x ∈ c.wins, fits 2 x.part ∧ fits 4 x.beg ∧ fits 4 x.long) ∧ c.wins.length ≤ 256 := by
  have hp := (parts_fit h).2
  have hm := h.major
  refine ⟨fun x hx => ?_, scan_len (fun pre x hp => by unfold winJ; rw [if_pos (Or.inl hp)]; decide) h.wins⟩
  obtain ⟨i, hi, rfl⟩ := List.mem_iff_getElem.1 hx
  obtain ⟨h1, h2, h3, h4, _⟩ := h.win i hi
  have h1 := hostOf_some h1
  exact ⟨⟨by omega, by show _ < (65536 : Int); omega⟩, ⟨by omega, by show _ < (4294967296 : Int); omega⟩, ⟨by omega, by show _ < (4294967296 : Int); omega⟩⟩
theorem vls_fit {c : Cf} (h : May c) (ht : ∀ v ∈ c.vls, v.to.length < 65536) : (∀ x ∈ c.vls, vlOk x ∧ 1 ≤ x.id ∧ x.id ≤ 65535 ∧ x.subs ≤ 4) ∧ c.vls.length ≤ 256 := by
  have hh := h.hosts
  refine ⟨fun x hx => ?_, scan_len (fun pre x hp => by unfold linkJ; rw [if_pos (Or.inl hp)]; decide) h.vls⟩
  have hl := h.link hx
  have hto := ht x hx
  obtain ⟨i, hi, rfl⟩ := List.mem_iff_getElem.1 hx
  have := mem_take_lt hi _ h.vls
  unfold linkJ at this
  have hb := (ite0 (by decide) this).1
  simp only [not_or] at hb
  obtain ⟨_, g1, g2, _, g4, g5, g6, g7, g8, g9, g10, g11, _⟩ := hb
  refine ⟨⟨⟨by omega, by show _ < (65536 : Int); omega⟩, ⟨by omega, by show _ < (65536 : Int); omega⟩, by omega, ⟨by omega, by show _ < (65536 : Int); omega⟩, by omega, ⟨by omega, by show _ < (4294967296 : Int); omega⟩, fun t htt => ?_, hto⟩, by omega, by omega, by omega⟩
  have := hl.2.2.2.2 t htt
  exact ⟨by omega, by show _ < (65536 : Int); omega⟩
theorem ports_fit {c : Cf} (h : May c) (ht : ∀ v ∈ c.vls, v.to.length < 65536) (hid : ∀ p ∈ c.ports, p.id ≤ 4294967295) : (∀ x ∈ c.ports, prtOk x) ∧ c.ports.length ≤ 512 := by
  have hpp := (parts_fit h)
  have hvv := (vls_fit h ht).1
  refine ⟨fun x hx => ?_, scan_len (fun pre x hp => by unfold portJ; rw [if_pos (Or.inl hp)]; decide) h.ports⟩
  have hi2 := hid x hx
  obtain ⟨v, hv, hho, _⟩ := h.port hx
  have hvm := vlOf_some hv
  obtain ⟨_, v1, v2, v3⟩ := hvv v hvm.1
  have hpt := hostOf_some (parts := c.parts) (n := x.part) (by rw [hho]; simp)
  have hhost : 0 ≤ x.host ∧ x.host < 64 := by
    unfold hostOf at hho
    rw [if_pos hpt.1] at hho
    exact hpp.1 _ (List.mem_of_getElem? hho)
  obtain ⟨i, hi, rfl⟩ := List.mem_iff_getElem.1 hx
  have := mem_take_lt hi _ h.ports
  unfold portJ at this
  obtain ⟨g1, this⟩ := ite0 (by decide) this
  obtain ⟨_, this⟩ := ite0 (by decide) this
  obtain ⟨_, this⟩ := ite0 (by decide) this
  rw [hv] at this
  simp only at this
  obtain ⟨_, this⟩ := ite0 (by decide) this
  obtain ⟨g5, this⟩ := ite0 (by decide) this
  obtain ⟨g6, this⟩ := ite0 (by decide) this
  obtain ⟨g7, _⟩ := ite0 (by decide) this
  simp only [not_or] at g1 g5
  obtain ⟨_, a1, a2, _, a4, a5, a6, a7⟩ := g1
  obtain ⟨b1, b2, b3⟩ := g5
  have hsub : 0 ≤ c.ports[i].sub ∧ c.ports[i].sub ≤ 31 := by
    cases ho : c.ports[i].out with
    | true => have : ¬ (v.subs ≤ c.ports[i].sub) := fun hh => b2 ⟨ho, hh⟩; omega
    | false => have : ¬ (c.ports[i].sub ≠ 0) := fun hh => b3 ⟨ho, hh⟩; omega
  have hkind : c.ports[i].kind = 1 ∨ c.ports[i].kind = 2 := by omega
  have hdf : (0 ≤ c.ports[i].depth ∧ c.ports[i].depth ≤ 64) ∧ 0 ≤ c.ports[i].fresh ∧ c.ports[i].fresh ≤ 1099511627776 := by
    rcases hkind with hk | hk
    · have h7 : ¬ (c.ports[i].depth ≠ 0 ∨ (c.ports[i].out = true ∧ c.ports[i].fresh ≠ 0) ∨ (c.ports[i].out = false ∧ (c.ports[i].fresh < 1 ∨ 1099511627776 < c.ports[i].fresh))) := fun hh => g7 ⟨hk, hh⟩
      simp only [not_or] at h7
      obtain ⟨c1, c2, c3⟩ := h7
      refine ⟨by omega, ?_⟩
      cases ho : c.ports[i].out with
      | true => have : ¬ (c.ports[i].fresh ≠ 0) := fun hh => c2 ⟨ho, hh⟩; omega
      | false => have : ¬ (c.ports[i].fresh < 1 ∨ 1099511627776 < c.ports[i].fresh) := fun hh => c3 ⟨ho, hh⟩; omega
    · have h6 : ¬ (c.ports[i].depth < 1 ∨ 64 < c.ports[i].depth ∨ c.ports[i].fresh ≠ 0) := fun hh => g6 ⟨hk, hh⟩
      omega
  have hvl : c.ports[i].vl = v.id := hvm.2.symm
  exact ⟨⟨by omega, by show _ < (4294967296 : Int); omega⟩, ⟨by omega, by show _ < (65536 : Int); omega⟩, ⟨by omega, by show _ < (65536 : Int); omega⟩, by omega, ⟨by omega, by show _ < (65536 : Int); omega⟩, hsub, ⟨by omega, by show _ < (65536 : Int); omega⟩, ⟨by omega, by show _ < (65536 : Int); omega⟩, ⟨by omega, by show _ < (65536 : Int); omega⟩, hdf.2⟩
theorem may_ok {c : Cf} (h : May c) (ht : ∀ v ∈ c.vls, v.to.length < 65536) (hid : ∀ p ∈ c.ports, p.id ≤ 4294967295) : cfOk c := by
  have h1 := h.hosts
  have h2 := (parts_fit h)
  have h3 := h.major
  have h4 := wins_fit h
  have h5 := vls_fit h ht
  have h6 := ports_fit h ht hid
  exact ⟨⟨by omega, by show _ < (65536 : Int); omega⟩, ⟨fun t htt => by have := h2.1 t htt; exact ⟨by omega, by show _ < (65536 : Int); omega⟩, by omega⟩, ⟨by omega, by show _ < (4294967296 : Int); omega⟩, ⟨h4.1, by omega⟩, ⟨fun x hx => (h5.1 x hx).1, by omega⟩, ⟨h6.1, by omega⟩⟩

/-! ### What follows -/
theorem magic_take (l : List UInt8) : (magic ++ l).take 6 = magic := rfl
theorem magic_drop (l : List UInt8) : (magic ++ l).drop 6 = l := rfl
theorem sealed_take (l : List UInt8) : (sealed l).take ((sealed l).length - 4) = l := by
  rw [Go.Proofs.PitotCrc.sealed_length]
  show (l ++ _).take (l.length + 4 - 4) = l
  rw [Nat.add_sub_cancel, List.take_left]
/-- What was encoded is loaded. -/
theorem back {c : Cf} {s : List UInt8} (ht : ∀ v ∈ c.vls, v.to.length < 65536) (h : encode c = .ok s) : load s = .ok c ∧ May c := by
  unfold encode at h
  by_cases h1 : (check c).2.2 ≠ 0
  · rw [if_pos h1] at h; cases h
  rw [if_neg h1] at h
  by_cases h2 : c.ports.any (fun p => decide (4294967295 < p.id)) = true
  · rw [if_pos h2] at h; cases h
  rw [if_neg h2] at h
  injection h with h
  subst h
  have h0 : (check c).2.2 = 0 := by omega
  have hm := check_may h0
  have hid : ∀ p ∈ c.ports, p.id ≤ 4294967295 := fun p hp => by
    apply Classical.byContradiction
    intro hh
    exact h2 (List.any_eq_true.2 ⟨p, hp, decide_eq_true (by omega)⟩)
  have hr := cfR_w c (may_ok hm ht hid) []
  rw [List.append_nil] at hr
  refine ⟨?_, hm⟩
  have hlen : (sealed (magic ++ cfW c)).length = (magic ++ cfW c).length + 4 := Go.Proofs.PitotCrc.sealed_length _
  have hml : magic.length = 6 := rfl
  rw [List.length_append] at hlen
  unfold load
  rw [if_neg (by omega), Go.Proofs.PitotCrc.opened_sealed, if_neg (by decide)]
  simp only [sealed_take]
  rw [if_neg (by rw [List.length_append]; omega), magic_take, if_neg (by simp), magic_drop, hr]
  simp only
  rw [if_neg (by simp), if_neg (by omega)]
/-- What is loaded is encoded as the same bytes, and may be. -/
theorem again {c : Cf} {s : List UInt8} (h : load s = .ok c) : (check c).2.2 = 0 ∧ encode c = .ok s ∧ ∀ v ∈ c.vls, v.to.length < 65536 := by
  unfold load at h
  by_cases h1 : s.length < 4
  · rw [if_pos h1] at h; cases h
  rw [if_neg h1] at h
  by_cases h2 : opened s = false
  · rw [if_pos h2] at h; cases h
  rw [if_neg h2] at h
  simp only at h
  obtain ⟨t, ht⟩ : ∃ t, s.take (s.length - 4) = t := ⟨_, rfl⟩
  rw [ht] at h
  by_cases h3 : t.length < 6
  · rw [if_pos h3] at h; cases h
  rw [if_neg h3] at h
  by_cases h4 : t.take 6 ≠ magic
  · rw [if_pos h4] at h; cases h
  rw [if_neg h4] at h
  have h4 : t.take 6 = magic := Classical.byContradiction h4
  cases hr : cfR (t.drop 6) with
  | error e => rw [hr] at h; cases h
  | ok x =>
    obtain ⟨c', r⟩ := x
    rw [hr] at h
    simp only at h
    by_cases h5 : r ≠ []
    · rw [if_pos h5] at h; cases h
    rw [if_neg h5] at h
    have h5 : r = [] := Classical.byContradiction h5
    by_cases h6 : (check c').2.2 ≠ 0
    · rw [if_pos h6] at h; cases h
    rw [if_neg h6] at h
    injection h with h
    subst h
    subst h5
    have h6 : (check c').2.2 = 0 := by omega
    have hb := cfR_ok hr
    rw [List.append_nil] at hb
    have hts : t = magic ++ cfW c' := by rw [← hb, ← h4, List.take_append_drop]
    have hs : sealed t = s := by
      have h2 : opened s = true := by simpa using h2
      unfold opened at h2
      rw [ht] at h2
      exact of_decide_eq_true h2
    have hports : ∀ p ∈ c'.ports, p.id ≤ 4294967295 := by
      obtain ⟨_, r1, _, h⟩ := bind_ok.1 hr
      obtain ⟨_, r2, _, h⟩ := bind_ok.1 h
      obtain ⟨_, r3, _, h⟩ := bind_ok.1 h
      obtain ⟨_, r4, _, h⟩ := bind_ok.1 h
      obtain ⟨_, r5, _, h⟩ := bind_ok.1 h
      obtain ⟨ports, r6, h7, h⟩ := bind_ok.1 h
      injection h with h
      injection h with e1 e2
      subst e1
      obtain ⟨n, r7, _, h8⟩ := bind_ok.1 h7
      refine rep_all (q := fun p : Prt => p.id ≤ 4294967295) (fun l a r ha => ?_) _ _ _ _ h8
      obtain ⟨id, r8, h9, ha⟩ := bind_ok.1 ha
      have hid := (u_ok h9).2.2
      have hid : id < 4294967296 := hid
      obtain ⟨_, _, _, ha⟩ := bind_ok.1 ha
      obtain ⟨_, _, _, ha⟩ := bind_ok.1 ha
      obtain ⟨_, _, _, ha⟩ := bind_ok.1 ha
      obtain ⟨_, _, _, ha⟩ := bind_ok.1 ha
      obtain ⟨_, _, _, ha⟩ := bind_ok.1 ha
      obtain ⟨_, _, _, ha⟩ := bind_ok.1 ha
      obtain ⟨_, _, _, ha⟩ := bind_ok.1 ha
      obtain ⟨hi, _, _, ha⟩ := bind_ok.1 ha
      obtain ⟨lo, _, _, ha⟩ := bind_ok.1 ha
      by_cases hw : 1099511627776 < hi * 4294967296 + lo
      · rw [if_pos hw] at ha; cases ha
      rw [if_neg hw] at ha
      injection ha with ha
      injection ha with e1 e2
      subst e1
      show id ≤ 4294967295
      omega
    have hto : ∀ v ∈ c'.vls, v.to.length < 65536 := by
      obtain ⟨_, r1, _, h⟩ := bind_ok.1 hr
      obtain ⟨_, r2, _, h⟩ := bind_ok.1 h
      obtain ⟨_, r3, _, h⟩ := bind_ok.1 h
      obtain ⟨_, r4, _, h⟩ := bind_ok.1 h
      obtain ⟨vls, r5, h7, h⟩ := bind_ok.1 h
      obtain ⟨_, r6, _, h⟩ := bind_ok.1 h
      injection h with h
      injection h with e1 e2
      subst e1
      obtain ⟨n, r7, _, h8⟩ := bind_ok.1 h7
      refine rep_all (q := fun v : Vl => v.to.length < 65536) (fun l a r ha => ?_) _ _ _ _ h8
      obtain ⟨_, _, _, ha⟩ := bind_ok.1 ha
      obtain ⟨_, _, _, ha⟩ := bind_ok.1 ha
      obtain ⟨_, _, _, ha⟩ := bind_ok.1 ha
      obtain ⟨_, _, _, ha⟩ := bind_ok.1 ha
      obtain ⟨_, _, _, ha⟩ := bind_ok.1 ha
      obtain ⟨to_, _, h9, ha⟩ := bind_ok.1 ha
      injection ha with ha
      injection ha with e1 e2
      subst e1
      exact (many_ok (fun l a r h => (u_ok h).1) h9).2
    refine ⟨h6, ?_, hto⟩
    unfold encode
    rw [if_neg (by omega), if_neg (by
      intro hh
      obtain ⟨p, hp, hd⟩ := List.any_eq_true.1 hh
      have := hports p hp
      have := of_decide_eq_true hd
      omega), ← hts, hs]
/-- An image of which one byte is another one is told by its sum. -/
theorem told {c : Cf} {s : List UInt8} (h : encode c = .ok s) (k : Nat) (hk : k < s.length) (v : UInt8) (hv : v ≠ s[k]) : load (s.set k v) = .error 12 := by
  unfold encode at h
  by_cases h1 : (check c).2.2 ≠ 0
  · rw [if_pos h1] at h; cases h
  rw [if_neg h1] at h
  by_cases h2 : c.ports.any (fun p => decide (4294967295 < p.id)) = true
  · rw [if_pos h2] at h; cases h
  rw [if_neg h2] at h
  injection h with h
  subst h
  have hlen : (sealed (magic ++ cfW c)).length = (magic ++ cfW c).length + 4 := Go.Proofs.PitotCrc.sealed_length _
  unfold load
  rw [if_neg (by rw [List.length_set]; omega), Go.Proofs.PitotCrc.opened_turn _ k hk v hv, if_pos rfl]
end Go.Proofs.PitotImg
/- Contracts of Ones (the program's and the document's). -/
namespace Go.Proofs.Ytdphapjeohkbjaa.Bi
open Go.RowKit Go.Proofs.PitotMath

theorem take_snoc (s : ByteArray) (k : Nat) (h : k < s.size) : s.data.toList.take (k + 1) = s.data.toList.take k ++ [s[k]] := by
  rw [List.take_succ_eq_append_getElem (by simpa using h)]; rfl

theorem ret_int {k : IntKind} {a b : Int} (h : a = b) : Ending.returned (.int k a) = .returned (.int k b) := by rw [h]
theorem val_int {k : IntKind} {a b : Int} (h : a = b) : Value.int k a = .int k b := by rw [h]

theorem s16_at (s : ByteArray) (k : Nat) (h : k < s.size) : s16 (s.data.toList.take (k + 1)) = s16 (s.data.toList.take k) + if k % 2 = 0 then 256 * s[k].toNat else s[k].toNat := by
  rw [take_snoc s k h, s16_snoc]
  have : (s.data.toList.take k).length = k := by simp; omega
  rw [this]

theorem s16_bd (s : ByteArray) (k : Nat) : s16 (s.data.toList.take k) ≤ 65280 * s.size := by
  have h := s16_le (s.data.toList.take k)
  have : (s.data.toList.take k).length ≤ s.size := by simp; omega
  exact Nat.le_trans h (Nat.mul_le_mul_left _ this)

theorem ones_even (s : ByteArray) (k : Nat) (hs : s.size ≤ 70000) (h : k < s.size) (he : ((k : Int) % 2 == 0) = true) :
    IntKind.u64.wrap ((s16 (s.data.toList.take k) : Nat) + IntKind.u64.wrap (IntKind.u64.wrap s[k].toNat * 256)) = (s16 (s.data.toList.take (k + 1)) : Nat) := by
  have h1 := s16_at s k h
  have h2 := s16_bd s k
  have h3 := s[k].toNat_lt
  rw [if_pos (by simp at he; omega)] at h1
  rw [h1, IntWalk.u64_in (s[k].toNat : Int) (by omega), IntWalk.u64_in (_ * 256) (by omega), IntWalk.u64_in _ (by omega)]
  omega

theorem ones_odd (s : ByteArray) (k : Nat) (hs : s.size ≤ 70000) (h : k < s.size) (he : ((k : Int) % 2 == 0) = false) :
    IntKind.u64.wrap ((s16 (s.data.toList.take k) : Nat) + IntKind.u64.wrap s[k].toNat) = (s16 (s.data.toList.take (k + 1)) : Nat) := by
  have h1 := s16_at s k h
  have h2 := s16_bd s k
  have h3 := s[k].toNat_lt
  rw [if_neg (by simp at he; omega)] at h1
  rw [h1, IntWalk.u64_in (s[k].toNat : Int) (by omega), IntWalk.u64_in _ (by omega)]
  omega

theorem and_ffff (m : Nat) (h : m ≤ 65280 * 70000) : bits .and .u64 (m : Int) 65535 = ((m % 65536 : Nat) : Int) := by
  rw [show (65535 : Int) = ((65535 : Nat) : Int) from rfl, u64_and_nat m 65535 (by omega) (by omega), show 65535 = 2 ^ 16 - 1 from rfl, Nat.and_two_pow_sub_one_eq_mod]

theorem fold_step (m : Nat) (h : m ≤ 65280 * 70000) : IntKind.u64.wrap ((m : Int) / 65536 + bits .and .u64 (m : Int) 65535) = ((m / 65536 + m % 65536 : Nat) : Int) := by
  rw [and_ffff m h, IntWalk.u64_in _ (by omega)]; omega

theorem not_16 (m : Nat) (h : m ≤ 65535) : wrap64 (bits .xor .u16 IntKind.u16.max (IntKind.u16.wrap m)) = ((65535 - m : Nat) : Int) := by
  rw [IntWalk.u16_in _ (by omega), show IntKind.u16.max = ((65535 : Nat) : Int) from by decide, u16_xor_nat 65535 m (by omega) (by omega)]
  have e : 65535 ^^^ m = 65535 - m := by
    have h1 : (BitVec.allOnes 16 ^^^ BitVec.ofNat 16 m).toNat = (~~~ (BitVec.ofNat 16 m)).toNat := by rw [BitVec.allOnes_xor]
    rw [BitVec.toNat_xor, BitVec.toNat_not, BitVec.toNat_allOnes, BitVec.toNat_ofNat, Nat.mod_eq_of_lt (by omega)] at h1
    exact h1
  rw [e, IntWalk.wrap64_in _ (by omega)]

theorem conv_one (w : World) (b : UInt8) (n : Int) (hn : n = b.toNat) :
    (convert 84 9 (.slice (some ⟨w.heap.size, 0, none⟩) 1 1)).run Try.prog (w.alloc (.cells #[.int .u8 n] 5)) = .ok (.string ⟨#[b]⟩) (w.alloc (.cells #[.int .u8 n] 5)) := by
  subst hn
  exact run_convert_bytes_back (P := Try.prog) (w.alloc (.cells #[.int .u8 b.toNat] 5)) 84 9 5 ⟨w.heap.size, 0, none⟩ 1 [b] Try.underlying84 Try.underlying5 Try.underlying9 (fun j hj => by
    obtain rfl : j = 0 := by simp at hj; omega
    exact World.cell?_alloc_mark w #[.int .u8 b.toNat] 5 (0, 0) 0)

theorem ref_step (s : ByteArray) (k : Nat) (hs : s.size ≤ 70000) (h : k + 1 < s.size) (he : k % 2 = 0) :
    wrap64 (wrap64 ((s16 (s.data.toList.take k) : Nat) + wrap64 (256 * wrap64 (s[k].toNat : Nat))) + wrap64 (s[k + 1].toNat : Nat)) = (s16 (s.data.toList.take (k + 2)) : Nat) := by
  have h1 := s16_at s k (by omega)
  have h1' : s16 (s.data.toList.take (k + 2)) = _ := s16_at s (k + 1) h
  have h2 := s16_bd s k
  have h3 := s[k].toNat_lt
  have h4 := s[k + 1].toNat_lt
  rw [if_pos he] at h1
  rw [if_neg (by omega)] at h1'
  rw [IntWalk.wrap64_in (s[k].toNat : Int) (by omega), IntWalk.wrap64_in (256 * _) (by omega), IntWalk.wrap64_in (s[k + 1].toNat : Int) (by omega), IntWalk.wrap64_in (_ + 256 * _) (by omega), IntWalk.wrap64_in _ (by omega)]
  omega

theorem snoc_zero (s : ByteArray) : (s ++ (⟨#[0]⟩ : ByteArray)).data.toList = s.data.toList ++ [0] := by simp

theorem snoc_size (s : ByteArray) : (s ++ (⟨#[0]⟩ : ByteArray)).size = s.size + 1 := by simp; rfl

end Go.Proofs.Ytdphapjeohkbjaa.Bi
/- Contracts of the program's Writer: together, has, spread, Text, fail, Bits. -/
namespace Go.Proofs.Ytdphapjeohkbjaa.Bi
open Go.RowKit Go.Proofs.PitotMath

/-- The sum of widths, one behind the other; none: one of them may not be. -/
def togGo : List Int → Int → Option Int
  | [], s => some s
  | x :: t, s => if x < 1 ∨ 32 - s < x then none else togGo t (s + x)

def okSum (s : Int) : Bool := s == 8 || s == 16 || s == 32

def togRes (l : List Int) : Int × Bool := match togGo l 0 with
  | none => (0, false)
  | some s => (s / 8, okSum s)

/-- A slice of ints: what it reads as; an address is known where it is not empty. -/
def IntsAt (w : World) (A : Option Addr) (xs : List Int) : Prop :=
  xs ≠ [] → ∃ b off, A = some ⟨b, off, none⟩ ∧ b < w.heap.size ∧ ∀ i (h : i < xs.length), w.cell? ⟨b, off + i, none⟩ = some (.int .i64 xs[i])

theorem IntsAt.get {w : World} {A : Option Addr} {xs : List Int} (h : IntsAt w A xs) {k : Nat} (hk : k < xs.length) :
    ∃ b off, A = some ⟨b, off, none⟩ ∧ b < w.heap.size ∧ w.cell? ⟨b, off + k, none⟩ = some (.int .i64 xs[k]) := by
  obtain ⟨b, off, h1, h2, h3⟩ := h (by intro e; subst e; simp at hk)
  exact ⟨b, off, h1, h2, h3 k hk⟩

theorem tog_cons {xs : List Int} {k : Nat} (hk : k < xs.length) (s : Int) : togGo (xs.drop k) s = if xs[k] < 1 ∨ 32 - s < xs[k] then none else togGo (xs.drop (k + 1)) (s + xs[k]) := by
  rw [List.drop_eq_getElem_cons hk]; rfl

theorem togRes_none {xs : List Int} (h : togGo xs 0 = none) : togRes xs = (0, false) := by unfold togRes; rw [h]
theorem togRes_some {xs : List Int} {s : Int} (h : togGo xs 0 = some s) : togRes xs = (s / 8, okSum s) := by unfold togRes; rw [h]

theorem tuple_ib {a b : Int} {c d : Bool} (h1 : a = b) (h2 : c = d) : Ending.returned (.tuple #[.int .i64 a, .bool c]) = .returned (.tuple #[.int .i64 b, .bool d]) := by rw [h1, h2]

set_option maxHeartbeats 400000 in
theorem together_any (A : Option Addr) (cap : Nat) (xs : List Int) (w : World) (hx : IntsAt w A xs) (hl : xs.length ≤ 1000000) :
    Calls Try.prog 80 #[.slice A xs.length cap] w fun e w' => e = .returned (.tuple #[.int .i64 (togRes xs).1, .bool (togRes xs).2]) ∧ w = w' := by
  obtain ⟨R, HR⟩ : ∃ R, Hid (R = togRes xs) := ⟨_, rfl⟩
  rw [← HR.out]
  obtain ⟨n, Hn⟩ : ∃ n, Hid (n = xs.length) := ⟨_, rfl⟩
  rw [← Hn.out] at hl ⊢
  go_enter Try.func80, Try.ntmps80
  go_wp2
  go_loop [4, 6, 9] (fun v4 _ v9 => ∃ (k : Nat) (s : Int), k ≤ n ∧ v9 = .int .i64 k ∧ v4 = .int .i64 s ∧ 0 ≤ s ∧ s ≤ 32 ∧ Hid (togGo (xs.drop k) s = togGo xs 0)) (fun _ _ v9 => n - (intOf v9).toNat)
  case atStart => exact ⟨0, 0, Nat.zero_le _, rfl, rfl, by omega, by omega, rfl⟩
  case round =>
    obtain ⟨k, s, hk, rfl, rfl, hs0, hs1, ht⟩ := hrel
    by_cases hlt : k < n
    · have hlt' : k < xs.length := by rw [← Hn.out]; exact hlt
      obtain ⟨b, off, rfl, _, hc⟩ := hx.get hlt'
      have hcs := tog_cons hlt' s
      obtain ⟨x, Hx⟩ : ∃ x, Hid (x = xs[k]) := ⟨xs[k], rfl⟩
      rw [← Hx.out] at hc hcs
      have HC := Lib.hid hcs
      clear hcs
      by_cases hg : x < 1 ∨ 32 - s < x
      · by_cases hg1 : x < 1
        · go_wp2
          go_ret2
          exact ⟨tuple_ib (by rw [HR.out, togRes_none (by rw [← ht.out, HC.out, if_pos hg])]) (by rw [HR.out, togRes_none (by rw [← ht.out, HC.out, if_pos hg])]), rfl⟩
        · have hg2 : 32 - s < x := by omega
          go_wp2
          go_ret2
          exact ⟨tuple_ib (by rw [HR.out, togRes_none (by rw [← ht.out, HC.out, if_pos hg])]) (by rw [HR.out, togRes_none (by rw [← ht.out, HC.out, if_pos hg])]), rfl⟩
      · go_wp2
        go_round
        case rel => exact ⟨k + 1, s + x, by omega, by go_num, rfl, by omega, by omega, by show togGo _ _ = _; rw [← ht.out, HC.out, if_neg hg]⟩
        case measure => simp [intOf]; omega
    · have hfin : Hid (togRes xs = (s / 8, okSum s)) := by
        show togRes xs = _
        refine togRes_some ?_
        rw [← ht.out, List.drop_of_length_le (by rw [← Hn.out]; omega)]; rfl
      go_wp2
      all_goals
        go_ret2
        refine ⟨?_, rfl⟩
        rw [HR.out, hfin.out]
        first | rfl | (have h8 : s = 8 := ‹_›; rw [h8]; rfl) | (have h8 : s = 16 := ‹_›; rw [h8]; rfl)

def fitsB (n x : Int) : Bool := decide (0 ≤ n ∧ n < 2 ^ x.toNat)

theorem fits_div {n x : Int} (h : 0 ≤ n) : (n / 2 ^ x.toNat == 0) = fitsB n x := by
  unfold fitsB
  have hp : (0 : Int) < 2 ^ x.toNat := Int.pow_pos (by omega)
  rw [Bool.eq_iff_iff]
  simp only [beq_iff_eq, decide_eq_true_eq]
  constructor
  · intro h0
    refine ⟨h, ?_⟩
    have := Int.emod_lt_of_pos n hp
    have := Int.mul_ediv_add_emod n (2 ^ x.toNat)
    rw [h0] at this
    omega
  · intro ⟨_, h1⟩
    exact Int.ediv_eq_zero_of_lt h h1

theorem ret_bool {a b : Bool} (h : a = b) : Ending.returned (.bool a) = .returned (.bool b) := by rw [h]

set_option maxHeartbeats 400000 in
theorem has_any (n x : Int) (w : World) (hx0 : 0 ≤ x) (hx1 : x ≤ 32) :
    Calls Try.prog 82 #[.int .i64 n, .int .i64 x] w fun e w' => e = .returned (.bool (fitsB n x)) ∧ w = w' := by
  by_cases hn : 0 ≤ n
  · go_enter Try.func82, Try.ntmps82
    go_wp2
    go_ret
    exact ⟨ret_bool (fits_div hn), rfl⟩
  · go_enter Try.func82, Try.ntmps82
    go_wp2
    go_ret
    exact ⟨ret_bool (by unfold fitsB; simp; omega), rfl⟩

/-- The cells of a row of bytes of which the first k are written. -/
def pc (l : List UInt8) (k : Nat) : List Value := (l.take k).map (fun c => Value.int .u8 c.toNat) ++ List.replicate (l.length - k) (.int .u8 0)

theorem pc_zero (l : List UInt8) : pc l 0 = List.replicate l.length (.int .u8 0) := by simp [pc]
theorem pc_length (l : List UInt8) (k : Nat) (h : k ≤ l.length) : (pc l k).length = l.length := by simp [pc]; omega
theorem pc_full (l : List UInt8) : pc l l.length = l.map (fun c => Value.int .u8 c.toNat) := by simp [pc]

theorem pc_at (l : List UInt8) (k : Nat) (h : k < l.length) : (pc l k)[k]? = some (.int .u8 0) := by
  unfold pc
  have hm : min k l.length = k := Nat.min_eq_left (Nat.le_of_lt h)
  rw [List.getElem?_append_right (by simp; omega)]
  simp only [List.length_map, List.length_take, hm, Nat.sub_self]
  rw [List.getElem?_replicate, if_pos (by omega)]

theorem pc_step (l : List UInt8) (k : Nat) (h : k < l.length) (v : Value) (hv : v = .int .u8 l[k].toNat) : (pc l k).set k v = pc l (k + 1) := by
  subst hv
  unfold pc
  rw [List.take_succ_eq_append_getElem h, List.map_append]
  obtain ⟨d, hd⟩ : ∃ d, l.length - k = d + 1 := ⟨l.length - k - 1, by omega⟩
  have hd' : l.length - (k + 1) = d := by omega
  rw [hd, hd', List.replicate_succ, List.set_append_right _ _ (by simp; omega)]
  simp [Nat.min_eq_left (Nat.le_of_lt h)]

theorem be_cell (m n k : Nat) (h : k < m) (h' : k < (be m n).length) : Value.int .u8 ((n : Int) / 2 ^ (8 * (m - 1 - k)) % 256) = .int .u8 ((be m n)[k]'h').toNat := by
  have e := be_get? m n k h
  rw [List.getElem?_eq_getElem h'] at e
  injection e with e
  rw [e]
  refine val_int ?_
  have hp : ((2 : Int) ^ (8 * (m - 1 - k))) = ((256 ^ (m - 1 - k) : Nat) : Int) := by rw [← pow_8]; simp
  rw [hp]
  simp

theorem Try.info5 : (Try.prog.info? 5).map (fun i => (i.zero, i.size, i.bytes)) = some (some (.int .u8 0), 1, 1) := by kernel_rfl

theorem make_bytes (l : List UInt8) (w : World) (m : Nat) (hm : m ≤ 1000000) (hl : l.length = m) :
    (Instr.makeSlice 84 (.int .i64 m) (.int .i64 m)).run Try.prog w = .ok (.slice (some ⟨w.heap.size, 0, none⟩) m m) (w.alloc (.cells (pc l 0).toArray 5)) := by
  obtain ⟨i, hi, hz0, hz1, hz2⟩ := info_parts Try.info5
  rw [run_make (P := Try.prog) w 84 5 i _ Try.underlying84 hi hz0 .i64 .i64 m m (by omega) (by omega) (by rw [hz2]; omega) (by omega)]
  have e : madeCells (Value.int .u8 0).cells (Int.toNat (m : Int) * i.size) = (pc l 0).toArray := by
    rw [← Array.toList_inj, hz1]
    show (madeCells #[Value.int .u8 0] _).toList = _
    rw [toList_madeCells_one, pc_zero, hl]
    simp
  rw [e]
  rfl

set_option maxHeartbeats 400000 in
theorem spread_any (n : Nat) (m : Nat) (w : World) (hm : m ≤ 4) (_hn : n < 4294967296) :
    Calls Try.prog 83 #[.int .u32 n, .int .i64 m] w fun e w' => e = .returned (.string ⟨(be m n).toArray⟩) ∧ Below w.heap.size w w' := by
  have hmk := fun w => make_bytes (be m n) w m (by omega) (be_length _ _)
  go_enter Try.func83, Try.ntmps83
  go_wp2
  clear hmk
  go_loopw [6, 11] (fun _ i wr => ∃ k : Nat, k ≤ m ∧ i = .int .i64 k ∧ wr = w.alloc (.cells (pc (be m n) k).toArray 5)) (fun _ i _ => m - (intOf i).toNat)
  case atStart => exact ⟨0, Nat.zero_le _, rfl, rfl⟩
  case round =>
    obtain ⟨k, hk, rfl, rfl⟩ := hrel
    by_cases hlt : k < m
    · have hl' : k < (be m n).length := by rw [be_length]; exact hlt
      have hpk := pc_at (be m n) k hl'
      go_wp2
      go_roundw
      case rel => exact ⟨k + 1, by omega, by go_num, by rw [pc_step _ k hl' _ (be_cell m n k hlt hl')]⟩
      case measure => simp [intOf]; omega
    · have hcv : (convert 84 9 (.slice (some ⟨w.heap.size, 0, none⟩) m m)).run Try.prog (w.alloc (.cells (pc (be m n) k).toArray 5)) = .ok (.string ⟨(be m n).toArray⟩) (w.alloc (.cells (pc (be m n) k).toArray 5)) := by
        have h := run_convert_bytes_back (P := Try.prog) (w.alloc (.cells (pc (be m n) k).toArray 5)) 84 9 5 ⟨w.heap.size, 0, none⟩ m (be m n) Try.underlying84 Try.underlying5 Try.underlying9 (fun j hj => by
          have e : (⟨w.heap.size, 0, none⟩ : Addr).add j = ⟨w.heap.size, j, none⟩ := by unfold Addr.add; split <;> simp_all
          rw [e, World.cell?_alloc_mark w _ 5 (0, 0) j, show k = (be m n).length by rw [be_length]; omega, pc_full]
          simp [hj])
        rw [be_length] at h
        exact h
      go_wp2
      go_ret
      exact ⟨rfl, (Below.refl _ _).alloc (Nat.le_refl _) _⟩
end Go.Proofs.Ytdphapjeohkbjaa.Bi
