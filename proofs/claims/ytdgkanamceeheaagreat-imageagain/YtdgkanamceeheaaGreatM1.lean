/- Networks, in plain words (chapter 10): what is wrong first with one, and what follows. It imports nothing of the program. -/
set_option linter.unusedVariables false
namespace Go.Proofs.PitotConf

structure Win where
  part : Int
  beg : Int
  long : Int
structure Vl where
  id : Int
  host : Int
  bag : Int
  smax : Int
  high : Bool
  subs : Int
  skew : Int
  to : List Int
structure Prt where
  id : Int
  host : Int
  part : Int
  kind : Int
  out : Bool
  vl : Int
  sub : Int
  udp : Int
  size : Int
  depth : Int
  fresh : Int
structure Cf where
  hosts : Int
  parts : List Int
  major : Int
  wins : List Win
  vls : List Vl
  ports : List Prt

/-- The first one of a list of which what is judged, behind those ahead of it, is not 0. -/
def scan {α : Type} (J : List α → α → Int) : List α → List α → Option (Nat × Int)
  | _, [] => none
  | pre, x :: r => if J pre x = 0 then scan J (pre ++ [x]) r else some (pre.length, J pre x)
section
variable {α : Type} {J : List α → α → Int}
theorem scan_none : ∀ (l pre : List α), scan J pre l = none ↔ ∀ i (h : i < l.length), J (pre ++ l.take i) l[i] = 0
  | [], pre => by simp [scan]
  | x :: r, pre => by
    rw [scan]
    by_cases h : J pre x = 0
    · rw [if_pos h, scan_none r (pre ++ [x])]
      constructor
      · intro H i hi
        cases i with
        | zero => simpa using h
        | succ i => simpa using H i (by simpa using hi)
      · intro H i hi
        have := H (i + 1) (Nat.succ_lt_succ hi)
        rw [List.append_assoc]
        exact this
    · rw [if_neg h]
      refine ⟨fun e => (by cases e), fun H => ?_⟩
      have := H 0 (Nat.succ_pos _)
      rw [List.take_zero, List.append_nil] at this
      exact absurd this h
theorem scan_some : ∀ (l pre : List α) (n : Nat) (e : Int), scan J pre l = some (n, e) ↔ ∃ i, ∃ h : i < l.length, n = pre.length + i ∧ e = J (pre ++ l.take i) l[i] ∧ e ≠ 0 ∧ ∀ k (hk : k < i), J (pre ++ l.take k) (l[k]'(Nat.lt_trans hk h)) = 0
  | [], pre, n, e => by simp [scan]
  | x :: r, pre, n, e => by
    rw [scan]
    by_cases h : J pre x = 0
    · rw [if_pos h, scan_some r (pre ++ [x]) n e]
      constructor
      · rintro ⟨i, hi, h1, h2, h3, h4⟩
        refine ⟨i + 1, by simpa using hi, by simp at h1; omega, by simpa using h2, h3, fun k hk => ?_⟩
        cases k with
        | zero => simpa using h
        | succ k => simpa using h4 k (by omega)
      · rintro ⟨i, hi, h1, h2, h3, h4⟩
        cases i with
        | zero => exact absurd (by simpa [h] using h2) h3
        | succ i =>
          refine ⟨i, by simpa using hi, by simp; omega, by simpa using h2, h3, fun k hk => ?_⟩
          simpa using h4 (k + 1) (by omega)
    · rw [if_neg h]
      constructor
      · intro H
        injection H with H
        injection H with h1 h2
        exact ⟨0, by simp, by simp [h1], by simpa using h2.symm, by rw [← h2]; exact h, fun k hk => by omega⟩
      · rintro ⟨i, hi, h1, h2, h3, h4⟩
        cases i with
        | zero => simp at h1 h2; simp [h1, h2]
        | succ i => exact absurd (by simpa using h4 0 (by omega)) h
/-- What is wrong first is wrong first without what is behind it. -/
theorem scan_cut {l : List α} {n : Nat} {e : Int} (h : scan J [] l = some (n, e)) : n < l.length ∧ e ≠ 0 ∧ scan J [] (l.take (n + 1)) = some (n, e) := by
  rw [scan_some] at h
  obtain ⟨i, hi, h1, h2, h3, h4⟩ := h
  have h1 : n = i := by simpa using h1
  subst h1
  refine ⟨hi, h3, ?_⟩
  rw [scan_some]
  refine ⟨n, by simp; omega, by simp, ?_, h3, fun k hk => ?_⟩
  · rw [List.getElem_take, List.take_take, Nat.min_eq_left (by omega)]
    exact h2
  · rw [List.getElem_take, List.take_take, Nat.min_eq_left (by omega)]
    exact h4 k hk
theorem scan_mono {J' : List α → α → Int} {l : List α} (hJ : ∀ i (h : i < l.length), J (l.take i) l[i] = 0 → J' (l.take i) l[i] = 0) (h : scan J [] l = none) : scan J' [] l = none := by
  rw [scan_none] at h ⊢
  intro i hi
  simpa using hJ i hi (by simpa using h i hi)
end

/-- The host of a partition, if it is one. -/
def hostOf (parts : List Int) (n : Int) : Option Int := if 0 ≤ n then parts[n.toNat]? else none
def isHost (hosts n : Int) : Bool := decide (0 ≤ n) && decide (n < hosts)
def partJ (hosts : Int) (pre : List Int) (h : Int) : Int := if 64 ≤ pre.length ∨ isHost hosts h = false then 1 else 0
/-- Where the last one ends of the windows of a host. -/
def endOf (parts : List Int) (h : Option Int) : List Win → Int → Int
  | [], e => e
  | w :: r, e => endOf parts h r (if hostOf parts w.part = h then w.beg + w.long else e)
def winJ (parts : List Int) (major : Int) (pre : List Win) (w : Win) : Int :=
  if 256 ≤ pre.length ∨ hostOf parts w.part = none ∨ w.beg < 0 ∨ w.long < 1 ∨ major < w.beg + w.long then 1
  else if w.beg < endOf parts (hostOf parts w.part) pre 0 then 25 else 0
/-- Does a list rise? -/
def rises : List Int → Bool
  | [] => true
  | [_] => true
  | a :: b :: r => decide (a < b) && rises (b :: r)
def linkJ (hosts : Int) (pre : List Vl) (v : Vl) : Int :=
  if 256 ≤ pre.length ∨ v.id < 1 ∨ 65535 < v.id ∨ isHost hosts v.host = false ∨ v.bag < 0 ∨ 7 < v.bag ∨ v.smax < 64 ∨ 1518 < v.smax ∨ v.subs < 1 ∨ 4 < v.subs ∨ v.skew < 0 ∨ 1073741824 < v.skew ∨ v.to = [] then 1
  else if (match pre.getLast? with | some u => decide (v.id ≤ u.id) | none => false) = true ∨ rises v.to = false then 25
  else if v.to.any (fun t => !isHost hosts t || decide (t = v.host)) = true then 20 else 0
def vlOf (vls : List Vl) (id : Int) : Option Vl := vls.find? fun v => decide (v.id = id)
def portOf (ports : List Prt) (id : Int) : Option Prt := ports.find? fun p => decide (p.id = id)
def portJ (parts : List Int) (vls : List Vl) (pre : List Prt) (p : Prt) : Int :=
  if 512 ≤ pre.length ∨ p.id < 1 ∨ (p.kind ≠ 1 ∧ p.kind ≠ 2) ∨ hostOf parts p.part = none ∨ p.udp < 0 ∨ 65535 < p.udp ∨ p.size < 1 ∨ 8192 < p.size then 1
  else if (match pre.getLast? with | some q => decide (p.id ≤ q.id) | none => false) = true then 25
  else if hostOf parts p.part ≠ some p.host then 20
  else match vlOf vls p.vl with
  | none => 20
  | some v =>
    if (p.out = true ∧ v.host ≠ p.host) ∨ (p.out = false ∧ v.to.contains p.host = false) then 20
    else if p.sub < 0 ∨ (p.out = true ∧ v.subs ≤ p.sub) ∨ (p.out = false ∧ p.sub ≠ 0) then 1
    else if p.kind = 2 ∧ (p.depth < 1 ∨ 64 < p.depth ∨ p.fresh ≠ 0) then 1
    else if p.kind = 1 ∧ (p.depth ≠ 0 ∨ (p.out = true ∧ p.fresh ≠ 0) ∨ (p.out = false ∧ (p.fresh < 1 ∨ 1099511627776 < p.fresh))) then 1
    else if p.kind = 1 ∧ v.smax - 47 < p.size then 11
    else if pre.any (fun q => decide (q.host = p.host) && decide (q.out = p.out) && decide (q.vl = p.vl) && decide (q.udp = p.udp)) = true then 21 else 0
def jitter (vls : List Vl) (h : Int) : Int := vls.foldl (fun n v => if v.host = h then n + v.smax + 20 else n) 500
def jitF (vls : List Vl) (hosts : Int) : Option Nat := (List.range hosts.toNat).find? fun (h : Nat) => decide (6250 < jitter vls (h : Int))
/-- What is wrong first with a network: of what, which one, and why. -/
def check (c : Cf) : Int × Int × Int :=
  if c.hosts < 1 ∨ 64 < c.hosts then (1, 0, 1)
  else match scan (partJ c.hosts) [] c.parts with
  | some (i, e) => (2, i, e)
  | none =>
    if c.major < 1 ∨ 1073741824 < c.major then (3, 0, 1)
    else match scan (winJ c.parts c.major) [] c.wins with
    | some (i, e) => (4, i, e)
    | none => match scan (linkJ c.hosts) [] c.vls with
      | some (i, e) => (5, i, e)
      | none => match scan (portJ c.parts c.vls) [] c.ports with
        | some (i, e) => (6, i, e)
        | none => match jitF c.vls c.hosts with
          | some h => (7, h, 26)
          | none => (0, 0, 0)
/-- A network that may be. -/
structure May (c : Cf) : Prop where
  hosts : 1 ≤ c.hosts ∧ c.hosts ≤ 64
  parts : scan (partJ c.hosts) [] c.parts = none
  major : 1 ≤ c.major ∧ c.major ≤ 1073741824
  wins : scan (winJ c.parts c.major) [] c.wins = none
  vls : scan (linkJ c.hosts) [] c.vls = none
  ports : scan (portJ c.parts c.vls) [] c.ports = none
  jit : jitF c.vls c.hosts = none
theorem May.check {c : Cf} (h : May c) : check c = (0, 0, 0) := by
  have h1 := h.hosts
  have h2 := h.major
  unfold PitotConf.check
  rw [if_neg (by omega), h.parts]
  simp only
  rw [if_neg (by omega), h.wins, h.vls, h.ports, h.jit]
theorem check_may {c : Cf} (h : (check c).2.2 = 0) : May c := by
  unfold check at h
  by_cases h1 : c.hosts < 1 ∨ 64 < c.hosts
  · rw [if_pos h1] at h; simp at h
  · rw [if_neg h1] at h
    cases hp : scan (partJ c.hosts) [] c.parts with
    | some x => obtain ⟨i, e⟩ := x; rw [hp] at h; exact absurd h (scan_cut hp).2.1
    | none =>
      rw [hp] at h
      simp only at h
      by_cases h2 : c.major < 1 ∨ 1073741824 < c.major
      · rw [if_pos h2] at h; simp at h
      · rw [if_neg h2] at h
        cases hw : scan (winJ c.parts c.major) [] c.wins with
        | some x => obtain ⟨i, e⟩ := x; rw [hw] at h; exact absurd h (scan_cut hw).2.1
        | none =>
          rw [hw] at h
          simp only at h
          cases hv : scan (linkJ c.hosts) [] c.vls with
          | some x => obtain ⟨i, e⟩ := x; rw [hv] at h; exact absurd h (scan_cut hv).2.1
          | none =>
            rw [hv] at h
            simp only at h
            cases hq : scan (portJ c.parts c.vls) [] c.ports with
            | some x => obtain ⟨i, e⟩ := x; rw [hq] at h; exact absurd h (scan_cut hq).2.1
            | none =>
              rw [hq] at h
              simp only at h
              cases hj : jitF c.vls c.hosts with
              | some x => rw [hj] at h; simp at h
              | none => exact ⟨by omega, hp, by omega, hw, hv, hq, hj⟩
/-! ### P10.4, the Jitter -/
theorem jitter_snoc (l : List Vl) (v : Vl) (h : Int) : jitter (l ++ [v]) h = if v.host = h then jitter l h + v.smax + 20 else jitter l h := by
  simp [jitter, List.foldl_append]
theorem jitter_none {l : List Vl} {h : Int} (H : ∀ v ∈ l, v.host ≠ h) : jitter l h = 500 := by
  unfold jitter
  induction l with
  | nil => rfl
  | cons v r ih =>
    simp only [List.foldl_cons]
    rw [if_neg (H v (List.mem_cons_self ..))]
    exact ih fun u hu => H u (List.mem_cons_of_mem _ hu)
theorem jitter_le {l : List Vl} (H : ∀ v ∈ l, v.smax ≤ 10000) (H0 : ∀ v ∈ l, 0 ≤ v.smax) (h : Int) : 500 ≤ jitter l h ∧ jitter l h ≤ 500 + l.length * 10020 := by
  have key : ∀ (l : List Vl), (∀ v ∈ l, v.smax ≤ 10000) → (∀ v ∈ l, 0 ≤ v.smax) → ∀ a : Int, a ≤ l.foldl (fun n v => if v.host = h then n + v.smax + 20 else n) a ∧ l.foldl (fun n v => if v.host = h then n + v.smax + 20 else n) a ≤ a + l.length * 10020 := by
    intro l
    induction l with
    | nil => intro _ _ a; simp
    | cons v r ih =>
      intro H H0 a
      have h1 := H v (List.mem_cons_self ..)
      have h2 := H0 v (List.mem_cons_self ..)
      simp only [List.foldl_cons, List.length_cons]
      have := ih (fun u hu => H u (List.mem_cons_of_mem _ hu)) (fun u hu => H0 u (List.mem_cons_of_mem _ hu)) (if v.host = h then a + v.smax + 20 else a)
      by_cases e : v.host = h
      · rw [if_pos e] at this ⊢; omega
      · rw [if_neg e] at this ⊢; omega
  exact key l H H0 500

/-! ### What is wrong is told first -/
def bare (c : Cf) : Cf := ⟨c.hosts, c.parts, c.major, [], [], []⟩
/-- The network without what is behind its fault. -/
def upto (c : Cf) (what at_ : Int) : Cf :=
  if what = 4 then ⟨c.hosts, c.parts, c.major, c.wins.take (at_.toNat + 1), [], []⟩
  else if what = 5 then ⟨c.hosts, c.parts, c.major, c.wins, c.vls.take (at_.toNat + 1), []⟩
  else if what = 6 then ⟨c.hosts, c.parts, c.major, c.wins, c.vls, c.ports.take (at_.toNat + 1)⟩
  else if what = 7 then c else bare c
/-! ### Of a network that may be -/
theorem ite0 {c : Prop} [Decidable c] {a b : Int} (ha : a ≠ 0) (h : (if c then a else b) = 0) : ¬ c ∧ b = 0 := by
  by_cases hc : c
  · rw [if_pos hc] at h; exact absurd h ha
  · rw [if_neg hc] at h; exact ⟨hc, h⟩
theorem ite_0 {c : Prop} [Decidable c] {a b : Int} (hc : ¬ c) (h : b = 0) : (if c then a else b) = 0 := by rw [if_neg hc]; exact h
theorem isHost_iff {hosts n : Int} : isHost hosts n = true ↔ 0 ≤ n ∧ n < hosts := by simp [isHost]
theorem May.link {c : Cf} (h : May c) {v : Vl} (hv : v ∈ c.vls) : 0 ≤ v.host ∧ v.host < c.hosts ∧ 64 ≤ v.smax ∧ v.smax ≤ 1518 ∧ ∀ t ∈ v.to, 0 ≤ t ∧ t < c.hosts ∧ t ≠ v.host := by
  obtain ⟨i, hi, rfl⟩ := List.mem_iff_getElem.1 hv
  have := (scan_none _ _).1 h.vls i hi
  unfold linkJ at this
  obtain ⟨g1, this⟩ := ite0 (by decide) this
  obtain ⟨_, this⟩ := ite0 (by decide) this
  obtain ⟨g3, _⟩ := ite0 (by decide) this
  simp only [not_or] at g1
  obtain ⟨_, _, _, g, _, _, g5, g6, _⟩ := g1
  have hh : isHost c.hosts c.vls[i].host = true := by simpa using g
  rw [isHost_iff] at hh
  refine ⟨hh.1, hh.2, by omega, by omega, fun t ht => ?_⟩
  have g3 : (c.vls[i].to.any fun t => !isHost c.hosts t || decide (t = c.vls[i].host)) = false := by
    cases hb : (c.vls[i].to.any fun t => !isHost c.hosts t || decide (t = c.vls[i].host)) with
    | true => exact absurd hb g3
    | false => rfl
  rw [List.any_eq_false] at g3
  have := g3 t ht
  simp only [Bool.or_eq_true, Bool.not_eq_true', decide_eq_true_eq, not_or] at this
  have h1 : isHost c.hosts t = true := by simpa using this.1
  rw [isHost_iff] at h1
  exact ⟨h1.1, h1.2, this.2⟩
theorem jitF_none {vls : List Vl} {hosts : Int} : jitF vls hosts = none ↔ ∀ h : Nat, (h : Int) < hosts → jitter vls h ≤ 6250 := by
  unfold jitF
  rw [List.find?_eq_none]
  constructor
  · intro H h hh
    have := H h (List.mem_range.2 (by omega))
    simp only [decide_eq_true_eq] at this
    omega
  · intro H h hh
    rw [List.mem_range] at hh
    have := H h (by omega)
    simp only [decide_eq_true_eq]
    omega
theorem isHost_more {hosts n : Int} (h : isHost hosts n = true) : isHost (hosts + 1) n = true := by
  rw [isHost_iff] at h ⊢; omega
/-- With one host more. -/
theorem May.more {c : Cf} (h : May c) (hl : c.hosts < 64) : May ⟨c.hosts + 1, c.parts, c.major, c.wins, c.vls, c.ports⟩ ∧ jitter c.vls c.hosts = 500 ∧ (∀ v ∈ c.vls, v.host ≠ c.hosts) ∧ (∀ v ∈ c.vls, c.hosts ∉ v.to) := by
  have hh := h.hosts
  have hno : ∀ v ∈ c.vls, v.host ≠ c.hosts := fun v hv e => by have := (h.link hv).2.1; omega
  have hj := jitter_none hno
  refine ⟨⟨⟨by show 1 ≤ c.hosts + 1; omega, by show c.hosts + 1 ≤ 64; omega⟩, scan_mono (fun i hi e => ?_) h.parts, h.major, h.wins, scan_mono (fun i hi e => ?_) h.vls, h.ports, ?_⟩, hj, hno, fun v hv hm => ?_⟩
  · unfold partJ at e ⊢
    obtain ⟨g, _⟩ := ite0 (by decide) e
    simp only [not_or, Bool.not_eq_false] at g
    refine ite_0 ?_ rfl
    simp only [not_or, Bool.not_eq_false]
    exact ⟨g.1, isHost_more g.2⟩
  · have hi : i < c.vls.length := hi
    have hlk := h.link (List.getElem_mem hi)
    have hto : (c.vls[i].to.any fun t => !isHost (c.hosts + 1) t || decide (t = c.vls[i].host)) = false := by
      rw [List.any_eq_false]
      intro t ht
      have := hlk.2.2.2.2 t ht
      have h1 : isHost (c.hosts + 1) t = true := isHost_iff.2 (by omega)
      rw [h1]
      simpa using this.2.2
    have hH : isHost (c.hosts + 1) c.vls[i].host = true := isHost_iff.2 (by omega)
    have hH0 : isHost c.hosts c.vls[i].host = true := isHost_iff.2 (by omega)
    unfold linkJ at e ⊢
    obtain ⟨g1, e⟩ := ite0 (by decide) e
    obtain ⟨g2, e⟩ := ite0 (by decide) e
    refine ite_0 ?_ (ite_0 g2 (ite_0 ?_ rfl))
    · intro g
      apply g1
      rw [hH0]
      show _ ∨ _
      have g : 256 ≤ (List.take i c.vls).length ∨ c.vls[i].id < 1 ∨ 65535 < c.vls[i].id ∨ isHost (c.hosts + 1) c.vls[i].host = false ∨ c.vls[i].bag < 0 ∨ 7 < c.vls[i].bag ∨ c.vls[i].smax < 64 ∨ 1518 < c.vls[i].smax ∨ c.vls[i].subs < 1 ∨ 4 < c.vls[i].subs ∨ c.vls[i].skew < 0 ∨ 1073741824 < c.vls[i].skew ∨ c.vls[i].to = [] := g
      rw [hH] at g
      exact g
    · intro g
      have g : (c.vls[i].to.any fun t => !isHost (c.hosts + 1) t || decide (t = c.vls[i].host)) = true := g
      rw [hto] at g
      cases g
  · have hj2 := h.jit
    rw [jitF_none] at hj2 ⊢
    intro k hk
    by_cases e : (k : Int) < c.hosts
    · exact hj2 k e
    · have : (k : Int) = c.hosts := by have hk : (k : Int) < c.hosts + 1 := hk; omega
      show jitter c.vls k ≤ 6250
      rw [this, hj]; omega
  · have := (h.link hv).2.2.2.2 _ hm
    omega

/-! ### P10.5, what follows -/
theorem mem_take_lt {α : Type} {l : List α} {i : Nat} (h : i < l.length) (J : List α → α → Int) (hs : scan J [] l = none) : J (l.take i) l[i] = 0 := (scan_none l []).1 hs i h
theorem vlOf_some {vls : List Vl} {id : Int} {v : Vl} (h : vlOf vls id = some v) : v ∈ vls ∧ v.id = id := ⟨List.mem_of_find?_eq_some h, by simpa using List.find?_some h⟩
/-- What is so of a port of a network that may be. -/
theorem May.port {c : Cf} (h : May c) {p : Prt} (hp : p ∈ c.ports) : ∃ v, vlOf c.vls p.vl = some v ∧ hostOf c.parts p.part = some p.host ∧ (p.out = true → v.host = p.host) ∧ (p.out = false → p.host ∈ v.to) ∧ (p.kind = 1 → p.size + 47 ≤ v.smax) ∧ 1 ≤ p.size ∧ p.size ≤ 8192 := by
  obtain ⟨i, hi, rfl⟩ := List.mem_iff_getElem.1 hp
  have := mem_take_lt hi _ h.ports
  unfold portJ at this
  obtain ⟨g1, this⟩ := ite0 (by decide) this
  obtain ⟨_, this⟩ := ite0 (by decide) this
  obtain ⟨g3, this⟩ := ite0 (by decide) this
  cases hv : vlOf c.vls c.ports[i].vl with
  | none => rw [hv] at this; simp at this
  | some v =>
    rw [hv] at this
    simp only at this
    obtain ⟨g4, this⟩ := ite0 (by decide) this
    obtain ⟨_, this⟩ := ite0 (by decide) this
    obtain ⟨_, this⟩ := ite0 (by decide) this
    obtain ⟨_, this⟩ := ite0 (by decide) this
    obtain ⟨g8, _⟩ := ite0 (by decide) this
    simp only [not_or] at g1
    refine ⟨v, rfl, Classical.byContradiction fun hh => g3 hh, fun ho => Classical.byContradiction fun hh => g4 (.inl ⟨ho, hh⟩), fun ho => ?_, fun hk => ?_, by omega, by omega⟩
    · have : ¬ (v.to.contains c.ports[i].host = false) := fun hh => g4 (.inr ⟨ho, hh⟩)
      simpa using this
    · have : ¬ (v.smax - 47 < c.ports[i].size) := fun hh => g8 ⟨hk, hh⟩
      omega
theorem endOf_snoc (parts : List Int) (h : Option Int) (l : List Win) (w : Win) (e : Int) : endOf parts h (l ++ [w]) e = if hostOf parts w.part = h then w.beg + w.long else endOf parts h l e := by
  induction l generalizing e with
  | nil => rfl
  | cons x r ih => exact ih _
theorem hostOf_some {parts : List Int} {n : Int} (h : hostOf parts n ≠ none) : 0 ≤ n ∧ n < parts.length := by
  unfold hostOf at h
  by_cases e : 0 ≤ n
  · rw [if_pos e] at h
    refine ⟨e, ?_⟩
    have h2 : ¬ parts.length ≤ n.toNat := fun hl => h (List.getElem?_eq_none hl)
    omega
  · rw [if_neg e] at h; exact absurd rfl h
theorem May.win {c : Cf} (h : May c) (i : Nat) (hi : i < c.wins.length) : hostOf c.parts c.wins[i].part ≠ none ∧ 0 ≤ c.wins[i].beg ∧ 1 ≤ c.wins[i].long ∧ c.wins[i].beg + c.wins[i].long ≤ c.major ∧ endOf c.parts (hostOf c.parts c.wins[i].part) (c.wins.take i) 0 ≤ c.wins[i].beg := by
  have := mem_take_lt hi _ h.wins
  unfold winJ at this
  obtain ⟨g1, this⟩ := ite0 (by decide) this
  obtain ⟨g2, _⟩ := ite0 (by decide) this
  simp only [not_or] at g1
  exact ⟨g1.2.1, by omega, by omega, by omega, by omega⟩
/-! ### P10.4, rising lists -/
/-- A number is put into a list that rises, if it is not there. -/
def ins (l : List Int) (n : Int) : List Int := l.filter (fun x => decide (x < n)) ++ n :: l.filter (fun x => decide (n < x))
abbrev Rising (l : List Int) : Prop := l.Pairwise (· < ·)
def gatherIds (vls : List Vl) (f : Vl → Bool) : List Int := (vls.filter f).foldl (fun l v => ins l v.id) []
end Go.Proofs.PitotConf
