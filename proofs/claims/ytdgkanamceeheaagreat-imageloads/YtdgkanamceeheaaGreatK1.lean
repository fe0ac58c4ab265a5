/- Networks, in plain words (chapter 10): what is wrong first with one, and what follows. It imports nothing of the program. Plain facts on sums of 16 bits over lists of bytes. No conditions. Plain facts on the check sum of 32 bits over lists of bytes. No conditions. -/
set_option linter.unusedVariables false
namespace Go.Proofs.PitotConf
structure Win where
  part : Int
  beg : Int
  long : Int
structure Vl where
  id : Int
  host : Int
  bag : Int
  smax : Int
  high : Bool
  subs : Int
  skew : Int
  to : List Int
structure Prt where
  id : Int
  host : Int
  part : Int
  kind : Int
  out : Bool
  vl : Int
  sub : Int
  udp : Int
  size : Int
  depth : Int
  fresh : Int
structure Cf where
  hosts : Int
  parts : List Int
  major : Int
  wins : List Win
  vls : List Vl
  ports : List Prt
def scan {α : Type} (J : List α → α → Int) : List α → List α → Option (Nat × Int)
  | _,[] => none
  | pre,x :: r => if J pre x = 0 then scan J (pre ++ [x]) r else some (pre.length,J pre x)
section
variable {α : Type} {J : List α → α → Int}
theorem scan_none : ∀ (l pre : List α),scan J pre l = none ↔ ∀ i (h : i < l.length),J (pre ++ l.take i) l[i] = 0
  | [],pre => by simp [scan]
  | x :: r,pre => by
    rw [scan]
    by_cases h : J pre x = 0
    · rw [if_pos h,scan_none r (pre ++ [x])]
      constructor
      · intro H i hi
        cases i with
        | zero => simpa using h
        | succ i => simpa using H i (by simpa using hi)
      · intro H i hi
        have := H (i + 1) (Nat.succ_lt_succ hi)
        rw [List.append_assoc]
        exact this
    · rw [if_neg h]
      refine ⟨fun e => (by cases e),fun H => ?_⟩
      have := H 0 (Nat.succ_pos _)
      rw [List.take_zero,List.append_nil] at this
      exact absurd this h
theorem scan_some : ∀ (l pre : List α) (n : Nat) (e : Int),scan J pre l = some (n,e) ↔ ∃ i,∃ h : i < l.length,n = pre.length + i ∧ e = J (pre ++ l.take i) l[i] ∧ e ≠ 0 ∧ ∀ k (hk : k < i),J (pre ++ l.take k) (l[k]'(Nat.lt_trans hk h)) = 0
  | [],pre,n,e => by simp [scan]
  | x :: r,pre,n,e => by
    rw [scan]
    by_cases h : J pre x = 0
    · rw [if_pos h,scan_some r (pre ++ [x]) n e]
      constructor
      · rintro ⟨i,hi,h1,h2,h3,h4⟩
        refine ⟨i + 1,by simpa using hi,by simp at h1;omega,by simpa using h2,h3,fun k hk => ?_⟩
        cases k with
        | zero => simpa using h
        | succ k => simpa using h4 k (by omega)
      · rintro ⟨i,hi,h1,h2,h3,h4⟩
        cases i with
        | zero => exact absurd (by simpa [h] using h2) h3
        | succ i =>
          refine ⟨i,by simpa using hi,by simp;omega,by simpa using h2,h3,fun k hk => ?_⟩
          simpa using h4 (k + 1) (by omega)
    · rw [if_neg h]
      constructor
      · intro H
        injection H with H
        injection H with h1 h2
        exact ⟨0,by simp,by simp [h1],by simpa using h2.symm,by rw [← h2];exact h,fun k hk => by omega⟩
      · rintro ⟨i,hi,h1,h2,h3,h4⟩
        cases i with
        | zero => simp at h1 h2;simp [h1,h2]
        | succ i => exact absurd (by simpa using h4 0 (by omega)) h
theorem scan_cut {l : List α} {n : Nat} {e : Int} (h : scan J [] l = some (n,e)) : n < l.length ∧ e ≠ 0 ∧ scan J [] (l.take (n + 1)) = some (n,e) := by
  rw [scan_some] at h
  obtain ⟨i,hi,h1,h2,h3,h4⟩ := h
  have h1 : n = i := by simpa using h1
  subst h1
  refine ⟨hi,h3,?_⟩
  rw [scan_some]
  refine ⟨n,by simp;omega,by simp,?_,h3,fun k hk => ?_⟩
  · rw [List.getElem_take,List.take_take,Nat.min_eq_left (by omega)]
    exact h2
  · rw [List.getElem_take,List.take_take,Nat.min_eq_left (by omega)]
    exact h4 k hk
theorem scan_mono {J' : List α → α → Int} {l : List α} (hJ : ∀ i (h : i < l.length),J (l.take i) l[i] = 0 → J' (l.take i) l[i] = 0) (h : scan J [] l = none) : scan J' [] l = none := by
  rw [scan_none] at h ⊢
  intro i hi
  simpa using hJ i hi (by simpa using h i hi)
end
def hostOf (parts : List Int) (n : Int) : Option Int := if 0 ≤ n then parts[n.toNat]? else none
def isHost (hosts n : Int) : Bool := decide (0 ≤ n) && decide (n < hosts)
def partJ (hosts : Int) (pre : List Int) (h : Int) : Int := if 64 ≤ pre.length ∨ isHost hosts h = false then 1 else 0
def endOf (parts : List Int) (h : Option Int) : List Win → Int → Int
  | [],e => e
  | w :: r,e => endOf parts h r (if hostOf parts w.part = h then w.beg + w.long else e)
def winJ (parts : List Int) (major : Int) (pre : List Win) (w : Win) : Int :=
  if 256 ≤ pre.length ∨ hostOf parts w.part = none ∨ w.beg < 0 ∨ w.long < 1 ∨ major < w.beg + w.long then 1
  else if w.beg < endOf parts (hostOf parts w.part) pre 0 then 25 else 0
def rises : List Int → Bool
  | [] => true
  | [_] => true
  | a :: b :: r => decide (a < b) && rises (b :: r)
def linkJ (hosts : Int) (pre : List Vl) (v : Vl) : Int :=
  if 256 ≤ pre.length ∨ v.id < 1 ∨ 65535 < v.id ∨ isHost hosts v.host = false ∨ v.bag < 0 ∨ 7 < v.bag ∨ v.smax < 64 ∨ 1518 < v.smax ∨ v.subs < 1 ∨ 4 < v.subs ∨ v.skew < 0 ∨ 1073741824 < v.skew ∨ v.to = [] then 1
  else if (match pre.getLast? with | some u => decide (v.id ≤ u.id) | none => false) = true ∨ rises v.to = false then 25
  else if v.to.any (fun t => !isHost hosts t || decide (t = v.host)) = true then 20 else 0
def vlOf (vls : List Vl) (id : Int) : Option Vl := vls.find? fun v => decide (v.id = id)
def portJ (parts : List Int) (vls : List Vl) (pre : List Prt) (p : Prt) : Int :=
  if 512 ≤ pre.length ∨ p.id < 1 ∨ (p.kind ≠ 1 ∧ p.kind ≠ 2) ∨ hostOf parts p.part = none ∨ p.udp < 0 ∨ 65535 < p.udp ∨ p.size < 1 ∨ 8192 < p.size then 1
  else if (match pre.getLast? with | some q => decide (p.id ≤ q.id) | none => false) = true then 25
  else if hostOf parts p.part ≠ some p.host then 20
  else match vlOf vls p.vl with
  | none => 20
  | some v =>
    if (p.out = true ∧ v.host ≠ p.host) ∨ (p.out = false ∧ v.to.contains p.host = false) then 20
    else if p.sub < 0 ∨ (p.out = true ∧ v.subs ≤ p.sub) ∨ (p.out = false ∧ p.sub ≠ 0) then 1
    else if p.kind = 2 ∧ (p.depth < 1 ∨ 64 < p.depth ∨ p.fresh ≠ 0) then 1
    else if p.kind = 1 ∧ (p.depth ≠ 0 ∨ (p.out = true ∧ p.fresh ≠ 0) ∨ (p.out = false ∧ (p.fresh < 1 ∨ 1099511627776 < p.fresh))) then 1
    else if p.kind = 1 ∧ v.smax - 47 < p.size then 11
    else if pre.any (fun q => decide (q.host = p.host) && decide (q.out = p.out) && decide (q.vl = p.vl) && decide (q.udp = p.udp)) = true then 21 else 0
def jitter (vls : List Vl) (h : Int) : Int := vls.foldl (fun n v => if v.host = h then n + v.smax + 20 else n) 500
def jitF (vls : List Vl) (hosts : Int) : Option Nat := (List.range hosts.toNat).find? fun (h : Nat) => decide (6250 < jitter vls (h : Int))
def check (c : Cf) : Int × Int × Int :=
  if c.hosts < 1 ∨ 64 < c.hosts then (1,0,1)
  else match scan (partJ c.hosts) [] c.parts with
  | some (i,e) => (2,i,e)
  | none =>
    if c.major < 1 ∨ 1073741824 < c.major then (3,0,1)
    else match scan (winJ c.parts c.major) [] c.wins with
    | some (i,e) => (4,i,e)
    | none => match scan (linkJ c.hosts) [] c.vls with
      | some (i,e) => (5,i,e)
      | none => match scan (portJ c.parts c.vls) [] c.ports with
        | some (i,e) => (6,i,e)
        | none => match jitF c.vls c.hosts with
          | some h => (7,h,26)
          | none => (0,0,0)
structure May (c : Cf) : Prop where
  hosts : 1 ≤ c.hosts ∧ c.hosts ≤ 64
  parts : scan (partJ c.hosts) [] c.parts = none
  major : 1 ≤ c.major ∧ c.major ≤ 1073741824
  wins : scan (winJ c.parts c.major) [] c.wins = none
  vls : scan (linkJ c.hosts) [] c.vls = none
  ports : scan (portJ c.parts c.vls) [] c.ports = none
  jit : jitF c.vls c.hosts = none
theorem May.check {c : Cf} (h : May c) : check c = (0,0,0) := by
  have h1 := h.hosts
  have h2 := h.major
  unfold PitotConf.check
  rw [if_neg (by omega),h.parts]
  simp only
  rw [if_neg (by omega),h.wins,h.vls,h.ports,h.jit]
theorem check_may {c : Cf} (h : (check c).2.2 = 0) : May c := by
  unfold check at h
  by_cases h1 : c.hosts < 1 ∨ 64 < c.hosts
  · rw [if_pos h1] at h;simp at h
  · rw [if_neg h1] at h
    cases hp : scan (partJ c.hosts) [] c.parts with
    | some x => obtain ⟨i,e⟩ := x;rw [hp] at h;exact absurd h (scan_cut hp).2.1
    | none =>
      rw [hp] at h
      simp only at h
      by_cases h2 : c.major < 1 ∨ 1073741824 < c.major
      · rw [if_pos h2] at h;simp at h
      · rw [if_neg h2] at h
        cases hw : scan (winJ c.parts c.major) [] c.wins with
        | some x => obtain ⟨i,e⟩ := x;rw [hw] at h;exact absurd h (scan_cut hw).2.1
        | none =>
          rw [hw] at h
          simp only at h
          cases hv : scan (linkJ c.hosts) [] c.vls with
          | some x => obtain ⟨i,e⟩ := x;rw [hv] at h;exact absurd h (scan_cut hv).2.1
          | none =>
            rw [hv] at h
            simp only at h
            cases hq : scan (portJ c.parts c.vls) [] c.ports with
            | some x => obtain ⟨i,e⟩ := x;rw [hq] at h;exact absurd h (scan_cut hq).2.1
            | none =>
              rw [hq] at h
              simp only at h
              cases hj : jitF c.vls c.hosts with
              | some x => rw [hj] at h;simp at h
              | none => exact ⟨by omega,hp,by omega,hw,hv,hq,hj⟩
theorem jitter_snoc (l : List Vl) (v : Vl) (h : Int) : jitter (l ++ [v]) h = if v.host = h then jitter l h + v.smax + 20 else jitter l h := by
  simp [jitter,List.foldl_append]
theorem jitter_none {l : List Vl} {h : Int} (H : ∀ v ∈ l,v.host ≠ h) : jitter l h = 500 := by
  unfold jitter
  induction l with
  | nil => rfl
  | cons v r ih =>
    simp only [List.foldl_cons]
    rw [if_neg (H v (List.mem_cons_self ..))]
    exact ih fun u hu => H u (List.mem_cons_of_mem _ hu)
theorem jitter_le {l : List Vl} (H : ∀ v ∈ l,v.smax ≤ 10000) (H0 : ∀ v ∈ l,0 ≤ v.smax) (h : Int) : 500 ≤ jitter l h ∧ jitter l h ≤ 500 + l.length * 10020 := by
  have key : ∀ (l : List Vl),(∀ v ∈ l,v.smax ≤ 10000) → (∀ v ∈ l,0 ≤ v.smax) → ∀ a : Int,a ≤ l.foldl (fun n v => if v.host = h then n + v.smax + 20 else n) a ∧ l.foldl (fun n v => if v.host = h then n + v.smax + 20 else n) a ≤ a + l.length * 10020 := by
    intro l
    induction l with
    | nil => intro _ _ a;simp
    | cons v r ih =>
      intro H H0 a
      have h1 := H v (List.mem_cons_self ..)
      have h2 := H0 v (List.mem_cons_self ..)
      simp only [List.foldl_cons,List.length_cons]
      have := ih (fun u hu => H u (List.mem_cons_of_mem _ hu)) (fun u hu => H0 u (List.mem_cons_of_mem _ hu)) (if v.host = h then a + v.smax + 20 else a)
      by_cases e : v.host = h
      · rw [if_pos e] at this ⊢;omega
      · rw [if_neg e] at this ⊢;omega
  exact key l H H0 500
theorem ite0 {c : Prop} [Decidable c] {a b : Int} (ha : a ≠ 0) (h : (if c then a else b) = 0) : ¬ c ∧ b = 0 := by
  by_cases hc : c
  · rw [if_pos hc] at h;exact absurd h ha
  · rw [if_neg hc] at h;exact ⟨hc,h⟩
theorem ite_0 {c : Prop} [Decidable c] {a b : Int} (hc : ¬ c) (h : b = 0) : (if c then a else b) = 0 := by rw [if_neg hc];exact h
theorem isHost_iff {hosts n : Int} : isHost hosts n = true ↔ 0 ≤ n ∧ n < hosts := by simp [isHost]
theorem May.link {c : Cf} (h : May c) {v : Vl} (hv : v ∈ c.vls) : 0 ≤ v.host ∧ v.host < c.hosts ∧ 64 ≤ v.smax ∧ v.smax ≤ 1518 ∧ ∀ t ∈ v.to,0 ≤ t ∧ t < c.hosts ∧ t ≠ v.host := by
  obtain ⟨i,hi,rfl⟩ := List.mem_iff_getElem.1 hv
  have := (scan_none _ _).1 h.vls i hi
  unfold linkJ at this
  obtain ⟨g1,this⟩ := ite0 (by decide) this
  obtain ⟨_,this⟩ := ite0 (by decide) this
  obtain ⟨g3,_⟩ := ite0 (by decide) this
  simp only [not_or] at g1
  obtain ⟨_,_,_,g,_,_,g5,g6,_⟩ := g1
  have hh : isHost c.hosts c.vls[i].host = true := by simpa using g
  rw [isHost_iff] at hh
  refine ⟨hh.1,hh.2,by omega,by omega,fun t ht => ?_⟩
  have g3 : (c.vls[i].to.any fun t => !isHost c.hosts t || decide (t = c.vls[i].host)) = false := by
    cases hb : (c.vls[i].to.any fun t => !isHost c.hosts t || decide (t = c.vls[i].host)) with
    | true => exact absurd hb g3
    | false => rfl
  rw [List.any_eq_false] at g3
  have := g3 t ht
  simp only [Bool.or_eq_true,Bool.not_eq_true',decide_eq_true_eq,not_or] at this
  have h1 : isHost c.hosts t = true := by simpa using this.1
  rw [isHost_iff] at h1
  exact ⟨h1.1,h1.2,this.2⟩
theorem jitF_none {vls : List Vl} {hosts : Int} : jitF vls hosts = none ↔ ∀ h : Nat,(h : Int) < hosts → jitter vls h ≤ 6250 := by
  unfold jitF
  rw [List.find?_eq_none]
  constructor
  · intro H h hh
    have := H h (List.mem_range.2 (by omega))
    simp only [decide_eq_true_eq] at this
    omega
  · intro H h hh
    rw [List.mem_range] at hh
    have := H h (by omega)
    simp only [decide_eq_true_eq]
    omega
theorem isHost_more {hosts n : Int} (h : isHost hosts n = true) : isHost (hosts + 1) n = true := by
  rw [isHost_iff] at h ⊢;omega
theorem May.more {c : Cf} (h : May c) (hl : c.hosts < 64) : May ⟨c.hosts + 1,c.parts,c.major,c.wins,c.vls,c.ports⟩ ∧ jitter c.vls c.hosts = 500 ∧ (∀ v ∈ c.vls,v.host ≠ c.hosts) ∧ (∀ v ∈ c.vls,c.hosts ∉ v.to) := by
  have hh := h.hosts
  have hno : ∀ v ∈ c.vls,v.host ≠ c.hosts := fun v hv e => by have := (h.link hv).2.1;omega
  have hj := jitter_none hno
  refine ⟨⟨⟨by show 1 ≤ c.hosts + 1;omega,by show c.hosts + 1 ≤ 64;omega⟩,scan_mono (fun i hi e => ?_) h.parts,h.major,h.wins,scan_mono (fun i hi e => ?_) h.vls,h.ports,?_⟩,hj,hno,fun v hv hm => ?_⟩
  · unfold partJ at e ⊢
    obtain ⟨g,_⟩ := ite0 (by decide) e
    simp only [not_or,Bool.not_eq_false] at g
    refine ite_0 ?_ rfl
    simp only [not_or,Bool.not_eq_false]
    exact ⟨g.1,isHost_more g.2⟩
  · have hi : i < c.vls.length := hi
    have hlk := h.link (List.getElem_mem hi)
    have hto : (c.vls[i].to.any fun t => !isHost (c.hosts + 1) t || decide (t = c.vls[i].host)) = false := by
      rw [List.any_eq_false]
      intro t ht
      have := hlk.2.2.2.2 t ht
      have h1 : isHost (c.hosts + 1) t = true := isHost_iff.2 (by omega)
      rw [h1]
      simpa using this.2.2
    have hH : isHost (c.hosts + 1) c.vls[i].host = true := isHost_iff.2 (by omega)
    have hH0 : isHost c.hosts c.vls[i].host = true := isHost_iff.2 (by omega)
    unfold linkJ at e ⊢
    obtain ⟨g1,e⟩ := ite0 (by decide) e
    obtain ⟨g2,e⟩ := ite0 (by decide) e
    refine ite_0 ?_ (ite_0 g2 (ite_0 ?_ rfl))
    · intro g
      apply g1
      rw [hH0]
      show _ ∨ _
      have g : 256 ≤ (List.take i c.vls).length ∨ c.vls[i].id < 1 ∨ 65535 < c.vls[i].id ∨ isHost (c.hosts + 1) c.vls[i].host = false ∨ c.vls[i].bag < 0 ∨ 7 < c.vls[i].bag ∨ c.vls[i].smax < 64 ∨ 1518 < c.vls[i].smax ∨ c.vls[i].subs < 1 ∨ 4 < c.vls[i].subs ∨ c.vls[i].skew < 0 ∨ 1073741824 < c.vls[i].skew ∨ c.vls[i].to = [] := g
      rw [hH] at g
      exact g
    · intro g
      have g : (c.vls[i].to.any fun t => !isHost (c.hosts + 1) t || decide (t = c.vls[i].host)) = true := g
      rw [hto] at g
      cases g
  · have hj2 := h.jit
    rw [jitF_none] at hj2 ⊢
    intro k hk
    by_cases e : (k : Int) < c.hosts
    · exact hj2 k e
    · have : (k : Int) = c.hosts := by have hk : (k : Int) < c.hosts + 1 := hk;omega
      show jitter c.vls k ≤ 6250
      rw [this,hj];omega
  · have := (h.link hv).2.2.2.2 _ hm
    omega
theorem mem_take_lt {α : Type} {l : List α} {i : Nat} (h : i < l.length) (J : List α → α → Int) (hs : scan J [] l = none) : J (l.take i) l[i] = 0 := (scan_none l []).1 hs i h
theorem vlOf_some {vls : List Vl} {id : Int} {v : Vl} (h : vlOf vls id = some v) : v ∈ vls ∧ v.id = id := ⟨List.mem_of_find?_eq_some h,by simpa using List.find?_some h⟩
theorem May.port {c : Cf} (h : May c) {p : Prt} (hp : p ∈ c.ports) : ∃ v,vlOf c.vls p.vl = some v ∧ hostOf c.parts p.part = some p.host ∧ (p.out = true → v.host = p.host) ∧ (p.out = false → p.host ∈ v.to) ∧ (p.kind = 1 → p.size + 47 ≤ v.smax) ∧ 1 ≤ p.size ∧ p.size ≤ 8192 := by
  obtain ⟨i,hi,rfl⟩ := List.mem_iff_getElem.1 hp
  have := mem_take_lt hi _ h.ports
  unfold portJ at this
  obtain ⟨g1,this⟩ := ite0 (by decide) this
  obtain ⟨_,this⟩ := ite0 (by decide) this
  obtain ⟨g3,this⟩ := ite0 (by decide) this
  cases hv : vlOf c.vls c.ports[i].vl with
  | none => rw [hv] at this;simp at this
  | some v =>
    rw [hv] at this
    simp only at this
    obtain ⟨g4,this⟩ := ite0 (by decide) this
    obtain ⟨_,this⟩ := ite0 (by decide) this
    obtain ⟨_,this⟩ := ite0 (by decide) this
    obtain ⟨_,this⟩ := ite0 (by decide) this
    obtain ⟨g8,_⟩ := ite0 (by decide) this
    simp only [not_or] at g1
    refine ⟨v,rfl,Classical.byContradiction fun hh => g3 hh,fun ho => Classical.byContradiction fun hh => g4 (.inl ⟨ho,hh⟩),fun ho => ?_,fun hk => ?_,by omega,by omega⟩
    · have : ¬ (v.to.contains c.ports[i].host = false) := fun hh => g4 (.inr ⟨ho,hh⟩)
      simpa using this
    · have : ¬ (v.smax - 47 < c.ports[i].size) := fun hh => g8 ⟨hk,hh⟩
      omega
theorem endOf_snoc (parts : List Int) (h : Option Int) (l : List Win) (w : Win) (e : Int) : endOf parts h (l ++ [w]) e = if hostOf parts w.part = h then w.beg + w.long else endOf parts h l e := by
  induction l generalizing e with
  | nil => rfl
  | cons x r ih => exact ih _
theorem hostOf_some {parts : List Int} {n : Int} (h : hostOf parts n ≠ none) : 0 ≤ n ∧ n < parts.length := by
  unfold hostOf at h
  by_cases e : 0 ≤ n
  · rw [if_pos e] at h
    refine ⟨e,?_⟩
    have h2 : ¬ parts.length ≤ n.toNat := fun hl => h (List.getElem?_eq_none hl)
    omega
  · rw [if_neg e] at h;exact absurd rfl h
theorem May.win {c : Cf} (h : May c) (i : Nat) (hi : i < c.wins.length) : hostOf c.parts c.wins[i].part ≠ none ∧ 0 ≤ c.wins[i].beg ∧ 1 ≤ c.wins[i].long ∧ c.wins[i].beg + c.wins[i].long ≤ c.major ∧ endOf c.parts (hostOf c.parts c.wins[i].part) (c.wins.take i) 0 ≤ c.wins[i].beg := by
  have := mem_take_lt hi _ h.wins
  unfold winJ at this
  obtain ⟨g1,this⟩ := ite0 (by decide) this
  obtain ⟨g2,_⟩ := ite0 (by decide) this
  simp only [not_or] at g1
  exact ⟨g1.2.1,by omega,by omega,by omega,by omega⟩
end Go.Proofs.PitotConf
namespace Go.Proofs.PitotMath
def be : Nat → Nat → List UInt8
  | 0,_ => []
  | m + 1,n => be m (n / 256) ++ [UInt8.ofNat (n % 256)]
theorem be_length : ∀ (m n : Nat),(be m n).length = m
  | 0,_ => rfl
  | m + 1,n => by simp [be,be_length m]
theorem be_get? : ∀ (m n i : Nat),i < m → (be m n)[i]? = some (UInt8.ofNat (n / 256 ^ (m - 1 - i) % 256))
  | 0,_,_,h => by omega
  | m + 1,n,i,h => by
    by_cases hi : i < m
    · have e := be_get? m (n / 256) i hi
      rw [be,List.getElem?_append_left (by rw [be_length];exact hi),e]
      have e2 : m + 1 - 1 - i = (m - 1 - i) + 1 := by omega
      rw [e2,Nat.pow_succ,Nat.mul_comm,← Nat.div_div_eq_div_mul]
    · obtain rfl : i = m := by omega
      rw [be,List.getElem?_append_right (by rw [be_length];exact Nat.le_refl _),be_length]
      simp
theorem pow_8 (j : Nat) : 2 ^ (8 * j) = 256 ^ j := by rw [Nat.pow_mul]
def num (l : List UInt8) : Nat := l.foldl (fun n c => 256 * n + c.toNat) 0
theorem num_snoc (l : List UInt8) (c : UInt8) : num (l ++ [c]) = 256 * num l + c.toNat := by simp [num]
theorem num_lt (l : List UInt8) : num l < 256 ^ l.length := by
  have h : ∀ (l : List UInt8) (n k : Nat),n < 256 ^ k → l.foldl (fun n c => 256 * n + c.toNat) n < 256 ^ (k + l.length) := by
    intro l
    induction l with
    | nil => intro n k h;simpa using h
    | cons c t ih =>
      intro n k h
      have hc := c.toNat_lt
      have := ih (256 * n + c.toNat) (k + 1) (by rw [Nat.pow_succ];omega)
      simpa [Nat.add_assoc,Nat.add_comm 1] using this
  have := h l 0 0 (by simp)
  simpa [num] using this
theorem be_num (l : List UInt8) : be l.length (num l) = l := by
  have h : ∀ (n : Nat) (l : List UInt8),l.length = n → be n (num l) = l := by
    intro n
    induction n with
    | zero => intro l h;rw [List.length_eq_zero_iff] at h;subst h;rfl
    | succ n ih =>
      intro l h
      obtain ⟨t,c,rfl⟩ : ∃ t c,l = t ++ [c] := ⟨l.dropLast,l.getLast (by intro e;subst e;simp at h),(List.dropLast_concat_getLast _).symm⟩
      have hc := c.toNat_lt
      have e1 : (256 * num t + c.toNat) / 256 = num t := by omega
      have e2 : (256 * num t + c.toNat) % 256 = c.toNat := by omega
      rw [num_snoc,be,e1,e2,ih t (by simp at h;omega)]
      simp
  exact h _ l rfl
end Go.Proofs.PitotMath
namespace Go.Proofs.PitotCrc
def st (c : Nat) : Nat := if c % 2 = 1 then (c / 2) ^^^ 3988292384 else c / 2
def sts : Nat → Nat → Nat
  | 0,c => c
  | k + 1,c => st (sts k c)
def mv (c : Nat) : Nat := sts 8 c
def tk (c : Nat) (b : UInt8) : Nat := mv (c ^^^ b.toNat)
def go (c : Nat) (l : List UInt8) : Nat := l.foldl tk c
def sum (l : List UInt8) : Nat := 4294967295 ^^^ go 4294967295 l
def le4 (n : Nat) : List UInt8 := [UInt8.ofNat (n % 256),UInt8.ofNat (n / 256 % 256),UInt8.ofNat (n / 65536 % 256),UInt8.ofNat (n / 16777216 % 256)]
def sealed (l : List UInt8) : List UInt8 := l ++ le4 (sum l)
theorem xor_half (a b : Nat) : (a ^^^ b) / 2 = (a / 2) ^^^ (b / 2) := by
  apply Nat.eq_of_testBit_eq
  intro i
  simp [Nat.testBit_div_two]
theorem xor_par (a b : Nat) : (a ^^^ b) % 2 = (a % 2 + b % 2) % 2 := by
  have h : (a ^^^ b) % 2 ^ 1 = (a % 2 ^ 1) ^^^ (b % 2 ^ 1) := Nat.xor_mod_two_pow
  have ha : a % 2 = 0 ∨ a % 2 = 1 := by omega
  have hb : b % 2 = 0 ∨ b % 2 = 1 := by omega
  rw [Nat.pow_one] at h
  rw [h]
  rcases ha with ha | ha <;> rcases hb with hb | hb <;> rw [ha,hb] <;> rfl
theorem st_lt (c : Nat) (h : c < 4294967296) : st c < 4294967296 := by
  unfold st
  split
  · exact Nat.xor_lt_two_pow (n := 32) (by omega) (by decide)
  · omega
theorem st_xor (a b : Nat) : st (a ^^^ b) = st a ^^^ st b := by
  unfold st
  rw [xor_half,xor_par]
  have ha : a % 2 = 0 ∨ a % 2 = 1 := by omega
  have hb : b % 2 = 0 ∨ b % 2 = 1 := by omega
  generalize a / 2 = x
  generalize b / 2 = y
  generalize 3988292384 = p
  rcases ha with ha | ha <;> rcases hb with hb | hb <;> simp only [ha,hb] <;> simp
  · rw [Nat.xor_assoc]
  · rw [Nat.xor_assoc,Nat.xor_assoc,Nat.xor_comm p y]
  · rw [Nat.xor_assoc,← Nat.xor_assoc p y p,Nat.xor_comm p y,Nat.xor_assoc y p p,Nat.xor_self,Nat.xor_zero]
theorem sts_xor : ∀ (k a b : Nat),sts k (a ^^^ b) = sts k a ^^^ sts k b
  | 0,_,_ => rfl
  | k + 1,a,b => by rw [sts,sts_xor k,st_xor];rfl
theorem sts_lt : ∀ (k c : Nat),c < 4294967296 → sts k c < 4294967296
  | 0,_,h => h
  | k + 1,c,h => st_lt _ (sts_lt k c h)
theorem mv_xor (a b : Nat) : mv (a ^^^ b) = mv a ^^^ mv b := sts_xor 8 a b
theorem mv_lt (c : Nat) (h : c < 4294967296) : mv c < 4294967296 := sts_lt 8 c h
theorem st_even (x : Nat) : st (2 * x) = x := by
  unfold st;rw [if_neg (by omega)];omega
theorem mv_256 (h : Nat) : mv (256 * h) = h := by
  have e : 256 * h = 2 * (2 * (2 * (2 * (2 * (2 * (2 * (2 * h))))))) := by omega
  rw [e]
  simp only [mv,sts,st_even]
theorem split_256 (c : Nat) : c = 256 * (c / 256) ^^^ (c % 256) := by
  apply Nat.eq_of_testBit_eq
  intro i
  rw [Nat.testBit_xor,show (256 : Nat) = 2 ^ 8 from rfl,Nat.testBit_two_pow_mul,Nat.testBit_mod_two_pow,Nat.testBit_div_two_pow]
  by_cases h : i < 8
  · simp [h,show ¬ 8 ≤ i by omega]
  · simp [h,show 8 ≤ i by omega]
theorem tk_table (c : Nat) (b : UInt8) : tk c b = mv ((c % 256) ^^^ b.toNat) ^^^ (c / 256) := by
  unfold tk
  have e : c ^^^ b.toNat = 256 * (c / 256) ^^^ ((c % 256) ^^^ b.toNat) := by
    rw [← Nat.xor_assoc,← split_256]
  rw [e,mv_xor,mv_256,Nat.xor_comm]
theorem tk_lt (c : Nat) (b : UInt8) (h : c < 4294967296) : tk c b < 4294967296 :=
  mv_lt _ (Nat.xor_lt_two_pow (n := 32) h (by have := b.toNat_lt;omega))
theorem go_snoc (c : Nat) (l : List UInt8) (b : UInt8) : go c (l ++ [b]) = tk (go c l) b := by simp [go]
theorem go_append (c : Nat) (l m : List UInt8) : go c (l ++ m) = go (go c l) m := by simp [go]
theorem go_lt (c : Nat) (l : List UInt8) (h : c < 4294967296) : go c l < 4294967296 := by
  induction l generalizing c with
  | nil => exact h
  | cons b t ih => exact ih _ (tk_lt c b h)
theorem sum_lt (l : List UInt8) : sum l < 4294967296 :=
  Nat.xor_lt_two_pow (n := 32) (by decide) (go_lt _ _ (by decide))
theorem le4_length (n : Nat) : (le4 n).length = 4 := rfl
theorem le4_inj (a b : Nat) (ha : a < 4294967296) (hb : b < 4294967296) (h : le4 a = le4 b) : a = b := by
  unfold le4 at h
  simp only [List.cons.injEq,and_true] at h
  obtain ⟨h0,h1,h2,h3⟩ := h
  have g : ∀ x y : Nat,UInt8.ofNat (x % 256) = UInt8.ofNat (y % 256) → x % 256 = y % 256 := by
    intro x y h
    have := congrArg UInt8.toNat h
    simpa using this
  have := g _ _ h0
  have := g _ _ h1
  have := g _ _ h2
  have := g _ _ h3
  omega
theorem xor_eq_zero (a b : Nat) (h : a ^^^ b = 0) : a = b := by
  have h1 : a ^^^ b ^^^ b = b := by rw [h,Nat.zero_xor]
  rwa [Nat.xor_assoc,Nat.xor_self,Nat.xor_zero] at h1
theorem st_zero (c : Nat) (hc : c < 4294967296) (h : st c = 0) : c = 0 := by
  unfold st at h
  split at h
  · have := xor_eq_zero _ _ h;omega
  · omega
theorem sts_zero : ∀ (k c : Nat),c < 4294967296 → sts k c = 0 → c = 0
  | 0,_,_,h => h
  | k + 1,c,hc,h => sts_zero k c hc (st_zero _ (sts_lt k c hc) h)
theorem mv_inj (a b : Nat) (ha : a < 4294967296) (hb : b < 4294967296) (h : mv a = mv b) : a = b := by
  refine xor_eq_zero a b (sts_zero 8 _ (Nat.xor_lt_two_pow (n := 32) ha hb) ?_)
  show mv (a ^^^ b) = 0
  rw [mv_xor,h,Nat.xor_self]
theorem xor_cancel (a b c : Nat) (h : a ^^^ c = b ^^^ c) : a = b := by
  have h1 := congrArg (· ^^^ c) h
  simpa [Nat.xor_assoc] using h1
theorem tk_inj_c (a b : Nat) (x : UInt8) (ha : a < 4294967296) (hb : b < 4294967296) (h : tk a x = tk b x) : a = b := by
  have hx := x.toNat_lt
  exact xor_cancel _ _ _ (mv_inj _ _ (Nat.xor_lt_two_pow (n := 32) ha (by omega)) (Nat.xor_lt_two_pow (n := 32) hb (by omega)) h)
theorem tk_inj_b (c : Nat) (x y : UInt8) (hc : c < 4294967296) (h : tk c x = tk c y) : x = y := by
  have hx := x.toNat_lt
  have hy := y.toNat_lt
  have h1 := mv_inj _ _ (Nat.xor_lt_two_pow (n := 32) hc (by omega)) (Nat.xor_lt_two_pow (n := 32) hc (by omega)) h
  rw [Nat.xor_comm c,Nat.xor_comm c] at h1
  exact UInt8.toNat.inj (xor_cancel _ _ _ h1)
theorem go_inj (l : List UInt8) (a b : Nat) (ha : a < 4294967296) (hb : b < 4294967296) (h : go a l = go b l) : a = b := by
  induction l generalizing a b with
  | nil => exact h
  | cons x t ih => exact tk_inj_c a b x ha hb (ih _ _ (tk_lt a x ha) (tk_lt b x hb) h)
theorem sum_turn (l m : List UInt8) (x y : UInt8) (h : sum (l ++ x :: m) = sum (l ++ y :: m)) : x = y := by
  unfold sum at h
  rw [Nat.xor_comm,Nat.xor_comm 4294967295] at h
  have h1 := xor_cancel _ _ _ h
  rw [go_append,go_append] at h1
  have hl := go_lt 4294967295 l (by decide)
  exact tk_inj_b _ _ _ hl (go_inj m _ _ (tk_lt _ _ hl) (tk_lt _ _ hl) h1)
theorem sealed_length (l : List UInt8) : (sealed l).length = l.length + 4 := by simp [sealed,le4_length]
def opened (l : List UInt8) : Bool := decide (sealed (l.take (l.length - 4)) = l)
theorem opened_iff (l : List UInt8) (_h : 4 ≤ l.length) : opened l = decide (l.drop (l.length - 4) = le4 (sum (l.take (l.length - 4)))) := by
  unfold opened sealed
  rw [Bool.eq_iff_iff]
  simp only [decide_eq_true_eq]
  constructor
  · intro e
    have e2 : l.take (l.length - 4) ++ l.drop (l.length - 4) = l := List.take_append_drop _ _
    have e3 := e.trans e2.symm
    exact (List.append_cancel_left e3).symm
  · intro e
    rw [← e];exact List.take_append_drop _ _
theorem set_split (l : List UInt8) (k : Nat) (h : k < l.length) (v : UInt8) : l.set k v = l.take k ++ v :: l.drop (k + 1) := by
  rw [List.set_eq_take_append_cons_drop,if_pos h]
theorem opened_turn (l : List UInt8) (k : Nat) (hk : k < (sealed l).length) (v : UInt8) (hv : v ≠ (sealed l)[k]) : opened ((sealed l).set k v) = false := by
  have hlen := sealed_length l
  cases hop : opened ((sealed l).set k v) with
  | false => rfl
  | true =>
    exfalso
    have hs : ((sealed l).set k v).length = l.length + 4 := by simp [hlen]
    have h1 := (opened_iff ((sealed l).set k v) (by omega)).symm.trans hop
    rw [decide_eq_true_eq,hs] at h1
    have e4 : l.length + 4 - 4 = l.length := by omega
    rw [e4] at h1
    by_cases hkl : k < l.length
    · have hd : ((sealed l).set k v).drop l.length = le4 (sum l) := by
        rw [List.drop_set_of_lt hkl];simp [sealed]
      have ht : ((sealed l).set k v).take l.length = l.set k v := by
        rw [List.take_set];simp [sealed]
      rw [hd,ht] at h1
      have h2 := le4_inj _ _ (sum_lt _) (sum_lt _) h1
      rw [set_split l k hkl] at h2
      have e : l = l.take k ++ l[k] :: l.drop (k + 1) := by
        rw [← List.drop_eq_getElem_cons hkl,List.take_append_drop]
      have h3 := sum_turn (l.take k) (l.drop (k + 1)) l[k] v (by rw [← e];exact h2)
      apply hv
      rw [← h3]
      simp [sealed,List.getElem_append_left hkl]
    · have ht : ((sealed l).set k v).take l.length = l := by
        rw [List.take_set_of_le (by omega)];simp [sealed]
      rw [ht] at h1
      have h2 : (sealed l).set k v = sealed l := by
        have := List.take_append_drop l.length ((sealed l).set k v)
        rw [ht,h1] at this
        exact this.symm
      apply hv
      have h3 := List.getElem_set_self (l := sealed l) (i := k) (a := v) (by simpa using hk)
      rw [← h3]
      simp only [h2]
theorem sum_go (l : List UInt8) : sum l = 4294967295 ^^^ go 4294967295 l := rfl
end Go.Proofs.PitotCrc
