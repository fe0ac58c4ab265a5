/- What ports are told apart by, as the key of a map; the judge of a port in plain words is the program's. -/
import Derived.Test.YtdgkanamceeheaaGreatM24
import Derived.Maps.RangeWalk
import Derived.Maps.OwnSet
import Derived.DeepKeys3
set_option linter.unusedVariables false
set_option maxRecDepth 100000
namespace Go.Proofs.YtdgkanamceeheaaGreat
open Go.RowKit Go.Maps

/-- Where a port's messages go, or come from. -/
structure Wy where
  host : Int
  out : Bool
  vl : Int
  udp : Int
  h1 : (Lit.int .i64 host).wf = true
  h2 : (Lit.int .i64 vl).wf = true
  h3 : (Lit.int .i64 udp).wf = true
abbrev Wy.val (k : Wy) : Value := .agg #[.int .i64 k.host, .bool k.out, .int .i64 k.vl, .int .i64 k.udp]
theorem Wy.val_inj {x y : Wy} (h : x.val = y.val) : x = y := by
  obtain ⟨a, b, c, d, _, _, _⟩ := x
  obtain ⟨a', b', c', d', _, _, _⟩ := y
  simp only [Wy.val, Value.agg.injEq, Array.mk.injEq, List.cons.injEq, Value.int.injEq, Value.bool.injEq, true_and, and_true] at h
  obtain ⟨h1, h2, h3, h4⟩ := h
  subst h1; subst h2; subst h3; subst h4
  rfl
theorem wide72 : (match Tryz.prog.underlying 124 with | some (.array _ _) | some (.struct _) => true | _ => false) = true := by kernel_rfl
theorem law72 : Keyed Tryz.prog 124 := Keyed.of_law (deep_law (m := 3) (by omega) (by kernel_rfl) (by kernel_rfl) wide72)
theorem lits3 (D : Nat) (x : Int) (h : (Lit.int .i64 x).wf = true) : Tryz.prog.keyLits (D + 1) 3 [.int .i64 x] = some [.int .i64 x] := by
  unfold Program.keyLits
  rw [Tryz.underlying3]
  simp only
  rw [if_pos ⟨trivial, h⟩]
theorem lits4 (D : Nat) (x : Bool) : Tryz.prog.keyLits (D + 1) 4 [.bool x] = some [.bool x] := by
  unfold Program.keyLits
  rw [Tryz.underlying4]
theorem cells3' : Tryz.prog.cellsOf 3 = 1 := by kernel_rfl
theorem cells4' : Tryz.prog.cellsOf 4 = 1 := by kernel_rfl
theorem cells72 : Tryz.prog.cellsOf 124 = 4 := by kernel_rfl
theorem key_some (k : Wy) : ∃ l, keyOf Tryz.prog 124 k.val = some l := by
  obtain ⟨m0, hm0⟩ : ∃ m0, Tryz.prog.types.size = m0 + 2 := ⟨Tryz.prog.types.size - 2, by have : 1 < Tryz.prog.types.size := of_decide_eq_true (by kernel_rfl); omega⟩
  have hkt : Tryz.prog.keyType 124 = true := by kernel_rfl
  unfold keyOf
  simp only [Tryz.underlying124]
  rw [if_pos (by simp [hkt, Value.formed, Tryz.underlying124, cells72]), hm0]
  unfold Program.keyLits
  simp only [Tryz.underlying124, Value.cells, cells72]
  rw [if_pos ⟨rfl, by kernel_rfl⟩]
  simp only [List.mapM_cons, List.mapM_nil, cells3', cells4', List.drop_zero, List.drop_succ_cons, List.take_succ_cons, List.take_zero]
  simp only [lits4, lits3 _ _ k.h1, lits3 _ _ k.h2, lits3 _ _ k.h3]
  simp
/-- What it is told as. -/
noncomputable def kl (k : Wy) : Lit := (key_some k).choose
theorem key_kl (k : Wy) : keyOf Tryz.prog 124 k.val = some (kl k) := (key_some k).choose_spec
theorem kl_inj {x y : Wy} (h : kl x = kl y) : x = y := Wy.val_inj (law72.inj (key_kl x) (h ▸ key_kl y))
theorem kl_key (k : Wy) : WideAt.IsKeyLit (kl k) := law72.key (key_kl k)
theorem zero73 (w : World) : (zeroValue 125).run Tryz.prog w = .ok (.agg #[]) w := by kernel_rfl
/-- Is there a port among these of that way? -/
def sameWy (p : Px) (y : Wy) : Bool := decide (p.host = y.host) && decide (p.out = y.out) && decide (p.vl = y.vl) && decide (p.udp = y.udp)
def RepW (D : DataW Unit) (l : List Px) : Prop := ∀ y : Wy, Maps.has D (kl y) = l.any (fun p => sameWy p y)
abbrev nu : DataW Unit := .agg []
theorem repW_put {D : DataW Unit} {l : List Px} (hr : RepW D l) (hD : Maps.IsMap D) (p : Px) (y : Wy) (hy : p.host = y.host ∧ p.out = y.out ∧ p.vl = y.vl ∧ p.udp = y.udp) : RepW (D.put (kl y) nu) (l ++ [p]) := fun z => by
  rw [List.any_append]
  simp only [List.any_cons, List.any_nil, Bool.or_false]
  by_cases e : z = y
  · subst e
    rw [has_put_same hD (kl_key z)]
    have : sameWy p z = true := by simp [sameWy, hy.1, hy.2.1, hy.2.2.1, hy.2.2.2]
    rw [this, Bool.or_true]
  · rw [has_put_other (fun h => e (kl_inj h)), hr z]
    have : sameWy p z = false := by
      cases hs : sameWy p z with
      | false => rfl
      | true =>
        simp only [sameWy, Bool.and_eq_true, decide_eq_true_eq] at hs
        exact absurd (Wy.val_inj (by simp only [Wy.val, ← hs.1.1.1, ← hs.1.1.2, ← hs.1.2, ← hs.2, hy.1, hy.2.1, hy.2.2.1, hy.2.2.2])) e
    rw [this, Bool.or_false]

/-! ### the judge of a port -/
def aheadP (l : List Px) : Int := match l.getLast? with
  | some u => u.id
  | none => 0
theorem aheadP_take (l : List Px) (k : Nat) (h : k < l.length) : aheadP (l.take (k + 1)) = l[k].id := by
  rw [aheadP, List.take_succ_eq_append_getElem h, List.getLast?_append]; rfl
theorem mayP_iff {parts : List Int} {a b c d e : Int} : mayP parts.length a b c d e = true ↔ ¬ (a < 1 ∨ (c ≠ 1 ∧ c ≠ 2) ∨ PitotConf.hostOf parts b = none ∨ d < 0 ∨ 65535 < d ∨ e < 1 ∨ 8192 < e) := by
  have hh : PitotConf.hostOf parts b = none ↔ ¬ (0 ≤ b ∧ b < (parts.length : Int)) := by
    unfold PitotConf.hostOf
    by_cases h : 0 ≤ b
    · rw [if_pos h, List.getElem?_eq_none_iff]; omega
    · rw [if_neg h]; simp; omega
  rw [hh]
  simp only [mayP, Bool.and_eq_true, Bool.or_eq_true, decide_eq_true_eq, beq_iff_eq, not_or]
  constructor
  · rintro ⟨h1, h2, h3, h4, h5⟩; exact ⟨by omega, by omega, by omega, by omega, by omega, by omega, by omega⟩
  · rintro ⟨h1, h2, h3, h4, h5, h6, h7⟩; exact ⟨by omega, by omega, by omega, by omega, by omega⟩
theorem end_eq (out : Bool) (host sub vhost vsubs K : Int) (tol : List Int) : (if (out = true ∧ vhost ≠ host) ∨ (out = false ∧ tol.contains host = false) then (20 : Int) else if sub < 0 ∨ (out = true ∧ vsubs ≤ sub) ∨ (out = false ∧ sub ≠ 0) then 1 else K) = if endJ out host sub vhost vsubs tol = 0 then K else endJ out host sub vhost vsubs tol := by
  cases out
  · cases hc : tol.contains host
    · have hE : endJ false host sub vhost vsubs tol = 20 := by rw [endJ, if_neg (show ¬ (false = true) by decide), if_pos hc]
      rw [hE, if_pos (Or.inr ⟨rfl, rfl⟩)]; rfl
    · rw [if_neg (by rintro (⟨h, _⟩ | ⟨_, h⟩); cases h; cases h)]
      by_cases h : sub < 0 ∨ sub ≠ 0
      · have e : (decide (0 ≤ sub) && decide (sub ≤ 0)) = false := by
          rw [Bool.and_eq_false_iff, decide_eq_false_iff_not, decide_eq_false_iff_not]; omega
        have hE : endJ false host sub vhost vsubs tol = 1 := by rw [endJ, if_neg (show ¬ (false = true) by decide), if_neg (show ¬ (tol.contains host = false) by rw [hc]; decide), if_pos e]
        rw [hE, if_pos (by rcases h with h | h; exact Or.inl h; exact Or.inr (Or.inr ⟨rfl, h⟩))]; rfl
      · have e : (decide (0 ≤ sub) && decide (sub ≤ 0)) = true := by
          rw [Bool.and_eq_true, decide_eq_true_eq, decide_eq_true_eq]; omega
        have hE : endJ false host sub vhost vsubs tol = 0 := by rw [endJ, if_neg (show ¬ (false = true) by decide), if_neg (show ¬ (tol.contains host = false) by rw [hc]; decide), if_neg (by rw [e]; decide)]
        rw [hE, if_neg (by rintro (h2 | ⟨h2, _⟩ | ⟨_, h2⟩); exact h (Or.inl h2); cases h2; exact h (Or.inr h2))]; rfl
  · by_cases h : vhost = host
    · rw [if_neg (by rintro (⟨_, h2⟩ | ⟨h2, _⟩); exact h2 h; cases h2)]
      have e0 : (host == vhost) = true := by rw [h]; simp
      by_cases h2 : sub < 0 ∨ vsubs ≤ sub
      · have e : (decide (0 ≤ sub) && decide (sub ≤ vsubs - 1)) = false := by
          rw [Bool.and_eq_false_iff, decide_eq_false_iff_not, decide_eq_false_iff_not]; omega
        have hE : endJ true host sub vhost vsubs tol = 1 := by rw [endJ, if_pos rfl, if_neg (show ¬ ((host == vhost) = false) by rw [e0]; decide), if_pos e]
        rw [hE, if_pos (by rcases h2 with h2 | h2; exact Or.inl h2; exact Or.inr (Or.inl ⟨rfl, h2⟩))]; rfl
      · have e : (decide (0 ≤ sub) && decide (sub ≤ vsubs - 1)) = true := by
          rw [Bool.and_eq_true, decide_eq_true_eq, decide_eq_true_eq]; omega
        have hE : endJ true host sub vhost vsubs tol = 0 := by rw [endJ, if_pos rfl, if_neg (show ¬ ((host == vhost) = false) by rw [e0]; decide), if_neg (by rw [e]; decide)]
        rw [hE, if_neg (by rintro (h3 | ⟨_, h3⟩ | ⟨h3, _⟩); exact h2 (Or.inl h3); exact h2 (Or.inr h3); cases h3)]; rfl
    · have e : (host == vhost) = false := by simp; exact fun h2 => h h2.symm
      have hE : endJ true host sub vhost vsubs tol = 20 := by rw [endJ, if_pos rfl, if_pos e]
      rw [hE, if_pos (Or.inl ⟨rfl, h⟩)]; rfl
theorem kind_eq (kind depth fresh size smax t : Int) (out : Bool) (hk : kind = 1 ∨ kind = 2) : (if kind = 2 ∧ (depth < 1 ∨ 64 < depth ∨ fresh ≠ 0) then (1 : Int) else if kind = 1 ∧ (depth ≠ 0 ∨ (out = true ∧ fresh ≠ 0) ∨ (out = false ∧ (fresh < 1 ∨ 1099511627776 < fresh))) then 1 else if kind = 1 ∧ smax - 47 < size then 11 else t) = if kindJ kind depth fresh size out smax = 0 then t else kindJ kind depth fresh size out smax := by
  rcases hk with rfl | rfl
  · have n1 : ¬ (((1 : Int) == 2) = true) := by decide
    rw [if_neg (show ¬ ((1 : Int) = 2 ∧ (depth < 1 ∨ 64 < depth ∨ fresh ≠ 0)) by omega)]
    by_cases h : depth = 0
    · have e0 : ¬ ((depth == 0) = false) := by simp [h]
      have hf : freshOk out fresh = false ↔ ((out = true ∧ fresh ≠ 0) ∨ (out = false ∧ (fresh < 1 ∨ 1099511627776 < fresh))) := by
        unfold freshOk
        cases out
        · rw [if_neg (show ¬ (false = true) by decide), Bool.and_eq_false_iff, decide_eq_false_iff_not, decide_eq_false_iff_not]
          constructor
          · intro h; right; exact ⟨rfl, by omega⟩
          · rintro (⟨h, _⟩ | ⟨_, h⟩)
            · cases h
            · omega
        · rw [if_pos rfl, beq_eq_false_iff_ne]
          constructor
          · intro h; exact Or.inl ⟨rfl, h⟩
          · rintro (⟨_, h⟩ | ⟨h, _⟩)
            · exact h
            · cases h
      by_cases h2 : freshOk out fresh = false
      · have hE : kindJ 1 depth fresh size out smax = 1 := by rw [kindJ, if_neg n1, if_neg e0, if_pos h2]
        rw [hE, if_pos ⟨rfl, Or.inr (hf.1 h2)⟩]; rfl
      · rw [if_neg (by rintro ⟨_, h3 | h3⟩; exact h3 h; exact h2 (hf.2 h3))]
        by_cases h3 : smax - 47 < size
        · have hE : kindJ 1 depth fresh size out smax = 11 := by rw [kindJ, if_neg n1, if_neg e0, if_neg h2, if_pos (decide_eq_true h3)]
          rw [hE, if_pos ⟨rfl, h3⟩]; rfl
        · have hE : kindJ 1 depth fresh size out smax = 0 := by rw [kindJ, if_neg n1, if_neg e0, if_neg h2, if_neg (by rw [decide_eq_false h3]; decide)]
          rw [hE, if_neg (fun h4 => h3 h4.2)]; rfl
    · have e0 : (depth == 0) = false := by simpa using h
      have hE : kindJ 1 depth fresh size out smax = 1 := by rw [kindJ, if_neg n1, if_pos e0]
      rw [hE, if_pos ⟨rfl, Or.inl h⟩]; rfl
  · have n2 : ((2 : Int) == 2) = true := by decide
    by_cases h : depth < 1 ∨ 64 < depth ∨ fresh ≠ 0
    · rw [if_pos ⟨rfl, h⟩]
      by_cases h1 : (decide (1 ≤ depth) && decide (depth ≤ 64)) = false
      · have hE : kindJ 2 depth fresh size out smax = 1 := by rw [kindJ, if_pos n2, if_pos h1]
        rw [hE]; rfl
      · have h1' : (decide (1 ≤ depth) && decide (depth ≤ 64)) = true := by simpa using h1
        rw [Bool.and_eq_true, decide_eq_true_eq, decide_eq_true_eq] at h1'
        have e : (fresh == 0) = false := by rw [beq_eq_false_iff_ne]; omega
        have hE : kindJ 2 depth fresh size out smax = 1 := by rw [kindJ, if_pos n2, if_neg h1, if_pos e]
        rw [hE]; rfl
    · have h1 : (decide (1 ≤ depth) && decide (depth ≤ 64)) = true := by
        rw [Bool.and_eq_true, decide_eq_true_eq, decide_eq_true_eq]; omega
      have e : (fresh == 0) = true := by rw [beq_iff_eq]; omega
      have hE : kindJ 2 depth fresh size out smax = 0 := by rw [kindJ, if_pos n2, if_neg (by rw [h1]; decide), if_neg (by rw [e]; decide)]
      rw [hE, if_neg (fun h4 => h h4.2), if_neg (fun h4 => by have := h4.1; omega), if_neg (fun h4 => by have := h4.1; omega)]; rfl
/-- The judge of a port in plain words is the program's. -/
theorem portJ_eq (parts : List Int) (vls : List Vx) (l : List Px) (k : Nat) (h : k < l.length) : PitotConf.portJ parts (vls.map Vx.pl) ((l.map Px.pl).take k) ((l.map Px.pl)[k]'(by simpa using h)) = if 512 ≤ k then 1 else if portP parts vls (aheadP (l.take k)) l[k] = 0 then (if (l.take k).any (fun q => decide (q.host = l[k].host) && decide (q.out = l[k].out) && decide (q.vl = l[k].vl) && decide (q.udp = l[k].udp)) = true then 21 else 0) else portP parts vls (aheadP (l.take k)) l[k] := by
  have hlen : ((l.map Px.pl).take k).length = k := by simp; omega
  have hlast : ((l.map Px.pl).take k).getLast? = ((l.take k).getLast?).map Px.pl := by rw [← List.map_take, List.getLast?_map]
  have hany : ∀ x : Px, ((l.map Px.pl).take k).any (fun q => decide (q.host = x.pl.host) && decide (q.out = x.pl.out) && decide (q.vl = x.pl.vl) && decide (q.udp = x.pl.udp)) = (l.take k).any (fun q => decide (q.host = x.host) && decide (q.out = x.out) && decide (q.vl = x.vl) && decide (q.udp = x.udp)) := fun x => by
    rw [← List.map_take, List.any_map]; rfl
  rw [PitotConf.portJ, hlen, List.getElem_map, hlast, hany]
  generalize l[k] = x
  generalize (l.take k).any (fun q => decide (q.host = x.host) && decide (q.out = x.out) && decide (q.vl = x.vl) && decide (q.udp = x.udp)) = T
  by_cases h1 : 512 ≤ k
  · rw [if_pos (Or.inl h1), if_pos h1]
  rw [if_neg h1]
  obtain ⟨R, hR⟩ : ∃ R, portP parts vls (aheadP (l.take k)) x = R := ⟨_, rfl⟩
  rw [hR]
  have hmay := @mayP_iff parts x.id x.part x.kind x.udp x.size
  by_cases h2 : mayP parts.length x.id x.part x.kind x.udp x.size = false
  · have : R = 1 := by rw [← hR, portP, if_pos h2]
    rw [this, if_neg (show ¬ ((1 : Int) = 0) by decide)]
    apply if_pos
    right
    apply Classical.byContradiction
    intro hn
    have := hmay.2 hn
    rw [this] at h2; cases h2
  have h2 : mayP parts.length x.id x.part x.kind x.udp x.size = true := by simpa using h2
  have hok := hmay.1 h2
  have hbad : ¬ (512 ≤ k ∨ x.pl.id < 1 ∨ (x.pl.kind ≠ 1 ∧ x.pl.kind ≠ 2) ∨ PitotConf.hostOf parts x.pl.part = none ∨ x.pl.udp < 0 ∨ 65535 < x.pl.udp ∨ x.pl.size < 1 ∨ 8192 < x.pl.size) := by
    rintro (q | q)
    · exact h1 q
    · exact hok q
  rw [if_neg hbad]
  have hid : 1 ≤ x.id := by simp only [not_or] at hok; omega
  have hkind : x.kind = 1 ∨ x.kind = 2 := by simp only [not_or] at hok; omega
  have h25 : ((match (Option.map Px.pl (l.take k).getLast?) with | some q => decide (x.pl.id ≤ q.id) | none => false) = true) ↔ decide (x.id ≤ aheadP (l.take k)) = true := by
    rw [aheadP]
    cases (l.take k).getLast? with
    | none => simp; omega
    | some u => exact Iff.rfl
  by_cases h3 : decide (x.id ≤ aheadP (l.take k)) = true
  · have : R = 25 := by rw [← hR, portP, if_neg (by rw [h2]; decide), if_pos h3]
    rw [this, if_neg (show ¬ ((25 : Int) = 0) by decide)]
    exact if_pos (h25.2 h3)
  refine (if_neg (fun h => h3 (h25.1 h))).trans ?_
  by_cases h4 : PitotConf.hostOf parts x.part ≠ some x.host
  · have : R = 20 := by rw [← hR, portP, if_neg (by rw [h2]; decide), if_neg h3, if_pos h4]
    rw [this, if_neg (show ¬ ((20 : Int) = 0) by decide)]
    exact if_pos h4
  refine (if_neg h4).trans ?_
  have hvl : PitotConf.vlOf (vls.map Vx.pl) x.pl.vl = (findVx vls x.vl).map Vx.pl := findVx_pl vls x.vl
  rw [hvl]
  cases hf : findVx vls x.vl with
  | none =>
    have : R = 20 := by rw [← hR, portP, if_neg (by rw [h2]; decide), if_neg h3, if_neg h4, hf]
    rw [this]; rfl
  | some v =>
    have hRE : R = if endJ x.out x.host x.sub v.host v.subs v.to = 0 then kindJ x.kind x.depth x.fresh x.size x.out v.smax else endJ x.out x.host x.sub v.host v.subs v.to := by rw [← hR, portP, if_neg (by rw [h2]; decide), if_neg h3, if_neg h4, hf]
    show (if (x.out = true ∧ v.host ≠ x.host) ∨ (x.out = false ∧ v.to.contains x.host = false) then (20 : Int) else if x.sub < 0 ∨ (x.out = true ∧ v.subs ≤ x.sub) ∨ (x.out = false ∧ x.sub ≠ 0) then 1 else if x.kind = 2 ∧ (x.depth < 1 ∨ 64 < x.depth ∨ x.fresh ≠ 0) then 1 else if x.kind = 1 ∧ (x.depth ≠ 0 ∨ (x.out = true ∧ x.fresh ≠ 0) ∨ (x.out = false ∧ (x.fresh < 1 ∨ 1099511627776 < x.fresh))) then 1 else if x.kind = 1 ∧ v.smax - 47 < x.size then 11 else if T = true then 21 else 0) = _
    rw [end_eq, kind_eq _ _ _ _ _ _ _ hkind, hRE]
    by_cases g : endJ x.out x.host x.sub v.host v.subs v.to = 0
    · rw [if_pos g, if_pos g]
    · rw [if_neg g, if_neg g, if_neg g]
end Go.Proofs.YtdgkanamceeheaaGreat
