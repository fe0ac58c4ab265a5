/- Reading that goes on behind what is missing (as programs do it): what it comes to is what reading comes to that stops there. It imports nothing of the program. -/
import Derived.Test.YtdgkanamceeheaaGreatK2
set_option linter.unusedVariables false
set_option linter.unusedVariables false
namespace Go.Proofs.PitotImg
open Go.Proofs.PitotMath Go.Proofs.PitotConf
open Go.Proofs.PitotCrc (sealed opened)
abbrev St := Option (List UInt8)
def rd (k : Nat) : St → Int × St
  | none => (0,none)
  | some l => if k ≤ l.length then ((num (l.take k) : Int),some (l.drop k)) else (0,none)
def manyS {α : Type} (p : St → α × St) : Nat → St → List α × St
  | 0,σ => ([],σ)
  | _ + 1,none => ([],none)
  | n + 1,some l => ((p (some l)).1 :: (manyS p n (p (some l)).2).1,(manyS p n (p (some l)).2).2)
def winS (σ : St) : Win × St := (⟨(rd 2 σ).1,(rd 4 (rd 2 σ).2).1,(rd 4 (rd 4 (rd 2 σ).2).2).1⟩,(rd 4 (rd 4 (rd 2 σ).2).2).2)
structure VlSt where
  a : Int × St
  b : Int × St
  c : Int × St
  d : Int × St
  e : Int × St
  f : Int × St
  g : List Int × St
def vlT (σ : St) : VlSt :=
  let a := rd 2 σ
  let b := rd 2 a.2
  let c := rd 1 b.2
  let d := rd 2 c.2
  let e := rd 4 d.2
  let f := rd 2 e.2
  ⟨a,b,c,d,e,f,manyS (rd 2) f.1.toNat f.2⟩
def vlS (σ : St) : Vl × St :=
  (⟨(vlT σ).a.1,(vlT σ).b.1,(vlT σ).c.1 / 16,(vlT σ).d.1,decide ((vlT σ).c.1 / 8 % 2 = 1),(vlT σ).c.1 % 8,(vlT σ).e.1,(vlT σ).g.1⟩,(vlT σ).g.2)
structure PrtSt where
  a : Int × St
  b : Int × St
  c : Int × St
  d : Int × St
  e : Int × St
  f : Int × St
  g : Int × St
  h : Int × St
  i : Int × St
  j : Int × St
def prtT (σ : St) : PrtSt :=
  let a := rd 4 σ
  let b := rd 2 a.2
  let c := rd 2 b.2
  let d := rd 1 c.2
  let e := rd 2 d.2
  let f := rd 2 e.2
  let g := rd 2 f.2
  let h := rd 2 g.2
  let i := rd 4 h.2
  ⟨a,b,c,d,e,f,g,h,i,rd 4 i.2⟩
def wrongF (hi lo : Int) : Bool := decide (256 < hi) || (decide (hi = 256) && decide (0 < lo))
def freshF (hi lo : Int) : Int := if wrongF hi lo = true then lo else lo + hi * 4294967296
def prtS (σ : St) : Prt × St :=
  let t := prtT σ
  (⟨t.a.1,t.b.1,t.c.1,t.d.1 / 64,decide (t.d.1 / 32 % 2 = 1),t.e.1,t.d.1 % 32,t.f.1,t.g.1,t.h.1,freshF t.i.1 t.j.1⟩,t.j.2)
def badP (σ : St) : Bool := wrongF (prtT σ).i.1 (prtT σ).j.1 && (prtT σ).j.2.isSome
def portsS : Nat → St → Option (List Prt × St)
  | 0,σ => some ([],σ)
  | _ + 1,none => some ([],none)
  | n + 1,some l => if badP (some l) = true then none else (portsS n (prtS (some l)).2).map fun r => ((prtS (some l)).1 :: r.1,r.2)
structure CfSt where
  a : Int × St
  b : Int × St
  c : List Int × St
  d : Int × St
  e : Int × St
  f : List Win × St
  g : Int × St
  h : List Vl × St
  i : Int × St
def cfT (σ : St) : CfSt :=
  let a := rd 2 σ
  let b := rd 2 a.2
  let c := manyS (rd 2) b.1.toNat b.2
  let d := rd 4 c.2
  let e := rd 2 d.2
  let f := manyS winS e.1.toNat e.2
  let g := rd 2 f.2
  let h := manyS vlS g.1.toNat g.2
  ⟨a,b,c,d,e,f,g,h,rd 2 h.2⟩
def sread (t : List UInt8) : Except Int (Cf × List UInt8) :=
  match portsS (cfT (some t)).i.1.toNat (cfT (some t)).i.2 with
  | none => .error 1
  | some r => match r.2 with
    | none => .error 10
    | some l => .ok (⟨(cfT (some t)).a.1,(cfT (some t)).c.1,(cfT (some t)).d.1,(cfT (some t)).f.1,(cfT (some t)).h.1,r.1⟩,l)
theorem rd_none (k : Nat) : rd k none = (0,none) := rfl
theorem manyS_none {α : Type} (p : St → α × St) (n : Nat) : manyS p n none = ([],none) := by cases n <;> rfl
theorem manyS_step {α : Type} (p : St → α × St) (n : Nat) (l : List UInt8) : manyS p (n + 1) (some l) = ((p (some l)).1 :: (manyS p n (p (some l)).2).1,(manyS p n (p (some l)).2).2) := rfl
def Sim {α : Type} (p : St → α × St) (q : P α) : Prop := ∀ l,(∀ a r,q l = .ok (a,r) → p (some l) = (a,some r)) ∧ ∀ e,q l = .error e → e = 10 ∧ (p (some l)).2 = none
theorem sim_rd (k : Nat) : Sim (rd k) (u k) := fun l => by
  unfold u rd
  by_cases h : k ≤ l.length
  · simp only [if_pos h]
    constructor
    · intro a r e
      injection e with e
      rw [Prod.mk.injEq] at e;rw [e.1,e.2]
    · intro e h;cases h
  · simp only [if_neg h]
    constructor
    · intro a r e;cases e
    · intro e h
      injection h with h
      exact ⟨h.symm,by trivial⟩
theorem sim_ok {α : Type} {p : St → α × St} {q : P α} (h : Sim p q) {l : List UInt8} {a : α} {r : List UInt8} (hq : q l = .ok (a,r)) : p (some l) = (a,some r) := (h l).1 a r hq
theorem sim_err {α : Type} {p : St → α × St} {q : P α} (h : Sim p q) {l : List UInt8} {e : Int} (hq : q l = .error e) : e = 10 ∧ (p (some l)).2 = none := (h l).2 e hq
theorem sim_rep {α : Type} {p : St → α × St} {q : P α} (h : Sim p q) : ∀ n,Sim (manyS p n) (rep q n)
  | 0 => fun l => ⟨fun a r e => (by injection e with e;rw [Prod.mk.injEq] at e;rw [← e.1,← e.2];rfl),fun e he => (by cases he)⟩
  | n + 1 => fun l => by
    have ih := sim_rep h n
    constructor
    · intro az r e
      obtain ⟨a,r1,h1,h2⟩ := bind_ok.1 e
      obtain ⟨az',r2,h3,h4⟩ := bind_ok.1 h2
      have h4 : (Except.ok (a :: az',r2) : Except Int _) = .ok (az,r) := h4
      injection h4 with h4
      rw [Prod.mk.injEq] at h4
      rw [manyS_step,sim_ok h h1]
      simp only
      rw [sim_ok ih h3,← h4.1,← h4.2]
    · intro e he
      rw [manyS_step]
      simp only
      cases h1 : q l with
      | error e1 =>
        have : e1 = e := by
          have he : bind q _ l = .error e := he
          unfold bind at he;rw [h1] at he;injection he
        obtain ⟨g1,g2⟩ := sim_err h h1
        rw [g2,manyS_none]
        exact ⟨by omega,rfl⟩
      | ok x =>
        obtain ⟨a,r1⟩ := x
        rw [sim_ok h h1]
        simp only
        have he : bind q _ l = .error e := he
        rw [bind_of h1] at he
        cases h2 : rep q n r1 with
        | error e1 =>
          unfold bind at he;rw [h2] at he
          injection he with he
          obtain ⟨g1,g2⟩ := sim_err ih h2
          exact ⟨by omega,g2⟩
        | ok y =>
          obtain ⟨az,r2⟩ := y
          rw [bind_of h2] at he;cases he
def sb {α β : Type} (p : St → α × St) (g : α → St → β × St) : St → β × St := fun σ => g (p σ).1 (p σ).2
def sret {α : Type} (a : α) : St → α × St := fun σ => (a,σ)
def Dry {α : Type} (p : St → α × St) : Prop := (p none).2 = none
theorem dry_rd (k : Nat) : Dry (rd k) := rfl
theorem dry_many {α : Type} (p : St → α × St) (n : Nat) : Dry (manyS p n) := by unfold Dry;rw [manyS_none]
theorem dry_ret {α : Type} (a : α) : Dry (sret a) := rfl
theorem dry_sb {α β : Type} {p : St → α × St} {g : α → St → β × St} (h : Dry p) (hg : ∀ a,Dry (g a)) : Dry (sb p g) := by
  unfold Dry at h ⊢
  unfold sb
  rw [h]
  exact hg _
theorem sim_sb {α β : Type} {p : St → α × St} {q : P α} (h : Sim p q) {f : α → P β} {g : α → St → β × St} (hg : ∀ a,Sim (g a) (f a)) (hn : ∀ a,Dry (g a)) : Sim (sb p g) (bind q f) := fun l => by
  unfold sb
  cases h1 : q l with
  | error e1 =>
    obtain ⟨g1,g2⟩ := sim_err h h1
    refine ⟨fun a r e => ?_,fun e he => ?_⟩
    · unfold bind at e;rw [h1] at e;cases e
    · unfold bind at he;rw [h1] at he;injection he with he
      refine ⟨by omega,?_⟩
      rw [g2];exact hn _
  | ok x =>
    obtain ⟨a,r1⟩ := x
    rw [bind_of h1,sim_ok h h1]
    exact hg a r1
theorem sim_ret {α : Type} (a : α) : Sim (sret a) (ret a) := fun l => by
  constructor
  · intro b r e
    injection e with e
    rw [Prod.mk.injEq] at e
    rw [← e.1,← e.2];rfl
  · intro e he;cases he
theorem sim_win : Sim winS winR :=
  sim_sb (g := fun a => sb (rd 4) fun b => sb (rd 4) fun c => sret (⟨a,b,c⟩ : Win)) (sim_rd 2)
    (fun a => sim_sb (g := fun b => sb (rd 4) fun c => sret (⟨a,b,c⟩ : Win)) (sim_rd 4)
      (fun b => sim_sb (g := fun c => sret (⟨a,b,c⟩ : Win)) (sim_rd 4) (fun c => sim_ret _) (fun c => dry_ret _))
      (fun b => dry_sb (dry_rd 4) fun c => dry_ret _))
    (fun a => dry_sb (dry_rd 4) fun b => dry_sb (dry_rd 4) fun c => dry_ret _)
def mS {α : Type} (p : St → α × St) : St → List α × St := sb (rd 2) fun n => manyS p n.toNat
theorem sim_many {α : Type} {p : St → α × St} {q : P α} (h : Sim p q) : Sim (mS p) (many q) :=
  sim_sb (sim_rd 2) (fun n => sim_rep h n.toNat) (fun n => dry_many p _)
theorem dry_mS {α : Type} (p : St → α × St) : Dry (mS p) := dry_sb (dry_rd 2) fun n => dry_many p _
theorem sim_vl : Sim vlS vlR :=
  sim_sb (g := fun id => sb (rd 2) fun host => sb (rd 1) fun b => sb (rd 2) fun smax => sb (rd 4) fun skew => sb (mS (rd 2)) fun to_ => sret (⟨id,host,b / 16,smax,decide (b / 8 % 2 = 1),b % 8,skew,to_⟩ : Vl)) (sim_rd 2)
    (fun id => sim_sb (g := fun host => sb (rd 1) fun b => sb (rd 2) fun smax => sb (rd 4) fun skew => sb (mS (rd 2)) fun to_ => sret (⟨id,host,b / 16,smax,decide (b / 8 % 2 = 1),b % 8,skew,to_⟩ : Vl)) (sim_rd 2)
      (fun host => sim_sb (g := fun b => sb (rd 2) fun smax => sb (rd 4) fun skew => sb (mS (rd 2)) fun to_ => sret (⟨id,host,b / 16,smax,decide (b / 8 % 2 = 1),b % 8,skew,to_⟩ : Vl)) (sim_rd 1)
        (fun b => sim_sb (g := fun smax => sb (rd 4) fun skew => sb (mS (rd 2)) fun to_ => sret (⟨id,host,b / 16,smax,decide (b / 8 % 2 = 1),b % 8,skew,to_⟩ : Vl)) (sim_rd 2)
          (fun smax => sim_sb (g := fun skew => sb (mS (rd 2)) fun to_ => sret (⟨id,host,b / 16,smax,decide (b / 8 % 2 = 1),b % 8,skew,to_⟩ : Vl)) (sim_rd 4)
            (fun skew => sim_sb (g := fun to_ => sret (⟨id,host,b / 16,smax,decide (b / 8 % 2 = 1),b % 8,skew,to_⟩ : Vl)) (sim_many (sim_rd 2)) (fun t => sim_ret _) (fun t => dry_ret _))
            (fun skew => dry_sb (dry_mS _) fun t => dry_ret _))
          (fun smax => dry_sb (dry_rd 4) fun skew => dry_sb (dry_mS _) fun t => dry_ret _))
        (fun b => dry_sb (dry_rd 2) fun smax => dry_sb (dry_rd 4) fun skew => dry_sb (dry_mS _) fun t => dry_ret _))
      (fun host => dry_sb (dry_rd 1) fun b => dry_sb (dry_rd 2) fun smax => dry_sb (dry_rd 4) fun skew => dry_sb (dry_mS _) fun t => dry_ret _))
    (fun id => dry_sb (dry_rd 2) fun host => dry_sb (dry_rd 1) fun b => dry_sb (dry_rd 2) fun smax => dry_sb (dry_rd 4) fun skew => dry_sb (dry_mS _) fun t => dry_ret _)
theorem rd_ok {k : Nat} {l : List UInt8} (h : k ≤ l.length) : rd k (some l) = ((num (l.take k) : Int),some (l.drop k)) := by show (if k ≤ l.length then _ else _) = _;rw [if_pos h]
theorem rd_bad {k : Nat} {l : List UInt8} (h : ¬ k ≤ l.length) : rd k (some l) = (0,none) := by show (if k ≤ l.length then _ else _) = _;rw [if_neg h]
theorem u_ok' {k : Nat} {l : List UInt8} (h : k ≤ l.length) : u k l = .ok ((num (l.take k) : Int),l.drop k) := by unfold u;rw [if_pos h]
theorem u_bad' {k : Nat} {l : List UInt8} (h : ¬ k ≤ l.length) : u k l = .error 10 := by unfold u;rw [if_neg h]
theorem prt_sim (l : List UInt8) : (∀ a r,prtR l = .ok (a,r) → prtS (some l) = (a,some r) ∧ badP (some l) = false) ∧ (prtR l = .error 1 → badP (some l) = true) ∧ (∀ e,prtR l = .error e → e = 1 ∨ (e = 10 ∧ (prtS (some l)).2 = none ∧ badP (some l) = false)) := by
  have key : ∀ k (l : List UInt8),(k ≤ l.length ∧ u k l = .ok ((num (l.take k) : Int),l.drop k) ∧ rd k (some l) = ((num (l.take k) : Int),some (l.drop k))) ∨ (u k l = .error 10 ∧ rd k (some l) = (0,none)) := fun k l => by
    by_cases h : k ≤ l.length
    · exact .inl ⟨h,u_ok' h,rd_ok h⟩
    · exact .inr ⟨u_bad' h,rd_bad h⟩
  have bad : ∀ {α : Type} {p : P α} {f : α → P Prt} {l : List UInt8},p l = .error 10 → bind p f l = .error 10 := fun h => by unfold bind;rw [h]
  have fin : ∀ (q : Except Int (Prt × List UInt8)) (x : Prt × St) (b : Bool),q = .error 10 → x.2 = none → b = false → (∀ a r,q = .ok (a,r) → x = (a,some r) ∧ b = false) ∧ (q = .error 1 → b = true) ∧ (∀ e,q = .error e → e = 1 ∨ (e = 10 ∧ x.2 = none ∧ b = false)) := by
    intro q x b h1 h2 h3
    subst h1
    exact ⟨fun a r e => (by cases e),fun e => (by injection e with e;omega),fun e he => (by injection he with he;exact .inr ⟨he.symm,h2,h3⟩)⟩
  unfold prtS badP prtT prtR
  rcases key 4 l with ⟨_,a1,a2⟩ | ⟨a1,a2⟩
  case inr => exact fin _ _ _ (bad a1) (by simp only [a2,rd_none]) (by simp only [a2,rd_none];simp)
  rw [bind_of a1];simp only [a2]
  rcases key 2 (l.drop 4) with ⟨_,b1,b2⟩ | ⟨b1,b2⟩
  case inr => exact fin _ _ _ (bad b1) (by simp only [b2,rd_none]) (by simp only [b2,rd_none];simp)
  rw [bind_of b1];simp only [b2]
  generalize (l.drop 4).drop 2 = l2
  rcases key 2 l2 with ⟨_,c1,c2⟩ | ⟨c1,c2⟩
  case inr => exact fin _ _ _ (bad c1) (by simp only [c2,rd_none]) (by simp only [c2,rd_none];simp)
  rw [bind_of c1];simp only [c2]
  generalize l2.drop 2 = l3
  rcases key 1 l3 with ⟨_,d1,d2⟩ | ⟨d1,d2⟩
  case inr => exact fin _ _ _ (bad d1) (by simp only [d2,rd_none]) (by simp only [d2,rd_none];simp)
  rw [bind_of d1];simp only [d2]
  generalize l3.drop 1 = l4
  rcases key 2 l4 with ⟨_,e1,e2⟩ | ⟨e1,e2⟩
  case inr => exact fin _ _ _ (bad e1) (by simp only [e2,rd_none]) (by simp only [e2,rd_none];simp)
  rw [bind_of e1];simp only [e2]
  generalize l4.drop 2 = l5
  rcases key 2 l5 with ⟨_,f1,f2⟩ | ⟨f1,f2⟩
  case inr => exact fin _ _ _ (bad f1) (by simp only [f2,rd_none]) (by simp only [f2,rd_none];simp)
  rw [bind_of f1];simp only [f2]
  generalize l5.drop 2 = l6
  rcases key 2 l6 with ⟨_,g1,g2⟩ | ⟨g1,g2⟩
  case inr => exact fin _ _ _ (bad g1) (by simp only [g2,rd_none]) (by simp only [g2,rd_none];simp)
  rw [bind_of g1];simp only [g2]
  generalize l6.drop 2 = l7
  rcases key 2 l7 with ⟨_,h1,h2⟩ | ⟨h1,h2⟩
  case inr => exact fin _ _ _ (bad h1) (by simp only [h2,rd_none]) (by simp only [h2,rd_none];simp)
  rw [bind_of h1];simp only [h2]
  generalize l7.drop 2 = l8
  rcases key 4 l8 with ⟨_,i1,i2⟩ | ⟨i1,i2⟩
  case inr => exact fin _ _ _ (bad i1) (by simp only [i2,rd_none]) (by simp only [i2,rd_none];simp)
  rw [bind_of i1];simp only [i2]
  have hi0 : (0 : Int) ≤ (num (l8.take 4) : Int) := by omega
  generalize (num (l8.take 4) : Int) = hi at hi0
  generalize l8.drop 4 = l9
  rcases key 4 l9 with ⟨hk,j1,j2⟩ | ⟨j1,j2⟩
  case inr => exact fin _ _ _ (bad j1) (by simp only [j2]) (by simp only [j2];simp)
  rw [bind_of j1];simp only [j2]
  have hlo : (num (l9.take 4) : Int) < 4294967296 := by
    have := num_lt (l9.take 4)
    rw [List.length_take,Nat.min_eq_left hk] at this
    omega
  have hlo0 : (0 : Int) ≤ (num (l9.take 4) : Int) := by omega
  generalize (num (l9.take 4) : Int) = lo at hlo hlo0
  by_cases hw : 1099511627776 < hi * 4294967296 + lo
  · have hwr : wrongF hi lo = true := by
      unfold wrongF
      simp only [Bool.or_eq_true,Bool.and_eq_true,decide_eq_true_eq]
      omega
    rw [if_pos hw]
    exact ⟨fun a r e => (by cases e),fun _ => by rw [hwr];rfl,fun e he => (by injection he with he;exact .inl he.symm)⟩
  · have hwr : wrongF hi lo = false := by
      rw [Bool.eq_false_iff]
      unfold wrongF
      simp only [ne_eq,Bool.or_eq_true,Bool.and_eq_true,decide_eq_true_eq]
      omega
    rw [if_neg hw]
    refine ⟨fun a r e => ?_,fun e => (by cases e),fun e he => (by cases he)⟩
    injection e with e
    rw [Prod.mk.injEq] at e
    refine ⟨?_,by rw [hwr];rfl⟩
    rw [← e.1,← e.2]
    unfold freshF
    rw [hwr,if_neg (by decide),Int.add_comm]
theorem portsS_none (n : Nat) : portsS n none = some ([],none) := by cases n <;> rfl
theorem ports_sim : ∀ (n : Nat) (l : List UInt8),(∀ az r,rep prtR n l = .ok (az,r) → portsS n (some l) = some (az,some r)) ∧ (rep prtR n l = .error 1 → portsS n (some l) = none) ∧ (∀ e,rep prtR n l = .error e → e = 1 ∨ (e = 10 ∧ ∃ az,portsS n (some l) = some (az,none)))
  | 0,l => ⟨fun a r e => (by injection e with e;rw [Prod.mk.injEq] at e;rw [← e.1,← e.2];rfl),fun e => (by cases e),fun e he => (by cases he)⟩
  | n + 1, l => by
    obtain ⟨p1,p2,p3⟩ := prt_sim l
    have hst : portsS (n + 1) (some l) = if badP (some l) = true then none else (portsS n (prtS (some l)).2).map fun r => ((prtS (some l)).1 :: r.1,r.2) := rfl
    rw [hst]
    show (∀ az r,bind prtR _ l = .ok (az,r) → _) ∧ (bind prtR _ l = .error 1 → _) ∧ (∀ e,bind prtR _ l = .error e → _)
    cases h : prtR l with
    | error e1 =>
      have hb : ∀ f : Prt → P (List Prt),bind prtR f l = .error e1 := fun f => by unfold bind;rw [h]
      rw [hb]
      rcases p3 e1 h with rfl | ⟨rfl,g2,g3⟩
      · rw [p2 h]
        exact ⟨fun a r e => (by cases e),fun _ => rfl,fun e he => (by injection he with he;exact .inl he.symm)⟩
      · rw [g3,if_neg (by decide),g2,portsS_none]
        exact ⟨fun a r e => (by cases e),fun e => (by injection e with e;omega),fun e he => (by injection he with he;exact .inr ⟨he.symm,_,rfl⟩)⟩
    | ok x =>
      obtain ⟨a,r1⟩ := x
      obtain ⟨g1,g2⟩ := p1 a r1 h
      rw [bind_of h,g1,g2,if_neg (by decide)]
      simp only
      obtain ⟨i1,i2,i3⟩ := ports_sim n r1
      cases h2 : rep prtR n r1 with
      | error e1 =>
        have hb : ∀ f : List Prt → P (List Prt),bind (rep prtR n) f r1 = .error e1 := fun f => by unfold bind;rw [h2]
        rw [hb]
        rcases i3 e1 h2 with rfl | ⟨rfl,az,g3⟩
        · rw [i2 h2]
          exact ⟨fun a r e => (by cases e),fun _ => rfl,fun e he => (by injection he with he;exact .inl he.symm)⟩
        · rw [g3]
          exact ⟨fun a r e => (by cases e),fun e => (by injection e with e;omega),fun e he => (by injection he with he;exact .inr ⟨he.symm,_,rfl⟩)⟩
      | ok y =>
        obtain ⟨az,r2⟩ := y
        rw [bind_of h2,i1 az r2 h2]
        refine ⟨fun a' r e => ?_,fun e => (by cases e),fun e he => (by cases he)⟩
        have e : (Except.ok (a :: az,r2) : Except Int _) = .ok (a',r) := e
        injection e with e
        rw [Prod.mk.injEq] at e
        rw [← e.1,← e.2];rfl
theorem fin_bind {α : Type} {p : St → α × St} {q : P α} (h : Sim p q) {f : α → P Cf} {g : α → St → Except Int (Cf × List UInt8)} (hg : ∀ a l,f a l = g a (some l)) (hn : ∀ a,g a none = .error 10) (l : List UInt8) : bind q f l = g (p (some l)).1 (p (some l)).2 := by
  cases h1 : q l with
  | error e1 =>
    obtain ⟨rfl,q2⟩ := sim_err h h1
    rw [q2,hn]
    unfold bind;rw [h1]
  | ok x =>
    obtain ⟨a,r1⟩ := x
    rw [bind_of h1,sim_ok h h1]
    exact hg a r1
def f6 (hosts : Int) (parts : List Int) (major : Int) (wins : List Win) (vls : List Vl) (σ : St) : Except Int (Cf × List UInt8) :=
  match portsS (rd 2 σ).1.toNat (rd 2 σ).2 with
  | none => .error 1
  | some r => match r.2 with
    | none => .error 10
    | some l => .ok (⟨hosts,parts,major,wins,vls,r.1⟩,l)
def f5 (hosts : Int) (parts : List Int) (major : Int) (wins : List Win) (σ : St) := f6 hosts parts major wins (mS vlS σ).1 (mS vlS σ).2
def f4 (hosts : Int) (parts : List Int) (major : Int) (σ : St) := f5 hosts parts major (mS winS σ).1 (mS winS σ).2
def f3 (hosts : Int) (parts : List Int) (σ : St) := f4 hosts parts (rd 4 σ).1 (rd 4 σ).2
def f2 (hosts : Int) (σ : St) := f3 hosts (mS (rd 2) σ).1 (mS (rd 2) σ).2
def f1 (σ : St) := f2 (rd 2 σ).1 (rd 2 σ).2
theorem fin6 (hosts : Int) (parts : List Int) (major : Int) (wins : List Win) (vls : List Vl) (l : List UInt8) : bind (many prtR) (fun ports => ret ⟨hosts,parts,major,wins,vls,ports⟩) l = f6 hosts parts major wins vls (some l) := by
  have no : ∀ {α β : Type} {p : P α} {f : α → P β} {l : List UInt8} {e : Int},p l = .error e → bind p f l = .error e := fun h => by unfold bind;rw [h]
  unfold f6
  cases h6 : u 2 l with
  | error e1 =>
    obtain ⟨rfl,q⟩ := sim_err (sim_rd 2) h6
    have h7 : many prtR l = .error 10 := no h6
    rw [no h7]
    have q0 : rd 2 (some l) = (0,none) := by
      unfold u at h6
      by_cases hk : 2 ≤ l.length
      · rw [if_pos hk] at h6;cases h6
      · exact rd_bad hk
    rw [q0];rfl
  | ok x6 =>
  obtain ⟨nq,l6⟩ := x6
  rw [sim_ok (sim_rd 2) h6]
  obtain ⟨i1,i2,i3⟩ := ports_sim nq.toNat l6
  have hm : many prtR l = rep prtR nq.toNat l6 := bind_of h6
  cases h7 : rep prtR nq.toNat l6 with
  | error e1 =>
    rw [no (hm.trans h7)]
    rcases i3 e1 h7 with rfl | ⟨rfl,az,g3⟩
    · simp only [i2 h7]
    · simp only [g3]
  | ok x7 =>
  obtain ⟨ports,l7⟩ := x7
  rw [bind_of (hm.trans h7)]
  simp only [i1 ports l7 h7]
  rfl
theorem sread_eq (t : List UInt8) : sread t = cfR t := by
  have e : cfR t = f1 (some t) := by
    unfold f1 cfR
    refine fin_bind (sim_rd 2) (g := f2) (fun hosts l => ?_) (fun a => rfl) t
    refine fin_bind (sim_many (sim_rd 2)) (g := f3 hosts) (fun parts l => ?_) (fun a => rfl) l
    refine fin_bind (sim_rd 4) (g := f4 hosts parts) (fun major l => ?_) (fun a => rfl) l
    refine fin_bind (sim_many sim_win) (g := f5 hosts parts major) (fun wins l => ?_) (fun a => rfl) l
    exact fin_bind (sim_many sim_vl) (g := f6 hosts parts major wins) (fun vls l => fin6 hosts parts major wins vls l) (fun a => rfl) l
  rw [e]
  rfl
theorem ld_short {s : List UInt8} (h : s.length < 4) : load s = .error 10 := by unfold load;rw [if_pos h]
theorem ld_sum {s : List UInt8} (h : ¬ s.length < 4) (h2 : opened s = false) : load s = .error 12 := by unfold load;rw [if_neg h,if_pos h2]
theorem ld_six {s : List UInt8} (h : ¬ s.length < 4) (h2 : opened s = true) (h3 : (s.take (s.length - 4)).length < 6) : load s = .error 10 := by
  unfold load;rw [if_neg h,if_neg (by rw [h2];decide)];simp only;rw [if_pos h3]
theorem ld_kind {s : List UInt8} (h : ¬ s.length < 4) (h2 : opened s = true) (h3 : ¬ (s.take (s.length - 4)).length < 6) (h4 : (s.take (s.length - 4)).take 6 ≠ magic) : load s = .error 13 := by
  unfold load;rw [if_neg h,if_neg (by rw [h2];decide)];simp only;rw [if_neg h3,if_pos h4]
def fin (q : Except Int (Cf × List UInt8)) : Except Int Cf := match q with
    | .error e => .error e
    | .ok x => if x.2 ≠ [] then .error 11 else if (check x.1).2.2 ≠ 0 then .error (check x.1).2.2 else .ok x.1
theorem ld_read {s : List UInt8} (h : ¬ s.length < 4) (h2 : opened s = true) (h3 : ¬ (s.take (s.length - 4)).length < 6) (h4 : (s.take (s.length - 4)).take 6 = magic) : load s = fin (sread ((s.take (s.length - 4)).drop 6)) := by
  unfold load;rw [if_neg h,if_neg (by rw [h2];decide)];simp only;rw [if_neg h3,if_neg (by rw [h4];simp),sread_eq];rfl
end Go.Proofs.PitotImg
