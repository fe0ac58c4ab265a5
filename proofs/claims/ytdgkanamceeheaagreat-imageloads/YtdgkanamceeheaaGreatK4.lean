/- A network that comes in is opened: what it is. The document's small questions about a network. -/
import Derived.Test.YtdgkanamceeheaaGreatK1
import Derived.Test.YtdgkanamceeheaaGreatProg
import Derived.Below
import Derived.Lib.Hide
import Derived.ProofKit
import Derived.OpenShut
import Derived.WideShapes
import Derived.Deep.Slices
import Derived.Deep.Fields
import Derived.WalkKit
import Derived.Handy
set_option linter.unusedVariables false
set_option maxRecDepth 100000
namespace Go.Proofs.YtdgkanamceeheaaGreat
open Go.RowKit Go.ChangeShapes Go.WideShapes Go.Deep
def IntsAt (w : World) (A : Option Addr) (xs : List Int) : Prop :=
  xs ≠ [] → ∃ b off,A = some ⟨b,off,none⟩ ∧ b < w.heap.size ∧ ∀ i (h : i < xs.length),w.cell? ⟨b,off + i,none⟩ = some (.int .i64 xs[i])
theorem IntsAt.get {w : World} {A : Option Addr} {xs : List Int} (h : IntsAt w A xs) {k : Nat} (hk : k < xs.length) :
    ∃ b off,A = some ⟨b,off,none⟩ ∧ b < w.heap.size ∧ w.cell? ⟨b,off + k,none⟩ = some (.int .i64 xs[k]) := by
  obtain ⟨b,off,h1,h2,h3⟩ := h (by intro e;subst e;simp at hk)
  exact ⟨b,off,h1,h2,h3 k hk⟩
theorem IntsAt.below {w w' : World} {A : Option Addr} {xs : List Int} (h : IntsAt w A xs) (hb : Below w.heap.size w w') : IntsAt w' A xs := fun hne => by
  obtain ⟨b,off,h1,h2,h3⟩ := h hne
  exact ⟨b,off,h1,Nat.lt_of_lt_of_le h2 hb.size,fun i hi => (hb.cell (p := ⟨b,off + i,none⟩) h2).trans (h3 i hi)⟩
section
variable {H : Type} {enc : TypeId × Value → H} {P : Program} {w : World} {base : Nat} {spare : Nat → Bool} {held : Bool}
end
structure Wn where
  part : Int
  beg : Int
  long : Int
abbrev Wn.enc (x : Wn) : List Value := [.int .i64 x.part,.int .i64 x.beg,.int .i64 x.long]
theorem Wn.enc_length (x : Wn) : x.enc.length = 3 := rfl
abbrev Wn.val (x : Wn) : Value := .agg #[.int .i64 x.part,.int .i64 x.beg,.int .i64 x.long]
def Wn.Ok (x : Wn) : Prop := (Lit.int .i64 x.part).wf = true ∧ (Lit.int .i64 x.beg).wf = true ∧ (Lit.int .i64 x.long).wf = true
def WnAt (w : World) (b o : Nat) (x : Wn) : Prop := w.cell? ⟨b,o,none⟩ = some (.int .i64 x.part) ∧ w.cell? ⟨b,o + 1,none⟩ = some (.int .i64 x.beg) ∧ w.cell? ⟨b,o + 2,none⟩ = some (.int .i64 x.long)
theorem WnAt.of_cells {w w' : World} {b o : Nat} {x : Wn} (h : WnAt w b o x) (hc : ∀ k,w'.cell? ⟨b,k,none⟩ = w.cell? ⟨b,k,none⟩) : WnAt w' b o x := by
  obtain ⟨h0,h1,h2⟩ := h
  exact ⟨(hc _).trans h0,(hc _).trans h1,(hc _).trans h2⟩
theorem WnAt.below {w w' : World} {b o B : Nat} {x : Wn} (h : WnAt w b o x) (hb : Below B w w') (hlt : b < B) : WnAt w' b o x := h.of_cells fun _ => hb.cell hlt
def WnsAt (w : World) (A : Option Addr) (l : List Wn) : Prop :=
  l ≠ [] → ∃ b off,A = some ⟨b,off,none⟩ ∧ b < w.heap.size ∧ ∀ i (h : i < l.length),WnAt w b (off + i * 3) l[i]
theorem WnsAt.get {w : World} {A : Option Addr} {l : List Wn} (h : WnsAt w A l) {k : Nat} (hk : k < l.length) : ∃ b off,A = some ⟨b,off,none⟩ ∧ b < w.heap.size ∧ WnAt w b (off + k * 3) l[k] := by
  obtain ⟨b,off,h1,h2,h3⟩ := h (fun e => by subst e;simp at hk)
  exact ⟨b,off,h1,h2,h3 k hk⟩
theorem WnsAt.below {w w' : World} {A : Option Addr} {l : List Wn} (h : WnsAt w A l) (hb : Below w.heap.size w w') : WnsAt w' A l := fun hne => by
  obtain ⟨b,off,h1,h2,h3⟩ := h hne
  exact ⟨b,off,h1,Nat.lt_of_lt_of_le h2 hb.size,fun i hi => (h3 i hi).below hb h2⟩
section
variable {H : Type} {enc : TypeId × Value → H} {w W : World} {base b0 : Nat} {spare : Nat → Bool} {held : Bool} {r : Reach}
end
structure Vx where
  id : Int
  host : Int
  bag : Int
  smax : Int
  high : Bool
  subs : Int
  skew : Int
  toA : Option Addr
  toc : Nat
  to : List Int
abbrev Vx.enc (x : Vx) : List Value := [.int .i64 x.id,.int .i64 x.host,.int .i64 x.bag,.int .i64 x.smax,.bool x.high,.int .i64 x.subs,.int .i64 x.skew,.slice x.toA x.to.length x.toc]
theorem Vx.enc_length (x : Vx) : x.enc.length = 8 := rfl
abbrev Vx.val (x : Vx) : Value := .agg #[.int .i64 x.id,.int .i64 x.host,.int .i64 x.bag,.int .i64 x.smax,.bool x.high,.int .i64 x.subs,.int .i64 x.skew,.slice x.toA x.to.length x.toc]
def Vx.Ok (x : Vx) : Prop := (Lit.int .i64 x.id).wf = true ∧ (Lit.int .i64 x.host).wf = true ∧ (Lit.int .i64 x.bag).wf = true ∧ (Lit.int .i64 x.smax).wf = true ∧ (Lit.int .i64 x.subs).wf = true ∧ (Lit.int .i64 x.skew).wf = true ∧ x.to.length ≤ maxLen ∧ (∀ n ∈ x.to,(Lit.int .i64 n).wf = true)
def Vx.Held (w : World) (x : Vx) : Prop := IntsAt w x.toA x.to
def VxAt (w : World) (b o : Nat) (x : Vx) : Prop := w.cell? ⟨b,o,none⟩ = some (.int .i64 x.id) ∧ w.cell? ⟨b,o + 1,none⟩ = some (.int .i64 x.host) ∧ w.cell? ⟨b,o + 2,none⟩ = some (.int .i64 x.bag) ∧ w.cell? ⟨b,o + 3,none⟩ = some (.int .i64 x.smax) ∧ w.cell? ⟨b,o + 4,none⟩ = some (.bool x.high) ∧ w.cell? ⟨b,o + 5,none⟩ = some (.int .i64 x.subs) ∧ w.cell? ⟨b,o + 6,none⟩ = some (.int .i64 x.skew) ∧ w.cell? ⟨b,o + 7,none⟩ = some (.slice x.toA x.to.length x.toc)
theorem VxAt.of_cells {w w' : World} {b o : Nat} {x : Vx} (h : VxAt w b o x) (hc : ∀ k,w'.cell? ⟨b,k,none⟩ = w.cell? ⟨b,k,none⟩) : VxAt w' b o x := by
  obtain ⟨h0,h1,h2,h3,h4,h5,h6,h7⟩ := h
  exact ⟨(hc _).trans h0,(hc _).trans h1,(hc _).trans h2,(hc _).trans h3,(hc _).trans h4,(hc _).trans h5,(hc _).trans h6,(hc _).trans h7⟩
theorem VxAt.below {w w' : World} {b o B : Nat} {x : Vx} (h : VxAt w b o x) (hb : Below B w w') (hlt : b < B) : VxAt w' b o x := h.of_cells fun _ => hb.cell hlt
theorem Vx.Held.below {w w' : World} {x : Vx} (h : x.Held w) (hb : Below w.heap.size w w') : x.Held w' := by
  have h0 := h
  exact IntsAt.below h0 hb
def VxsAt (w : World) (A : Option Addr) (l : List Vx) : Prop :=
  l ≠ [] → ∃ b off,A = some ⟨b,off,none⟩ ∧ b < w.heap.size ∧ ∀ i (h : i < l.length),VxAt w b (off + i * 8) l[i] ∧ l[i].Held w
theorem VxsAt.get {w : World} {A : Option Addr} {l : List Vx} (h : VxsAt w A l) {k : Nat} (hk : k < l.length) : ∃ b off,A = some ⟨b,off,none⟩ ∧ b < w.heap.size ∧ VxAt w b (off + k * 8) l[k] ∧ l[k].Held w := by
  obtain ⟨b,off,h1,h2,h3⟩ := h (fun e => by subst e;simp at hk)
  exact ⟨b,off,h1,h2,h3 k hk⟩
theorem VxsAt.below {w w' : World} {A : Option Addr} {l : List Vx} (h : VxsAt w A l) (hb : Below w.heap.size w w') : VxsAt w' A l := fun hne => by
  obtain ⟨b,off,h1,h2,h3⟩ := h hne
  exact ⟨b,off,h1,Nat.lt_of_lt_of_le h2 hb.size,fun i hi => ⟨(h3 i hi).1.below hb h2,(h3 i hi).2.below hb⟩⟩
section
variable {H : Type} {enc : TypeId × Value → H} {w W : World} {base b0 : Nat} {spare : Nat → Bool} {held : Bool} {r : Reach}
end
structure Px where
  id : Int
  host : Int
  part : Int
  kind : Int
  out : Bool
  vl : Int
  sub : Int
  udp : Int
  size : Int
  depth : Int
  fresh : Int
abbrev Px.enc (x : Px) : List Value := [.int .i64 x.id,.int .i64 x.host,.int .i64 x.part,.int .i64 x.kind,.bool x.out,.int .i64 x.vl,.int .i64 x.sub,.int .i64 x.udp,.int .i64 x.size,.int .i64 x.depth,.int .i64 x.fresh]
theorem Px.enc_length (x : Px) : x.enc.length = 11 := rfl
abbrev Px.val (x : Px) : Value := .agg #[.int .i64 x.id,.int .i64 x.host,.int .i64 x.part,.int .i64 x.kind,.bool x.out,.int .i64 x.vl,.int .i64 x.sub,.int .i64 x.udp,.int .i64 x.size,.int .i64 x.depth,.int .i64 x.fresh]
def Px.Ok (x : Px) : Prop := (Lit.int .i64 x.id).wf = true ∧ (Lit.int .i64 x.host).wf = true ∧ (Lit.int .i64 x.part).wf = true ∧ (Lit.int .i64 x.kind).wf = true ∧ (Lit.int .i64 x.vl).wf = true ∧ (Lit.int .i64 x.sub).wf = true ∧ (Lit.int .i64 x.udp).wf = true ∧ (Lit.int .i64 x.size).wf = true ∧ (Lit.int .i64 x.depth).wf = true ∧ (Lit.int .i64 x.fresh).wf = true
def PxAt (w : World) (b o : Nat) (x : Px) : Prop := w.cell? ⟨b,o,none⟩ = some (.int .i64 x.id) ∧ w.cell? ⟨b,o + 1,none⟩ = some (.int .i64 x.host) ∧ w.cell? ⟨b,o + 2,none⟩ = some (.int .i64 x.part) ∧ w.cell? ⟨b,o + 3,none⟩ = some (.int .i64 x.kind) ∧ w.cell? ⟨b,o + 4,none⟩ = some (.bool x.out) ∧ w.cell? ⟨b,o + 5,none⟩ = some (.int .i64 x.vl) ∧ w.cell? ⟨b,o + 6,none⟩ = some (.int .i64 x.sub) ∧ w.cell? ⟨b,o + 7,none⟩ = some (.int .i64 x.udp) ∧ w.cell? ⟨b,o + 8,none⟩ = some (.int .i64 x.size) ∧ w.cell? ⟨b,o + 9,none⟩ = some (.int .i64 x.depth) ∧ w.cell? ⟨b,o + 10,none⟩ = some (.int .i64 x.fresh)
theorem PxAt.of_cells {w w' : World} {b o : Nat} {x : Px} (h : PxAt w b o x) (hc : ∀ k,w'.cell? ⟨b,k,none⟩ = w.cell? ⟨b,k,none⟩) : PxAt w' b o x := by
  obtain ⟨h0,h1,h2,h3,h4,h5,h6,h7,h8,h9,h10⟩ := h
  exact ⟨(hc _).trans h0,(hc _).trans h1,(hc _).trans h2,(hc _).trans h3,(hc _).trans h4,(hc _).trans h5,(hc _).trans h6,(hc _).trans h7,(hc _).trans h8,(hc _).trans h9,(hc _).trans h10⟩
theorem PxAt.below {w w' : World} {b o B : Nat} {x : Px} (h : PxAt w b o x) (hb : Below B w w') (hlt : b < B) : PxAt w' b o x := h.of_cells fun _ => hb.cell hlt
def PxsAt (w : World) (A : Option Addr) (l : List Px) : Prop :=
  l ≠ [] → ∃ b off,A = some ⟨b,off,none⟩ ∧ b < w.heap.size ∧ ∀ i (h : i < l.length),PxAt w b (off + i * 11) l[i]
theorem PxsAt.get {w : World} {A : Option Addr} {l : List Px} (h : PxsAt w A l) {k : Nat} (hk : k < l.length) : ∃ b off,A = some ⟨b,off,none⟩ ∧ b < w.heap.size ∧ PxAt w b (off + k * 11) l[k] := by
  obtain ⟨b,off,h1,h2,h3⟩ := h (fun e => by subst e;simp at hk)
  exact ⟨b,off,h1,h2,h3 k hk⟩
theorem PxsAt.below {w w' : World} {A : Option Addr} {l : List Px} (h : PxsAt w A l) (hb : Below w.heap.size w w') : PxsAt w' A l := fun hne => by
  obtain ⟨b,off,h1,h2,h3⟩ := h hne
  exact ⟨b,off,h1,Nat.lt_of_lt_of_le h2 hb.size,fun i hi => (h3 i hi).below hb h2⟩
section
variable {H : Type} {enc : TypeId × Value → H} {w W : World} {base b0 : Nat} {spare : Nat → Bool} {held : Bool} {r : Reach}
end
structure Cx where
  hosts : Int
  partsA : Option Addr
  partsc : Nat
  parts : List Int
  major : Int
  winsA : Option Addr
  winsc : Nat
  wins : List Wn
  vlsA : Option Addr
  vlsc : Nat
  vls : List Vx
  portsA : Option Addr
  portsc : Nat
  ports : List Px
abbrev Cx.enc (x : Cx) : List Value := [.int .i64 x.hosts,.slice x.partsA x.parts.length x.partsc,.int .i64 x.major,.slice x.winsA x.wins.length x.winsc,.slice x.vlsA x.vls.length x.vlsc,.slice x.portsA x.ports.length x.portsc]
theorem Cx.enc_length (x : Cx) : x.enc.length = 6 := rfl
abbrev Cx.val (x : Cx) : Value := .agg #[.int .i64 x.hosts,.slice x.partsA x.parts.length x.partsc,.int .i64 x.major,.slice x.winsA x.wins.length x.winsc,.slice x.vlsA x.vls.length x.vlsc,.slice x.portsA x.ports.length x.portsc]
def Cx.Ok (x : Cx) : Prop := (Lit.int .i64 x.hosts).wf = true ∧ x.parts.length ≤ maxLen ∧ (∀ n ∈ x.parts,(Lit.int .i64 n).wf = true) ∧ (Lit.int .i64 x.major).wf = true ∧ x.wins.length ≤ maxLen ∧ (∀ y ∈ x.wins,y.Ok) ∧ x.vls.length ≤ maxLen ∧ (∀ y ∈ x.vls,y.Ok) ∧ x.ports.length ≤ maxLen ∧ (∀ y ∈ x.ports,y.Ok)
def Cx.Held (w : World) (x : Cx) : Prop := IntsAt w x.partsA x.parts ∧ WnsAt w x.winsA x.wins ∧ VxsAt w x.vlsA x.vls ∧ PxsAt w x.portsA x.ports
def CxAt (w : World) (b o : Nat) (x : Cx) : Prop := w.cell? ⟨b,o,none⟩ = some (.int .i64 x.hosts) ∧ w.cell? ⟨b,o + 1,none⟩ = some (.slice x.partsA x.parts.length x.partsc) ∧ w.cell? ⟨b,o + 2,none⟩ = some (.int .i64 x.major) ∧ w.cell? ⟨b,o + 3,none⟩ = some (.slice x.winsA x.wins.length x.winsc) ∧ w.cell? ⟨b,o + 4,none⟩ = some (.slice x.vlsA x.vls.length x.vlsc) ∧ w.cell? ⟨b,o + 5,none⟩ = some (.slice x.portsA x.ports.length x.portsc)
theorem CxAt.of_cells {w w' : World} {b o : Nat} {x : Cx} (h : CxAt w b o x) (hc : ∀ k,w'.cell? ⟨b,k,none⟩ = w.cell? ⟨b,k,none⟩) : CxAt w' b o x := by
  obtain ⟨h0,h1,h2,h3,h4,h5⟩ := h
  exact ⟨(hc _).trans h0,(hc _).trans h1,(hc _).trans h2,(hc _).trans h3,(hc _).trans h4,(hc _).trans h5⟩
theorem CxAt.below {w w' : World} {b o B : Nat} {x : Cx} (h : CxAt w b o x) (hb : Below B w w') (hlt : b < B) : CxAt w' b o x := h.of_cells fun _ => hb.cell hlt
theorem Cx.Held.below {w w' : World} {x : Cx} (h : x.Held w) (hb : Below w.heap.size w w') : x.Held w' := by
  obtain ⟨h0,h1,h2,h3⟩ := h
  exact ⟨IntsAt.below h0 hb,WnsAt.below h1 hb,VxsAt.below h2 hb,PxsAt.below h3 hb⟩
def CxsAt (w : World) (A : Option Addr) (l : List Cx) : Prop :=
  l ≠ [] → ∃ b off,A = some ⟨b,off,none⟩ ∧ b < w.heap.size ∧ ∀ i (h : i < l.length),CxAt w b (off + i * 6) l[i] ∧ l[i].Held w
theorem CxsAt.get {w : World} {A : Option Addr} {l : List Cx} (h : CxsAt w A l) {k : Nat} (hk : k < l.length) : ∃ b off,A = some ⟨b,off,none⟩ ∧ b < w.heap.size ∧ CxAt w b (off + k * 6) l[k] ∧ l[k].Held w := by
  obtain ⟨b,off,h1,h2,h3⟩ := h (fun e => by subst e;simp at hk)
  exact ⟨b,off,h1,h2,h3 k hk⟩
theorem CxsAt.below {w w' : World} {A : Option Addr} {l : List Cx} (h : CxsAt w A l) (hb : Below w.heap.size w w') : CxsAt w' A l := fun hne => by
  obtain ⟨b,off,h1,h2,h3⟩ := h hne
  exact ⟨b,off,h1,Nat.lt_of_lt_of_le h2 hb.size,fun i hi => ⟨(h3 i hi).1.below hb h2,(h3 i hi).2.below hb⟩⟩
section
variable {H : Type} {enc : TypeId × Value → H} {w W : World} {base b0 : Nat} {spare : Nat → Bool} {held : Bool} {r : Reach}
end
abbrev Wn.pl (x : Wn) : PitotConf.Win := ⟨x.part,x.beg,x.long⟩
abbrev Vx.pl (x : Vx) : PitotConf.Vl := ⟨x.id,x.host,x.bag,x.smax,x.high,x.subs,x.skew,x.to⟩
abbrev Px.pl (x : Px) : PitotConf.Prt := ⟨x.id,x.host,x.part,x.kind,x.out,x.vl,x.sub,x.udp,x.size,x.depth,x.fresh⟩
def Cx.pl (c : Cx) : PitotConf.Cf := ⟨c.hosts,c.parts,c.major,c.wins.map Wn.pl,c.vls.map Vx.pl,c.ports.map Px.pl⟩
end Go.Proofs.YtdgkanamceeheaaGreat
set_option maxRecDepth 100000
namespace Go.Proofs.YtdgkanamceeheaaGreat
open Go.RowKit
abbrev Cx.obj (c : Cx) : Obj := .cells #[.int .i64 c.hosts,.slice c.partsA c.parts.length c.partsc,.int .i64 c.major,.slice c.winsA c.wins.length c.winsc,.slice c.vlsA c.vls.length c.vlsc,.slice c.portsA c.ports.length c.portsc] 28
theorem host_any (c : Cx) (n : Int) (w : World) : Calls Tryz.prog 54 #[c.val,.int .i64 n] w fun e w' => e = .returned (.bool (PitotConf.isHost c.hosts n)) ∧ Below w.heap.size w w' := by
  have kb : Hid (Below w.heap.size w (w.alloc c.obj)) := (Below.refl _ w).alloc (Nat.le_refl _) _
  obtain ⟨R,HR⟩ : ∃ R,Hid (R = PitotConf.isHost c.hosts n) := ⟨_,rfl⟩
  rw [← HR.out]
  by_cases h1 : 0 ≤ n
  · have e1 : decide (0 ≤ n) = true := decide_eq_true h1
    by_cases h2 : n < c.hosts
    · have e2 : decide (n < c.hosts) = true := decide_eq_true h2
      have HC : Hid (R = true) := by show _ = _;rw [HR.out,PitotConf.isHost,e1,e2];rfl
      go_enter Tryz.func54,Tryz.ntmps54
      go_wp2
      go_returns
      rw [HC.out]
      exact ⟨rfl,kb.out⟩
    · have e2 : decide (n < c.hosts) = false := decide_eq_false h2
      have HC : Hid (R = false) := by show _ = _;rw [HR.out,PitotConf.isHost,e1,e2];rfl
      go_enter Tryz.func54,Tryz.ntmps54
      go_wp2
      go_returns
      rw [HC.out]
      exact ⟨rfl,kb.out⟩
  · have e1 : decide (0 ≤ n) = false := decide_eq_false h1
    have HC : Hid (R = false) := by show _ = _;rw [HR.out,PitotConf.isHost,e1];rfl
    go_enter Tryz.func54,Tryz.ntmps54
    go_wp2
    go_returns
    rw [HC.out]
    exact ⟨rfl,kb.out⟩
def isPart (parts : List Int) (n : Int) : Bool := decide (0 ≤ n) && decide (n < (parts.length : Int))
theorem part_any (c : Cx) (n : Int) (w : World) : Calls Tryz.prog 92 #[c.val,.int .i64 n] w fun e w' => e = .returned (.bool (isPart c.parts n)) ∧ Below w.heap.size w w' := by
  have kb : Hid (Below w.heap.size w (w.alloc c.obj)) := (Below.refl _ w).alloc (Nat.le_refl _) _
  obtain ⟨R,HR⟩ : ∃ R,Hid (R = isPart c.parts n) := ⟨_,rfl⟩
  rw [← HR.out]
  by_cases h1 : 0 ≤ n
  · have e1 : decide (0 ≤ n) = true := decide_eq_true h1
    by_cases h2 : n < (c.parts.length : Int)
    · have e2 : decide (n < (c.parts.length : Int)) = true := decide_eq_true h2
      have HC : Hid (R = true) := by show _ = _;rw [HR.out,isPart,e1,e2];rfl
      go_enter Tryz.func92,Tryz.ntmps92
      go_wp2
      go_returns
      rw [HC.out]
      exact ⟨rfl,kb.out⟩
    · have e2 : decide (n < (c.parts.length : Int)) = false := decide_eq_false h2
      have HC : Hid (R = false) := by show _ = _;rw [HR.out,isPart,e1,e2];rfl
      go_enter Tryz.func92,Tryz.ntmps92
      go_wp2
      go_returns
      rw [HC.out]
      exact ⟨rfl,kb.out⟩
  · have e1 : decide (0 ≤ n) = false := decide_eq_false h1
    have HC : Hid (R = false) := by show _ = _;rw [HR.out,isPart,e1];rfl
    go_enter Tryz.func92,Tryz.ntmps92
    go_wp2
    go_returns
    rw [HC.out]
    exact ⟨rfl,kb.out⟩
set_option maxHeartbeats 1000000 in
theorem has_any (A : Option Addr) (cap : Nat) (l : List Int) (n : Int) (w : World) (hx : IntsAt w A l) (hl : l.length ≤ maxLen) : Calls Tryz.prog 94 #[.slice A l.length cap,.int .i64 n] w fun e w' => e = .returned (.bool (l.contains n)) ∧ w = w' := by
  unfold maxLen at hl
  obtain ⟨m,Hm⟩ : ∃ m,Hid (l.length = m) := ⟨_,rfl⟩
  obtain ⟨R,HR⟩ : ∃ R,Hid (l.contains n = R) := ⟨_,rfl⟩
  rw [HR.out]
  rw [Hm.out] at hl ⊢
  have HX := Lib.hid hx;clear hx
  go_enter Tryz.func94,Tryz.ntmps94
  go_wp2
  go_loop [5] (fun v5 => ∃ k : Nat,k ≤ m ∧ v5 = .int .i64 k ∧ Hid ((l.drop k).contains n = R)) (fun v5 => m - (intOf v5).toNat)
  case atStart => exact ⟨0,Nat.zero_le _,rfl,HR.out⟩
  case round =>
    obtain ⟨k,hk,rfl,ht⟩ := hrel
    by_cases hkm : k < m
    · have hkl : k < l.length := by rw [Hm.out];exact hkm
      have e1 : decide ((k : Int) < (m : Int)) = true := decide_eq_true (by omega)
      have e1' : decide (k < m) = true := decide_eq_true hkm
      obtain ⟨b,off,rfl,hb,hc⟩ := HX.out.get hkl
      have hd : (l.drop k).contains n = ((n == l[k]) || (l.drop (k + 1)).contains n) := by rw [List.drop_eq_getElem_cons hkl,List.contains_cons]
      generalize l[k] = x at hc hd
      by_cases e : x = n
      · have e2 : (x == n) = true := by simpa using e
        have HT : Hid (R = true) := by show _ = _;rw [← ht.out,hd,e];simp
        clear hd e
        go_wp2
        go_returns
        rw [HT.out]
        exact ⟨rfl,rfl⟩
      · have e2 : (x == n) = false := by simpa using e
        have HT : Hid ((l.drop (k + 1)).contains n = R) := by
          show _ = _
          rw [← ht.out,hd,show (n == x) = false by simpa using fun h => e h.symm];rfl
        clear hd e
        go_wp2
        go_round
        case rel => exact ⟨k + 1,by omega,by go_num,HT⟩
        case measure => simp [intOf];omega
    · have e1 : decide ((k : Int) < (m : Int)) = false := decide_eq_false (by omega)
      have e1' : decide (k < m) = false := decide_eq_false hkm
      have HT : Hid (R = false) := by show _ = _;rw [← ht.out,List.drop_of_length_le (by rw [Hm.out];omega)];rfl
      go_wp2
      go_returns
      rw [HT.out]
      exact ⟨rfl,rfl⟩
set_option maxHeartbeats 2000000 in
theorem jitter_any (c : Cx) (h : Int) (w : World) (hc : c.Held w) (hl : c.vls.length ≤ 400) (hs : ∀ v ∈ c.vls,0 ≤ v.smax ∧ v.smax ≤ 10000) : Calls Tryz.prog 58 #[c.val,.int .i64 h] w fun e w' => e = .returned (.int .i64 (PitotConf.jitter (c.vls.map Vx.pl) h)) ∧ Below w.heap.size w w' := by
  have kb : Hid (Below w.heap.size w (w.alloc c.obj)) := (Below.refl _ w).alloc (Nat.le_refl _) _
  have HV : Hid (VxsAt w c.vlsA c.vls) := hc.2.2.1
  obtain ⟨R,HR⟩ : ∃ R,Hid (PitotConf.jitter (c.vls.map Vx.pl) h = R) := ⟨_,rfl⟩
  rw [HR.out]
  have HS := Lib.hid hs
  clear hc hs
  obtain ⟨hosts,pA,pc,parts,major,wA,wc,wins,vA,vc,vls,qA,qc,ports⟩ := c
  simp only at HV HR HS hl ⊢
  obtain ⟨m,Hm⟩ : ∃ m,Hid (vls.length = m) := ⟨_,rfl⟩
  show Calls Tryz.prog 58 #[.agg #[.int .i64 hosts,.slice pA parts.length pc,.int .i64 major,.slice wA wins.length wc,.slice vA vls.length vc,.slice qA ports.length qc],.int .i64 h] w _
  rw [Hm.out] at hl ⊢
  have kb : Hid (Below w.heap.size w (w.alloc (.cells #[.int .i64 hosts,.slice pA parts.length pc,.int .i64 major,.slice wA wins.length wc,.slice vA m vc,.slice qA ports.length qc] 28))) := (Below.refl _ w).alloc (Nat.le_refl _) _
  go_enter Tryz.func58,Tryz.ntmps58
  go_wp2
  go_loop [5,6] (fun v5 v6 => ∃ k : Nat,k ≤ m ∧ v6 = .int .i64 k ∧ v5 = .int .i64 (PitotConf.jitter ((vls.take k).map Vx.pl) h)) (fun _ v6 => m - (intOf v6).toNat)
  case atStart => exact ⟨0,Nat.zero_le _,rfl,rfl⟩
  case round =>
    obtain ⟨k,hk,rfl,rfl⟩ := hrel
    have hjl := PitotConf.jitter_le (l := (vls.take k).map Vx.pl) (fun v hv => by obtain ⟨u,hu,rfl⟩ := List.mem_map.1 hv;exact (HS.out u (List.mem_of_mem_take hu)).2) (fun v hv => by obtain ⟨u,hu,rfl⟩ := List.mem_map.1 hv;exact (HS.out u (List.mem_of_mem_take hu)).1) h
    have hlt : ((vls.take k).map Vx.pl).length ≤ 400 := by rw [List.length_map,List.length_take];omega
    by_cases hkm : k < m
    · have hkl : k < vls.length := by rw [Hm.out];exact hkm
      have e1 : decide ((k : Int) < (m : Int)) = true := decide_eq_true (by omega)
      have e1' : decide (k < m) = true := decide_eq_true hkm
      obtain ⟨b,off,rfl,hb,hat,_⟩ := HV.out.get hkl
      have hst : (vls.take (k + 1)).map Vx.pl = (vls.take k).map Vx.pl ++ [vls[k].pl] := by rw [List.take_succ_eq_append_getElem hkl,List.map_append];rfl
      have hj := PitotConf.jitter_snoc ((vls.take k).map Vx.pl) vls[k].pl h
      rw [← hst] at hj
      have hsx := HS.out _ (List.getElem_mem hkl)
      generalize vls[k] = x at hat hj hsx
      have hat := hat.below kb.out hb
      obtain ⟨a0,a1,a2,a3,a4,a5,a6,a7⟩ := hat
      have HJ := Lib.hid hj
      clear hst hj
      obtain ⟨J,HJJ⟩ : ∃ J,Hid (PitotConf.jitter ((vls.take k).map Vx.pl) h = J) := ⟨_,rfl⟩
      rw [HJJ.out] at hjl ⊢
      by_cases e : x.host = h
      · have e2 : (x.host == h) = true := by simpa using e
        have HT : Hid (PitotConf.jitter ((vls.take (k + 1)).map Vx.pl) h = J + x.smax + 20) := by show _ = _;rw [HJ.out,if_pos e,HJJ.out]
        clear e
        go_wp2
        go_round
        case rel => exact ⟨k + 1,by omega,by go_num,by rw [HT.out]⟩
        case measure => simp [intOf];omega
      · have e2 : (x.host == h) = false := by simpa using e
        have HT : Hid (PitotConf.jitter ((vls.take (k + 1)).map Vx.pl) h = J) := by show _ = _;rw [HJ.out,if_neg e,HJJ.out]
        clear e
        go_wp2
        go_round
        case rel => exact ⟨k + 1,by omega,by go_num,by rw [HT.out]⟩
        case measure => simp [intOf];omega
    · have e1 : decide ((k : Int) < (m : Int)) = false := decide_eq_false (by omega)
      have e1' : decide (k < m) = false := decide_eq_false hkm
      have HT : Hid (PitotConf.jitter ((vls.take k).map Vx.pl) h = R) := by show _ = _;rw [List.take_of_length_le (by rw [Hm.out];omega),HR.out]
      rw [HT.out]
      go_wp2
      go_returns
      exact ⟨rfl,kb.out⟩
end Go.Proofs.YtdgkanamceeheaaGreat
