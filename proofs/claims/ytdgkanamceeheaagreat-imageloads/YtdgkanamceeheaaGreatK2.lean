/- Networks as bytes, in plain words (chapter 11): an image, what is read of bytes, and what follows. It imports nothing of the program. -/
import Derived.Test.YtdgkanamceeheaaGreatK1
set_option linter.unusedVariables false
namespace Go.Proofs.PitotImg
open Go.Proofs.PitotMath Go.Proofs.PitotConf
open Go.Proofs.PitotCrc (sealed opened)
abbrev P (α : Type) := List UInt8 → Except Int (α × List UInt8)
def u (k : Nat) : P Int := fun l => if k ≤ l.length then .ok ((num (l.take k) : Int),l.drop k) else .error 10
def ret {α : Type} (a : α) : P α := fun l => .ok (a,l)
def bind {α β : Type} (p : P α) (f : α → P β) : P β := fun l => match p l with
  | .ok x => f x.1 x.2
  | .error e => .error e
def rep {α : Type} (p : P α) : Nat → P (List α)
  | 0 => ret []
  | n + 1 => bind p fun a => bind (rep p n) fun az => ret (a :: az)
def many {α : Type} (p : P α) : P (List α) := bind (u 2) fun n => rep p n.toNat
def w (k : Nat) (n : Int) : List UInt8 := be k n.toNat
def fits (k : Nat) (n : Int) : Prop := 0 ≤ n ∧ n < ((256 ^ k : Nat) : Int)
def manyW {α : Type} (e : α → List UInt8) (l : List α) : List UInt8 := w 2 l.length ++ l.flatMap e
theorem bind_ok {α β : Type} {p : P α} {f : α → P β} {l r : List UInt8} {b : β} : bind p f l = .ok (b,r) ↔ ∃ a r',p l = .ok (a,r') ∧ f a r' = .ok (b,r) := by
  unfold bind
  cases h : p l with
  | error e => simp
  | ok x =>
    obtain ⟨a,r'⟩ := x
    simp only [Except.ok.injEq,Prod.mk.injEq]
    exact ⟨fun h => ⟨a,r',⟨rfl,rfl⟩,h⟩,by rintro ⟨_,_,⟨rfl,rfl⟩,h⟩;exact h⟩
theorem bind_of {α β : Type} {p : P α} {f : α → P β} {l r' : List UInt8} {a : α} (h : p l = .ok (a,r')) : bind p f l = f a r' := by
  unfold bind;rw [h]
theorem w_length (k : Nat) (n : Int) : (w k n).length = k := be_length k _
theorem u_ok {k : Nat} {n : Int} {l r : List UInt8} (h : u k l = .ok (n,r)) : l = w k n ++ r ∧ fits k n := by
  unfold u at h
  by_cases hk : k ≤ l.length
  · rw [if_pos hk] at h
    injection h with h
    injection h with h1 h2
    subst h1;subst h2
    have hlen : (l.take k).length = k := by rw [List.length_take];omega
    have e : w k (num (l.take k) : Int) = l.take k := by
      unfold w
      have := be_num (l.take k)
      rw [hlen] at this
      simpa using this
    refine ⟨by rw [e,List.take_append_drop],by omega,?_⟩
    have := num_lt (l.take k)
    rw [hlen] at this
    omega
  · rw [if_neg hk] at h;cases h
section
variable {α : Type} {p : P α} {e : α → List UInt8} {ok : α → Prop}
theorem rep_ok (hp : ∀ l a r,p l = .ok (a,r) → l = e a ++ r) : ∀ (n : Nat) (l : List UInt8) (az : List α) (r : List UInt8),rep p n l = .ok (az,r) → l = az.flatMap e ++ r ∧ az.length = n
  | 0,l,az,r,h => by
    have h : (Except.ok ([],l) : Except Int _) = .ok (az,r) := h
    injection h with h
    injection h with h1 h2
    subst h1;subst h2
    exact ⟨rfl,rfl⟩
  | n + 1,l,az,r,h => by
    obtain ⟨a,r1,h1,h2⟩ := bind_ok.1 h
    obtain ⟨az',r2,h3,h4⟩ := bind_ok.1 h2
    have h4 : (Except.ok (a :: az',r2) : Except Int _) = .ok (az,r) := h4
    injection h4 with h4
    injection h4 with h5 h6
    subst h5;subst h6
    obtain ⟨h7,h8⟩ := rep_ok hp n r1 az' r2 h3
    rw [hp l a r1 h1,h7]
    exact ⟨by simp,by simp [h8]⟩
theorem rep_all {q : α → Prop} (hp : ∀ l a r,p l = .ok (a,r) → q a) : ∀ (n : Nat) (l : List UInt8) (az : List α) (r : List UInt8),rep p n l = .ok (az,r) → ∀ a ∈ az,q a
  | 0,l,az,r,h => by
    have h : (Except.ok ([],l) : Except Int _) = .ok (az,r) := h
    injection h with h
    injection h with h1 h2
    subst h1
    intro a ha;cases ha
  | n + 1,l,az,r,h => by
    obtain ⟨a,r1,h1,h2⟩ := bind_ok.1 h
    obtain ⟨az',r2,h3,h4⟩ := bind_ok.1 h2
    have h4 : (Except.ok (a :: az',r2) : Except Int _) = .ok (az,r) := h4
    injection h4 with h4
    injection h4 with h5 h6
    subst h5
    intro b hb
    rcases List.mem_cons.1 hb with rfl | hb
    · exact hp l _ r1 h1
    · exact rep_all hp n r1 az' r2 h3 b hb
theorem many_ok (hp : ∀ l a r,p l = .ok (a,r) → l = e a ++ r) {l r : List UInt8} {az : List α} (h : many p l = .ok (az,r)) : l = manyW e az ++ r ∧ az.length < 65536 := by
  obtain ⟨n,r1,h1,h2⟩ := bind_ok.1 h
  obtain ⟨h3,h4⟩ := u_ok h1
  obtain ⟨h5,h6⟩ := rep_ok hp _ _ _ _ h2
  have hn : n = (az.length : Int) := by have := h4.1;omega
  refine ⟨by rw [h3,h5,hn,manyW,List.append_assoc],?_⟩
  have := h4.2
  have : n < 65536 := this
  omega
end
def winW (x : Win) : List UInt8 := w 2 x.part ++ (w 4 x.beg ++ w 4 x.long)
def winR : P Win := bind (u 2) fun a => bind (u 4) fun b => bind (u 4) fun c => ret ⟨a,b,c⟩
def vlByte (x : Vl) : Int := 16 * x.bag + (if x.high = true then 8 else 0) + x.subs
def vlW (x : Vl) : List UInt8 := w 2 x.id ++ (w 2 x.host ++ (w 1 (vlByte x) ++ (w 2 x.smax ++ (w 4 x.skew ++ manyW (w 2) x.to))))
def vlR : P Vl := bind (u 2) fun id => bind (u 2) fun host => bind (u 1) fun b => bind (u 2) fun smax => bind (u 4) fun skew => bind (many (u 2)) fun to_ => ret ⟨id,host,b / 16,smax,decide (b / 8 % 2 = 1),b % 8,skew,to_⟩
def prtByte (x : Prt) : Int := 64 * x.kind + (if x.out = true then 32 else 0) + x.sub
def prtW (x : Prt) : List UInt8 := w 4 x.id ++ (w 2 x.host ++ (w 2 x.part ++ (w 1 (prtByte x) ++ (w 2 x.vl ++ (w 2 x.udp ++ (w 2 x.size ++ (w 2 x.depth ++ (w 4 (x.fresh / 4294967296) ++ w 4 (x.fresh % 4294967296)))))))))
def prtR : P Prt := bind (u 4) fun id => bind (u 2) fun host => bind (u 2) fun part => bind (u 1) fun b => bind (u 2) fun vl => bind (u 2) fun udp => bind (u 2) fun size => bind (u 2) fun depth => bind (u 4) fun hi => bind (u 4) fun lo =>
  fun l => if 1099511627776 < hi * 4294967296 + lo then .error 1 else .ok (⟨id,host,part,b / 64,decide (b / 32 % 2 = 1),vl,b % 32,udp,size,depth,hi * 4294967296 + lo⟩,l)
def cfW (c : Cf) : List UInt8 := w 2 c.hosts ++ (manyW (w 2) c.parts ++ (w 4 c.major ++ (manyW winW c.wins ++ (manyW vlW c.vls ++ manyW prtW c.ports))))
def cfR : P Cf := bind (u 2) fun hosts => bind (many (u 2)) fun parts => bind (u 4) fun major => bind (many winR) fun wins => bind (many vlR) fun vls => bind (many prtR) fun ports => ret ⟨hosts,parts,major,wins,vls,ports⟩
def magic : List UInt8 := [65,70,68,88,0,1]
def encode (c : Cf) : Except Int (List UInt8) :=
  if (check c).2.2 ≠ 0 then .error (check c).2.2
  else if c.ports.any (fun p => decide (4294967295 < p.id)) = true then .error 11
  else .ok (sealed (magic ++ cfW c))
def load (s : List UInt8) : Except Int Cf :=
  if s.length < 4 then .error 10
  else if opened s = false then .error 12
  else
    let t := s.take (s.length - 4)
    if t.length < 6 then .error 10
    else if t.take 6 ≠ magic then .error 13
    else match cfR (t.drop 6) with
    | .error e => .error e
    | .ok x => if x.2 ≠ [] then .error 11 else if (check x.1).2.2 ≠ 0 then .error (check x.1).2.2 else .ok x.1
theorem winR_ok (l : List UInt8) (x : Win) (r : List UInt8) (h : winR l = .ok (x,r)) : l = winW x ++ r := by
  obtain ⟨a,r1,h1,h⟩ := bind_ok.1 h
  obtain ⟨b,r2,h2,h⟩ := bind_ok.1 h
  obtain ⟨c,r3,h3,h⟩ := bind_ok.1 h
  have h : (Except.ok (⟨a,b,c⟩,r3) : Except Int (Win × List UInt8)) = .ok (x,r) := h
  injection h with h
  injection h with e1 e2
  subst e1;subst e2
  rw [(u_ok h1).1,(u_ok h2).1,(u_ok h3).1]
  simp [winW]
def vlOk (x : Vl) : Prop := fits 2 x.id ∧ fits 2 x.host ∧ (0 ≤ x.bag ∧ x.bag ≤ 15) ∧ fits 2 x.smax ∧ (0 ≤ x.subs ∧ x.subs ≤ 7) ∧ fits 4 x.skew ∧ (∀ t ∈ x.to,fits 2 t) ∧ x.to.length < 65536
theorem vlR_ok (l : List UInt8) (x : Vl) (r : List UInt8) (h : vlR l = .ok (x,r)) : l = vlW x ++ r := by
  obtain ⟨id,r1,h1,h⟩ := bind_ok.1 h
  obtain ⟨host,r2,h2,h⟩ := bind_ok.1 h
  obtain ⟨b,r3,h3,h⟩ := bind_ok.1 h
  obtain ⟨smax,r4,h4,h⟩ := bind_ok.1 h
  obtain ⟨skew,r5,h5,h⟩ := bind_ok.1 h
  obtain ⟨to_,r6,h6,h⟩ := bind_ok.1 h
  have h : (Except.ok (⟨id,host,b / 16,smax,decide (b / 8 % 2 = 1),b % 8,skew,to_⟩,r6) : Except Int (Vl × List UInt8)) = .ok (x,r) := h
  injection h with h
  injection h with e1 e2
  subst e1;subst e2
  obtain ⟨g3,g3a,g3b⟩ := u_ok h3
  have g3b : b < 256 := g3b
  have eb : vlByte ⟨id,host,b / 16,smax,decide (b / 8 % 2 = 1),b % 8,skew,to_⟩ = b := by
    unfold vlByte
    simp only
    by_cases hh : b / 8 % 2 = 1
    · rw [decide_eq_true hh,if_pos rfl];omega
    · rw [decide_eq_false hh,if_neg (by decide)];omega
  rw [(u_ok h1).1,(u_ok h2).1,g3,(u_ok h4).1,(u_ok h5).1,(many_ok (fun l a r h => (u_ok h).1) h6).1]
  simp only [vlW,List.append_assoc]
  rw [eb]
def prtOk (x : Prt) : Prop := fits 4 x.id ∧ fits 2 x.host ∧ fits 2 x.part ∧ (0 ≤ x.kind ∧ x.kind ≤ 3) ∧ fits 2 x.vl ∧ (0 ≤ x.sub ∧ x.sub ≤ 31) ∧ fits 2 x.udp ∧ fits 2 x.size ∧ fits 2 x.depth ∧ (0 ≤ x.fresh ∧ x.fresh ≤ 1099511627776)
theorem prtR_ok (l : List UInt8) (x : Prt) (r : List UInt8) (h : prtR l = .ok (x,r)) : l = prtW x ++ r := by
  obtain ⟨id,r1,h1,h⟩ := bind_ok.1 h
  obtain ⟨host,r2,h2,h⟩ := bind_ok.1 h
  obtain ⟨part,r3,h3,h⟩ := bind_ok.1 h
  obtain ⟨b,r4,h4,h⟩ := bind_ok.1 h
  obtain ⟨vl,r5,h5,h⟩ := bind_ok.1 h
  obtain ⟨udp,r6,h6,h⟩ := bind_ok.1 h
  obtain ⟨size,r7,h7,h⟩ := bind_ok.1 h
  obtain ⟨depth,r8,h8,h⟩ := bind_ok.1 h
  obtain ⟨hi,r9,h9,h⟩ := bind_ok.1 h
  obtain ⟨lo,r10,h10,h⟩ := bind_ok.1 h
  obtain ⟨g4,g4a,g4b⟩ := u_ok h4
  obtain ⟨g9,g9a,g9b⟩ := u_ok h9
  obtain ⟨g10,g10a,g10b⟩ := u_ok h10
  have g4b : b < 256 := g4b
  have g9b : hi < 4294967296 := g9b
  have g10b : lo < 4294967296 := g10b
  by_cases hw : 1099511627776 < hi * 4294967296 + lo
  · rw [if_pos hw] at h;cases h
  rw [if_neg hw] at h
  injection h with h
  injection h with e1 e2
  subst e1;subst e2
  have eb : prtByte ⟨id,host,part,b / 64,decide (b / 32 % 2 = 1),vl,b % 32,udp,size,depth,hi * 4294967296 + lo⟩ = b := by
    unfold prtByte
    simp only
    by_cases hh : b / 32 % 2 = 1
    · rw [decide_eq_true hh,if_pos rfl];omega
    · rw [decide_eq_false hh,if_neg (by decide)];omega
  have ef1 : (hi * 4294967296 + lo) / 4294967296 = hi := by omega
  have ef2 : (hi * 4294967296 + lo) % 4294967296 = lo := by omega
  rw [(u_ok h1).1,(u_ok h2).1,(u_ok h3).1,g4,(u_ok h5).1,(u_ok h6).1,(u_ok h7).1,(u_ok h8).1,g9,g10]
  simp only [prtW,List.append_assoc]
  rw [eb,ef1,ef2]
def cfOk (c : Cf) : Prop := fits 2 c.hosts ∧ ((∀ t ∈ c.parts,fits 2 t) ∧ c.parts.length < 65536) ∧ fits 4 c.major ∧ ((∀ x ∈ c.wins,fits 2 x.part ∧ fits 4 x.beg ∧ fits 4 x.long) ∧ c.wins.length < 65536) ∧ ((∀ x ∈ c.vls,vlOk x) ∧ c.vls.length < 65536) ∧ ((∀ x ∈ c.ports,prtOk x) ∧ c.ports.length < 65536)
theorem cfR_ok {l : List UInt8} {c : Cf} {r : List UInt8} (h : cfR l = .ok (c,r)) : l = cfW c ++ r := by
  obtain ⟨hosts,r1,h1,h⟩ := bind_ok.1 h
  obtain ⟨parts,r2,h2,h⟩ := bind_ok.1 h
  obtain ⟨major,r3,h3,h⟩ := bind_ok.1 h
  obtain ⟨wins,r4,h4,h⟩ := bind_ok.1 h
  obtain ⟨vls,r5,h5,h⟩ := bind_ok.1 h
  obtain ⟨ports,r6,h6,h⟩ := bind_ok.1 h
  have h : (Except.ok (⟨hosts,parts,major,wins,vls,ports⟩,r6) : Except Int (Cf × List UInt8)) = .ok (c,r) := h
  injection h with h
  injection h with e1 e2
  subst e1;subst e2
  rw [(u_ok h1).1,(many_ok (fun l a r h => (u_ok h).1) h2).1,(u_ok h3).1,(many_ok winR_ok h4).1,(many_ok vlR_ok h5).1,(many_ok prtR_ok h6).1]
  simp [cfW]
theorem scan_len {α : Type} {J : List α → α → Int} {n : Nat} (hn : ∀ pre x,n ≤ pre.length → J pre x ≠ 0) {l : List α} (h : scan J [] l = none) : l.length ≤ n := by
  apply Classical.byContradiction
  intro hl
  have := (scan_none l []).1 h n (by omega)
  rw [List.nil_append] at this
  exact hn _ _ (by rw [List.length_take];omega) this
theorem parts_fit {c : Cf} (h : May c) : (∀ t ∈ c.parts,0 ≤ t ∧ t < 64) ∧ c.parts.length ≤ 64 := by
  have hh := h.hosts
  refine ⟨fun t ht => ?_,scan_len (fun pre x hp => by unfold partJ;rw [if_pos (Or.inl hp)];decide) h.parts⟩
  obtain ⟨i,hi,rfl⟩ := List.mem_iff_getElem.1 ht
  have := mem_take_lt hi _ h.parts
  unfold partJ at this
  have hb := (ite0 (by decide) this).1
  simp only [not_or,Bool.not_eq_false] at hb
  have := isHost_iff.1 hb.2
  omega
theorem wins_fit {c : Cf} (h : May c) : (∀ x ∈ c.wins,fits 2 x.part ∧ fits 4 x.beg ∧ fits 4 x.long) ∧ c.wins.length ≤ 256 := by
  have hp := (parts_fit h).2
  have hm := h.major
  refine ⟨fun x hx => ?_,scan_len (fun pre x hp => by unfold winJ;rw [if_pos (Or.inl hp)];decide) h.wins⟩
  obtain ⟨i,hi,rfl⟩ := List.mem_iff_getElem.1 hx
  obtain ⟨h1,h2,h3,h4,_⟩ := h.win i hi
  have h1 := hostOf_some h1
  exact ⟨⟨by omega,by show _ < (65536 : Int);omega⟩,⟨by omega,by show _ < (4294967296 : Int);omega⟩,⟨by omega,by show _ < (4294967296 : Int);omega⟩⟩
theorem vls_fit {c : Cf} (h : May c) (ht : ∀ v ∈ c.vls,v.to.length < 65536) : (∀ x ∈ c.vls,vlOk x ∧ 1 ≤ x.id ∧ x.id ≤ 65535 ∧ x.subs ≤ 4) ∧ c.vls.length ≤ 256 := by
  have hh := h.hosts
  refine ⟨fun x hx => ?_,scan_len (fun pre x hp => by unfold linkJ;rw [if_pos (Or.inl hp)];decide) h.vls⟩
  have hl := h.link hx
  have hto := ht x hx
  obtain ⟨i,hi,rfl⟩ := List.mem_iff_getElem.1 hx
  have := mem_take_lt hi _ h.vls
  unfold linkJ at this
  have hb := (ite0 (by decide) this).1
  simp only [not_or] at hb
  obtain ⟨_,g1,g2,_,g4,g5,g6,g7,g8,g9,g10,g11,_⟩ := hb
  refine ⟨⟨⟨by omega,by show _ < (65536 : Int);omega⟩,⟨by omega,by show _ < (65536 : Int);omega⟩,by omega,⟨by omega,by show _ < (65536 : Int);omega⟩,by omega,⟨by omega,by show _ < (4294967296 : Int);omega⟩,fun t htt => ?_,hto⟩,by omega,by omega,by omega⟩
  have := hl.2.2.2.2 t htt
  exact ⟨by omega,by show _ < (65536 : Int);omega⟩
theorem ports_fit {c : Cf} (h : May c) (ht : ∀ v ∈ c.vls,v.to.length < 65536) (hid : ∀ p ∈ c.ports,p.id ≤ 4294967295) : (∀ x ∈ c.ports,prtOk x) ∧ c.ports.length ≤ 512 := by
  have hpp := (parts_fit h)
  have hvv := (vls_fit h ht).1
  refine ⟨fun x hx => ?_,scan_len (fun pre x hp => by unfold portJ;rw [if_pos (Or.inl hp)];decide) h.ports⟩
  have hi2 := hid x hx
  obtain ⟨v,hv,hho,_⟩ := h.port hx
  have hvm := vlOf_some hv
  obtain ⟨_,v1,v2,v3⟩ := hvv v hvm.1
  have hpt := hostOf_some (parts := c.parts) (n := x.part) (by rw [hho];simp)
  have hhost : 0 ≤ x.host ∧ x.host < 64 := by
    unfold hostOf at hho
    rw [if_pos hpt.1] at hho
    exact hpp.1 _ (List.mem_of_getElem? hho)
  obtain ⟨i,hi,rfl⟩ := List.mem_iff_getElem.1 hx
  have := mem_take_lt hi _ h.ports
  unfold portJ at this
  obtain ⟨g1,this⟩ := ite0 (by decide) this
  obtain ⟨_,this⟩ := ite0 (by decide) this
  obtain ⟨_,this⟩ := ite0 (by decide) this
  rw [hv] at this
  simp only at this
  obtain ⟨_,this⟩ := ite0 (by decide) this
  obtain ⟨g5,this⟩ := ite0 (by decide) this
  obtain ⟨g6,this⟩ := ite0 (by decide) this
  obtain ⟨g7,_⟩ := ite0 (by decide) this
  simp only [not_or] at g1 g5
  obtain ⟨_,a1,a2,_,a4,a5,a6,a7⟩ := g1
  obtain ⟨b1,b2,b3⟩ := g5
  have hsub : 0 ≤ c.ports[i].sub ∧ c.ports[i].sub ≤ 31 := by
    cases ho : c.ports[i].out with
    | true => have : ¬ (v.subs ≤ c.ports[i].sub) := fun hh => b2 ⟨ho,hh⟩;omega
    | false => have : ¬ (c.ports[i].sub ≠ 0) := fun hh => b3 ⟨ho,hh⟩;omega
  have hkind : c.ports[i].kind = 1 ∨ c.ports[i].kind = 2 := by omega
  have hdf : (0 ≤ c.ports[i].depth ∧ c.ports[i].depth ≤ 64) ∧ 0 ≤ c.ports[i].fresh ∧ c.ports[i].fresh ≤ 1099511627776 := by
    rcases hkind with hk | hk
    · have h7 : ¬ (c.ports[i].depth ≠ 0 ∨ (c.ports[i].out = true ∧ c.ports[i].fresh ≠ 0) ∨ (c.ports[i].out = false ∧ (c.ports[i].fresh < 1 ∨ 1099511627776 < c.ports[i].fresh))) := fun hh => g7 ⟨hk,hh⟩
      simp only [not_or] at h7
      obtain ⟨c1,c2,c3⟩ := h7
      refine ⟨by omega,?_⟩
      cases ho : c.ports[i].out with
      | true => have : ¬ (c.ports[i].fresh ≠ 0) := fun hh => c2 ⟨ho,hh⟩;omega
      | false => have : ¬ (c.ports[i].fresh < 1 ∨ 1099511627776 < c.ports[i].fresh) := fun hh => c3 ⟨ho,hh⟩;omega
    · have h6 : ¬ (c.ports[i].depth < 1 ∨ 64 < c.ports[i].depth ∨ c.ports[i].fresh ≠ 0) := fun hh => g6 ⟨hk,hh⟩
      omega
  have hvl : c.ports[i].vl = v.id := hvm.2.symm
  exact ⟨⟨by omega,by show _ < (4294967296 : Int);omega⟩,⟨by omega,by show _ < (65536 : Int);omega⟩,⟨by omega,by show _ < (65536 : Int);omega⟩,by omega,⟨by omega,by show _ < (65536 : Int);omega⟩,hsub,⟨by omega,by show _ < (65536 : Int);omega⟩,⟨by omega,by show _ < (65536 : Int);omega⟩,⟨by omega,by show _ < (65536 : Int);omega⟩,hdf.2⟩
theorem may_ok {c : Cf} (h : May c) (ht : ∀ v ∈ c.vls,v.to.length < 65536) (hid : ∀ p ∈ c.ports,p.id ≤ 4294967295) : cfOk c := by
  have h1 := h.hosts
  have h2 := (parts_fit h)
  have h3 := h.major
  have h4 := wins_fit h
  have h5 := vls_fit h ht
  have h6 := ports_fit h ht hid
  exact ⟨⟨by omega,by show _ < (65536 : Int);omega⟩,⟨fun t htt => by have := h2.1 t htt;exact ⟨by omega,by show _ < (65536 : Int);omega⟩,by omega⟩,⟨by omega,by show _ < (4294967296 : Int);omega⟩,⟨h4.1,by omega⟩,⟨fun x hx => (h5.1 x hx).1,by omega⟩,⟨h6.1,by omega⟩⟩
theorem again {c : Cf} {s : List UInt8} (h : load s = .ok c) : (check c).2.2 = 0 ∧ encode c = .ok s ∧ ∀ v ∈ c.vls,v.to.length < 65536 := by
  unfold load at h
  by_cases h1 : s.length < 4
  · rw [if_pos h1] at h;cases h
  rw [if_neg h1] at h
  by_cases h2 : opened s = false
  · rw [if_pos h2] at h;cases h
  rw [if_neg h2] at h
  simp only at h
  obtain ⟨t,ht⟩ : ∃ t,s.take (s.length - 4) = t := ⟨_,rfl⟩
  rw [ht] at h
  by_cases h3 : t.length < 6
  · rw [if_pos h3] at h;cases h
  rw [if_neg h3] at h
  by_cases h4 : t.take 6 ≠ magic
  · rw [if_pos h4] at h;cases h
  rw [if_neg h4] at h
  have h4 : t.take 6 = magic := Classical.byContradiction h4
  cases hr : cfR (t.drop 6) with
  | error e => rw [hr] at h;cases h
  | ok x =>
    obtain ⟨c',r⟩ := x
    rw [hr] at h
    simp only at h
    by_cases h5 : r ≠ []
    · rw [if_pos h5] at h;cases h
    rw [if_neg h5] at h
    have h5 : r = [] := Classical.byContradiction h5
    by_cases h6 : (check c').2.2 ≠ 0
    · rw [if_pos h6] at h;cases h
    rw [if_neg h6] at h
    injection h with h
    subst h
    subst h5
    have h6 : (check c').2.2 = 0 := by omega
    have hb := cfR_ok hr
    rw [List.append_nil] at hb
    have hts : t = magic ++ cfW c' := by rw [← hb,← h4,List.take_append_drop]
    have hs : sealed t = s := by
      have h2 : opened s = true := by simpa using h2
      unfold opened at h2
      rw [ht] at h2
      exact of_decide_eq_true h2
    have hports : ∀ p ∈ c'.ports,p.id ≤ 4294967295 := by
      obtain ⟨_,r1,_,h⟩ := bind_ok.1 hr
      obtain ⟨_,r2,_,h⟩ := bind_ok.1 h
      obtain ⟨_,r3,_,h⟩ := bind_ok.1 h
      obtain ⟨_,r4,_,h⟩ := bind_ok.1 h
      obtain ⟨_,r5,_,h⟩ := bind_ok.1 h
      obtain ⟨ports,r6,h7,h⟩ := bind_ok.1 h
      injection h with h
      injection h with e1 e2
      subst e1
      obtain ⟨n,r7,_,h8⟩ := bind_ok.1 h7
      refine rep_all (q := fun p : Prt => p.id ≤ 4294967295) (fun l a r ha => ?_) _ _ _ _ h8
      obtain ⟨id,r8,h9,ha⟩ := bind_ok.1 ha
      have hid := (u_ok h9).2.2
      have hid : id < 4294967296 := hid
      obtain ⟨_,_,_,ha⟩ := bind_ok.1 ha
      obtain ⟨_,_,_,ha⟩ := bind_ok.1 ha
      obtain ⟨_,_,_,ha⟩ := bind_ok.1 ha
      obtain ⟨_,_,_,ha⟩ := bind_ok.1 ha
      obtain ⟨_,_,_,ha⟩ := bind_ok.1 ha
      obtain ⟨_,_,_,ha⟩ := bind_ok.1 ha
      obtain ⟨_,_,_,ha⟩ := bind_ok.1 ha
      obtain ⟨hi,_,_,ha⟩ := bind_ok.1 ha
      obtain ⟨lo,_,_,ha⟩ := bind_ok.1 ha
      by_cases hw : 1099511627776 < hi * 4294967296 + lo
      · rw [if_pos hw] at ha;cases ha
      rw [if_neg hw] at ha
      injection ha with ha
      injection ha with e1 e2
      subst e1
      show id ≤ 4294967295
      omega
    have hto : ∀ v ∈ c'.vls,v.to.length < 65536 := by
      obtain ⟨_,r1,_,h⟩ := bind_ok.1 hr
      obtain ⟨_,r2,_,h⟩ := bind_ok.1 h
      obtain ⟨_,r3,_,h⟩ := bind_ok.1 h
      obtain ⟨_,r4,_,h⟩ := bind_ok.1 h
      obtain ⟨vls,r5,h7,h⟩ := bind_ok.1 h
      obtain ⟨_,r6,_,h⟩ := bind_ok.1 h
      injection h with h
      injection h with e1 e2
      subst e1
      obtain ⟨n,r7,_,h8⟩ := bind_ok.1 h7
      refine rep_all (q := fun v : Vl => v.to.length < 65536) (fun l a r ha => ?_) _ _ _ _ h8
      obtain ⟨_,_,_,ha⟩ := bind_ok.1 ha
      obtain ⟨_,_,_,ha⟩ := bind_ok.1 ha
      obtain ⟨_,_,_,ha⟩ := bind_ok.1 ha
      obtain ⟨_,_,_,ha⟩ := bind_ok.1 ha
      obtain ⟨_,_,_,ha⟩ := bind_ok.1 ha
      obtain ⟨to_,_,h9,ha⟩ := bind_ok.1 ha
      injection ha with ha
      injection ha with e1 e2
      subst e1
      exact (many_ok (fun l a r h => (u_ok h).1) h9).2
    refine ⟨h6,?_,hto⟩
    unfold encode
    rw [if_neg (by omega),if_neg (by
      intro hh
      obtain ⟨p,hp,hd⟩ := List.any_eq_true.1 hh
      have := hports p hp
      have := of_decide_eq_true hd
      omega),← hts,hs]
theorem told {c : Cf} {s : List UInt8} (h : encode c = .ok s) (k : Nat) (hk : k < s.length) (v : UInt8) (hv : v ≠ s[k]) : load (s.set k v) = .error 12 := by
  unfold encode at h
  by_cases h1 : (check c).2.2 ≠ 0
  · rw [if_pos h1] at h;cases h
  rw [if_neg h1] at h
  by_cases h2 : c.ports.any (fun p => decide (4294967295 < p.id)) = true
  · rw [if_pos h2] at h;cases h
  rw [if_neg h2] at h
  injection h with h
  subst h
  have hlen : (sealed (magic ++ cfW c)).length = (magic ++ cfW c).length + 4 := Go.Proofs.PitotCrc.sealed_length _
  unfold load
  rw [if_neg (by rw [List.length_set];omega),Go.Proofs.PitotCrc.opened_turn _ k hk v hv,if_pos rfl]
end Go.Proofs.PitotImg
