/- How great what is read may be. It imports nothing of the program. What is read lies in memory: lists that a call makes. -/
import Derived.Test.YtdgkanamceeheaaGreatK6
import Derived.Test.YtdgkanamceeheaaGreatK10
import Derived.Test.YtdgkanamceeheaaGreatK4
set_option linter.unusedVariables false
set_option linter.unusedVariables false
namespace Go.Proofs.PitotImg
open Go.Proofs.PitotMath Go.Proofs.PitotConf
theorem flat_of {α : Type} (E : α → List UInt8) (c : Nat) : ∀ (xs : List α),(∀ x ∈ xs,c ≤ (E x).length) → c * xs.length ≤ (xs.flatMap E).length
  | [],_ => by simp
  | y :: ys,h => by
    rw [List.flatMap_cons,List.length_append,List.length_cons,Nat.mul_add]
    have := h y (List.mem_cons_self ..)
    have := flat_of E c ys (fun x hx => h x (List.mem_cons_of_mem _ hx))
    omega
theorem flat_mem {α : Type} (E : α → List UInt8) : ∀ (xs : List α) (x : α),x ∈ xs → (E x).length ≤ (xs.flatMap E).length
  | [],x,h => by cases h
  | y :: ys,x,h => by
    rw [List.flatMap_cons,List.length_append]
    rcases List.mem_cons.1 h with rfl | h
    · omega
    · have := flat_mem E ys x h;omega
theorem manyW_of {α : Type} (E : α → List UInt8) (xs : List α) : (manyW E xs).length = 2 + (xs.flatMap E).length := by rw [manyW,List.length_append,w_length]
theorem winW_l (x : Win) : (winW x).length = 10 := by simp only [winW,List.length_append,w_length]
theorem vlW_l (x : Vl) : 13 + 2 * x.to.length ≤ (vlW x).length := by
  have := flat_of (w 2) 2 x.to (fun y _ => by rw [w_length];omega)
  simp only [vlW,List.length_append,w_length,manyW_of];omega
theorem prtW_l (x : Prt) : (prtW x).length = 25 := by simp only [prtW,List.length_append,w_length]
theorem cf_sizes (c : Cf) : 2 * c.parts.length + 10 * c.wins.length + 13 * c.vls.length + 25 * c.ports.length ≤ (cfW c).length ∧ ∀ v ∈ c.vls,2 * v.to.length ≤ (cfW c).length := by
  have a := flat_of (w 2) 2 c.parts (fun y _ => by rw [w_length];omega)
  have b := flat_of winW 10 c.wins (fun y _ => by rw [winW_l];omega)
  have d := flat_of vlW 13 c.vls (fun y _ => by have := vlW_l y;omega)
  have e := flat_of prtW 25 c.ports (fun y _ => by rw [prtW_l];omega)
  simp only [cfW,List.length_append,w_length,manyW_of]
  refine ⟨by omega,fun v hv => ?_⟩
  have := flat_mem vlW c.vls v hv
  have := vlW_l v
  omega
def Few8 (n : Int) : Prop := 0 ≤ n ∧ n ≤ 4398046511104
theorem u_few {k : Nat} (hk : k ≤ 4) {n : Int} {l r : List UInt8} (h : u k l = .ok (n,r)) : Few8 n := by
  have h2 := (u_ok h).2
  have h3 : ((256 ^ k : Nat) : Int) ≤ 4294967296 := by
    have : 256 ^ k ≤ 256 ^ 4 := Nat.pow_le_pow_right (by omega) hk
    have : 256 ^ k ≤ 4294967296 := this
    omega
  exact ⟨h2.1,by have := h2.2;omega⟩
def winB (x : Win) : Prop := Few8 x.part ∧ Few8 x.beg ∧ Few8 x.long
def vlB (x : Vl) : Prop := Few8 x.id ∧ Few8 x.host ∧ Few8 x.bag ∧ Few8 x.smax ∧ Few8 x.subs ∧ Few8 x.skew ∧ ∀ t ∈ x.to,Few8 t
def prtB (x : Prt) : Prop := Few8 x.id ∧ Few8 x.host ∧ Few8 x.part ∧ Few8 x.kind ∧ Few8 x.vl ∧ Few8 x.sub ∧ Few8 x.udp ∧ Few8 x.size ∧ Few8 x.depth ∧ Few8 x.fresh
def cfB (c : Cf) : Prop := Few8 c.hosts ∧ (∀ t ∈ c.parts,Few8 t) ∧ Few8 c.major ∧ (∀ x ∈ c.wins,winB x) ∧ (∀ x ∈ c.vls,vlB x) ∧ ∀ x ∈ c.ports,prtB x
theorem many_all {α : Type} {p : P α} {q : α → Prop} (hp : ∀ l a r,p l = .ok (a,r) → q a) {l : List UInt8} {az : List α} {r : List UInt8} (h : many p l = .ok (az,r)) : ∀ a ∈ az,q a := by
  obtain ⟨n,r1,h1,h2⟩ := bind_ok.1 h
  exact rep_all hp _ _ _ _ h2
theorem cf_few {l : List UInt8} {c : Cf} {r : List UInt8} (h : cfR l = .ok (c,r)) : cfB c := by
  obtain ⟨hosts,r1,h1,h⟩ := bind_ok.1 h
  obtain ⟨parts,r2,h2,h⟩ := bind_ok.1 h
  obtain ⟨major,r3,h3,h⟩ := bind_ok.1 h
  obtain ⟨wins,r4,h4,h⟩ := bind_ok.1 h
  obtain ⟨vls,r5,h5,h⟩ := bind_ok.1 h
  obtain ⟨ports,r6,h6,h⟩ := bind_ok.1 h
  have h : (Except.ok (⟨hosts,parts,major,wins,vls,ports⟩,r6) : Except Int (Cf × List UInt8)) = .ok (c,r) := h
  injection h with h
  injection h with e1 e2
  subst e1
  refine ⟨u_few (by omega) h1,many_all (fun l a r h => u_few (by omega) h) h2,u_few (by omega) h3,many_all (fun l a r h => ?_) h4,many_all (fun l a r h => ?_) h5,many_all (fun l a r h => ?_) h6⟩
  · obtain ⟨a1,_,g1,h⟩ := bind_ok.1 h
    obtain ⟨a2,_,g2,h⟩ := bind_ok.1 h
    obtain ⟨a3,_,g3,h⟩ := bind_ok.1 h
    injection h with h
    injection h with e1 e2
    subst e1
    exact ⟨u_few (by omega) g1,u_few (by omega) g2,u_few (by omega) g3⟩
  · obtain ⟨a1,_,g1,h⟩ := bind_ok.1 h
    obtain ⟨a2,_,g2,h⟩ := bind_ok.1 h
    obtain ⟨a3,_,g3,h⟩ := bind_ok.1 h
    obtain ⟨a4,_,g4,h⟩ := bind_ok.1 h
    obtain ⟨a5,_,g5,h⟩ := bind_ok.1 h
    obtain ⟨a6,_,g6,h⟩ := bind_ok.1 h
    injection h with h
    injection h with e1 e2
    subst e1
    have q3 := u_few (by omega) g3
    refine ⟨u_few (by omega) g1,u_few (by omega) g2,?_,u_few (by omega) g4,?_,u_few (by omega) g5,many_all (fun l a r h => u_few (by omega) h) g6⟩
    · unfold Few8 at q3 ⊢;show 0 ≤ a3 / 16 ∧ a3 / 16 ≤ _;omega
    · unfold Few8 at q3 ⊢;show 0 ≤ a3 % 8 ∧ a3 % 8 ≤ _;omega
  · obtain ⟨a1,_,g1,h⟩ := bind_ok.1 h
    obtain ⟨a2,_,g2,h⟩ := bind_ok.1 h
    obtain ⟨a3,_,g3,h⟩ := bind_ok.1 h
    obtain ⟨a4,_,g4,h⟩ := bind_ok.1 h
    obtain ⟨a5,_,g5,h⟩ := bind_ok.1 h
    obtain ⟨a6,_,g6,h⟩ := bind_ok.1 h
    obtain ⟨a7,_,g7,h⟩ := bind_ok.1 h
    obtain ⟨a8,_,g8,h⟩ := bind_ok.1 h
    obtain ⟨hi,_,g9,h⟩ := bind_ok.1 h
    obtain ⟨lo,_,g10,h⟩ := bind_ok.1 h
    by_cases hw : 1099511627776 < hi * 4294967296 + lo
    · rw [if_pos hw] at h;cases h
    rw [if_neg hw] at h
    injection h with h
    injection h with e1 e2
    subst e1
    have q4 := u_few (by omega) g4
    have q9 := u_few (by omega) g9
    have q10 := u_few (by omega) g10
    refine ⟨u_few (by omega) g1,u_few (by omega) g2,u_few (by omega) g3,?_,u_few (by omega) g5,?_,u_few (by omega) g6,u_few (by omega) g7,u_few (by omega) g8,?_⟩
    · unfold Few8 at q4 ⊢;show 0 ≤ a4 / 64 ∧ a4 / 64 ≤ _;omega
    · unfold Few8 at q4 ⊢;show 0 ≤ a4 % 32 ∧ a4 % 32 ≤ _;omega
    · unfold Few8 at q9 q10 ⊢;show 0 ≤ hi * 4294967296 + lo ∧ hi * 4294967296 + lo ≤ _;omega
theorem cf_read {t : List UInt8} {c : Cf} (h : cfR t = .ok (c,[])) (ht : t.length ≤ 5000) : cfB c ∧ c.parts.length ≤ 2500 ∧ c.wins.length ≤ 500 ∧ c.vls.length ≤ 400 ∧ c.ports.length ≤ 200 ∧ ∀ v ∈ c.vls,v.to.length ≤ 2500 := by
  have h1 := cfR_ok h
  rw [List.append_nil] at h1
  obtain ⟨h2,h3⟩ := cf_sizes c
  rw [← h1] at h2 h3
  exact ⟨cf_few h,by omega,by omega,by omega,by omega,fun v hv => by have := h3 v hv;omega⟩
end Go.Proofs.PitotImg
set_option maxRecDepth 100000
set_option linter.unusedVariables false
namespace Go.Proofs.YtdgkanamceeheaaGreat.Im
open Go.RowKit
open PitotImg (St rd)
def IntsIn (lo hi : Nat) (w : World) (A : Option Addr) (xs : List Int) : Prop :=
  xs ≠ [] → ∃ b,A = some ⟨b,0,none⟩ ∧ lo ≤ b ∧ b < hi ∧ b < w.heap.size ∧ ∀ i (h : i < xs.length),w.cell? ⟨b,i,none⟩ = some (.int .i64 xs[i])
theorem IntsIn.at {lo hi : Nat} {w : World} {A : Option Addr} {xs : List Int} (h : IntsIn lo hi w A xs) : IntsAt w A xs := fun hne => by
  obtain ⟨b,h1,_,_,h4,h5⟩ := h hne
  exact ⟨b,0,h1,h4,fun i hi => by rw [Nat.zero_add];exact h5 i hi⟩
theorem cell_of_block {w w' : World} {b i : Nat} (h : w'.heap[b]? = w.heap[b]?) : w'.cell? ⟨b,i,none⟩ = w.cell? ⟨b,i,none⟩ := by simp [World.cell?,h]
theorem IntsIn.fr {lo hi a c base : Nat} {w w' : World} {A : Option Addr} {xs : List Int} (h : IntsIn lo hi w A xs) (hf : Fr base a c w w') (hb : hi ≤ base) (ha : a < lo) (hc : c < lo) : IntsIn lo hi w' A xs := fun hne => by
  obtain ⟨b,h1,h2,h3,h4,h5⟩ := h hne
  exact ⟨b,h1,h2,h3,Nat.lt_of_lt_of_le h4 hf.size,fun i hi => (cell_of_block (hf.block b (by omega) (by omega) (by omega) h4)).trans (h5 i hi)⟩
theorem IntsIn.mono {lo lo' hi hi' : Nat} {w : World} {A : Option Addr} {xs : List Int} (h : IntsIn lo hi w A xs) (h1 : lo' ≤ lo) (h2 : hi ≤ hi') : IntsIn lo' hi' w A xs := fun hne => by
  obtain ⟨b,g1,g2,g3,g4,g5⟩ := h hne
  exact ⟨b,g1,by omega,by omega,g4,g5⟩
def enI (l : List Int) : List Value := l.map (fun n => Value.int .i64 n)
theorem add0 (g j : Nat) : (⟨g,0,none⟩ : Addr).add j = ⟨g,j,none⟩ := by unfold Addr.add;split <;> simp_all
theorem row_form {w : World} {base e sz n : Nat} {v : Value} {xs : List Value} (h : w.ownsRow base e sz v n xs) : (n = 0 ∧ v = .slice none 0 0) ∨ ∃ g cap,v = .slice (some ⟨g,0,none⟩) n cap ∧ base ≤ g ∧ g < w.heap.size ∧ ∀ j u,xs[j]? = some u → w.cell? ⟨g,j,none⟩ = some u := by
  have hc := h
  rcases h.2 with ⟨h1,h2⟩ | ⟨g,cap,cur,h1,h2,h3,h4,h5,h6,h7⟩
  · exact .inl ⟨h2,h1⟩
  · subst h1
    exact .inr ⟨g,cap,rfl,h2,lies_lt h3,fun j u hu => by have := hc.cells (g := g) rfl j u hu;rwa [add0] at this⟩
theorem ints_row {w : World} {base n : Nat} {v : Value} {xs : List Int} (h : w.ownsRow base 3 1 v n (enI xs)) (hn : n = xs.length) : ∃ A cap,v = .slice A xs.length cap ∧ IntsIn base w.heap.size w A xs := by
  subst hn
  rcases row_form h with ⟨h1,h2⟩ | ⟨g,cap,h1,h2,h3,h4⟩
  · obtain rfl := List.length_eq_zero_iff.1 h1
    exact ⟨none,0,h2,fun hne => absurd rfl hne⟩
  · exact ⟨_,cap,h1,fun _ => ⟨g,rfl,h2,h3,h3,fun i hi => h4 i _ (by simp [enI,hi])⟩⟩
theorem flat_get {α β : Type} (E : α → List β) (c : Nat) (hE : ∀ x,(E x).length = c) : ∀ (xs : List α) (i : Nat) (hi : i < xs.length) (j : Nat),j < c → (xs.flatMap E)[i * c + j]? = (E xs[i])[j]?
  | x :: xs,0,hi,j,hj => by
    rw [List.flatMap_cons,Nat.zero_mul,Nat.zero_add,List.getElem?_append_left (by rw [hE];exact hj)];rfl
  | x :: xs,i + 1,hi,j,hj => by
    rw [List.flatMap_cons,List.getElem?_append_right (by rw [hE,Nat.add_mul];omega),hE,show (i + 1) * c + j - c = i * c + j by rw [Nat.add_mul];omega]
    exact flat_get E c hE xs i (by simpa using hi) j hj
def WnsIn (lo hi : Nat) (w : World) (A : Option Addr) (xs : List Wn) : Prop :=
  (xs ≠ [] → ∃ b,A = some ⟨b,0,none⟩ ∧ lo ≤ b ∧ b < hi ∧ b < w.heap.size ∧ ∀ i (h : i < xs.length),WnAt w b (i * 3) xs[i])
theorem WnsIn.at {lo hi : Nat} {w : World} {A : Option Addr} {xs : List Wn} (h : WnsIn lo hi w A xs) : WnsAt w A xs := fun hne => by
  obtain ⟨b,h1,_,_,h4,h5⟩ := h hne
  exact ⟨b,0,h1,h4,fun i hi => by rw [Nat.zero_add];exact h5 i hi⟩
theorem WnsIn.fr {lo hi a c base : Nat} {w w' : World} {A : Option Addr} {xs : List Wn} (h : WnsIn lo hi w A xs) (hf : Fr base a c w w') (hb : hi ≤ base) (ha : a < lo) (hc : c < lo) : WnsIn lo hi w' A xs := fun hne => by
  obtain ⟨b,h1,h2,h3,h4,h5⟩ := h hne
  exact ⟨b,h1,h2,h3,Nat.lt_of_lt_of_le h4 hf.size,fun i hi => (h5 i hi).of_cells fun k => cell_of_block (hf.block b (by omega) (by omega) (by omega) h4)⟩
theorem WnsIn.mono {lo lo' hi hi' : Nat} {w : World} {A : Option Addr} {xs : List Wn} (h : WnsIn lo hi w A xs) (h1 : lo' ≤ lo) (h2 : hi ≤ hi') : WnsIn lo' hi' w A xs := fun hne => by
  obtain ⟨b,g1,g2,g3,g4,g5⟩ := h hne
  exact ⟨b,g1,by omega,by omega,g4,g5⟩
theorem Wns_cells {w : World} {g : Nat} {xs : List Wn} (h : ∀ j u,(xs.flatMap Wn.enc)[j]? = some u → w.cell? ⟨g,j,none⟩ = some u) (i : Nat) (hi : i < xs.length) : WnAt w g (i * 3) xs[i] := by
  have hg := fun j hj => flat_get Wn.enc 3 Wn.enc_length xs i hi j hj
  generalize xs[i] = x at hg ⊢
  exact ⟨h _ _ (hg 0 (by decide)),h _ _ (hg 1 (by decide)),h _ _ (hg 2 (by decide))⟩
theorem Wn.enc_one (x : Wn) : ∀ u ∈ x.enc,u.oneCell' = true := by intro u hu;simp [Wn.enc] at hu;rcases hu with rfl | rfl | rfl <;> rfl
def VxsIn (lo hi : Nat) (w : World) (A : Option Addr) (xs : List Vx) : Prop :=
  (xs ≠ [] → ∃ b,A = some ⟨b,0,none⟩ ∧ lo ≤ b ∧ b < hi ∧ b < w.heap.size ∧ ∀ i (h : i < xs.length),VxAt w b (i * 8) xs[i]) ∧ ∀ x ∈ xs,IntsIn lo hi w x.toA x.to
theorem VxsIn.at {lo hi : Nat} {w : World} {A : Option Addr} {xs : List Vx} (h : VxsIn lo hi w A xs) : VxsAt w A xs := fun hne => by
  obtain ⟨b,h1,_,_,h4,h5⟩ := h.1 hne
  exact ⟨b,0,h1,h4,fun i hi => by rw [Nat.zero_add];exact ⟨h5 i hi,(h.2 _ (List.getElem_mem hi)).at⟩⟩
theorem VxsIn.fr {lo hi a c base : Nat} {w w' : World} {A : Option Addr} {xs : List Vx} (h : VxsIn lo hi w A xs) (hf : Fr base a c w w') (hb : hi ≤ base) (ha : a < lo) (hc : c < lo) : VxsIn lo hi w' A xs := ⟨fun hne => by
  obtain ⟨b,h1,h2,h3,h4,h5⟩ := h.1 hne
  exact ⟨b,h1,h2,h3,Nat.lt_of_lt_of_le h4 hf.size,fun i hi => (h5 i hi).of_cells fun k => cell_of_block (hf.block b (by omega) (by omega) (by omega) h4)⟩,fun x hx => (h.2 x hx).fr hf hb ha hc⟩
theorem VxsIn.mono {lo lo' hi hi' : Nat} {w : World} {A : Option Addr} {xs : List Vx} (h : VxsIn lo hi w A xs) (h1 : lo' ≤ lo) (h2 : hi ≤ hi') : VxsIn lo' hi' w A xs := ⟨fun hne => by
  obtain ⟨b,g1,g2,g3,g4,g5⟩ := h.1 hne
  exact ⟨b,g1,by omega,by omega,g4,g5⟩,fun x hx => (h.2 x hx).mono h1 h2⟩
theorem Vxs_cells {w : World} {g : Nat} {xs : List Vx} (h : ∀ j u,(xs.flatMap Vx.enc)[j]? = some u → w.cell? ⟨g,j,none⟩ = some u) (i : Nat) (hi : i < xs.length) : VxAt w g (i * 8) xs[i] := by
  have hg := fun j hj => flat_get Vx.enc 8 Vx.enc_length xs i hi j hj
  generalize xs[i] = x at hg ⊢
  exact ⟨h _ _ (hg 0 (by decide)),h _ _ (hg 1 (by decide)),h _ _ (hg 2 (by decide)),h _ _ (hg 3 (by decide)),h _ _ (hg 4 (by decide)),h _ _ (hg 5 (by decide)),h _ _ (hg 6 (by decide)),h _ _ (hg 7 (by decide))⟩
theorem Vx.enc_one (x : Vx) : ∀ u ∈ x.enc,u.oneCell' = true := by intro u hu;simp [Vx.enc] at hu;rcases hu with rfl | rfl | rfl | rfl | rfl | rfl | rfl | rfl <;> rfl
def PxsIn (lo hi : Nat) (w : World) (A : Option Addr) (xs : List Px) : Prop :=
  (xs ≠ [] → ∃ b,A = some ⟨b,0,none⟩ ∧ lo ≤ b ∧ b < hi ∧ b < w.heap.size ∧ ∀ i (h : i < xs.length),PxAt w b (i * 11) xs[i])
theorem PxsIn.at {lo hi : Nat} {w : World} {A : Option Addr} {xs : List Px} (h : PxsIn lo hi w A xs) : PxsAt w A xs := fun hne => by
  obtain ⟨b,h1,_,_,h4,h5⟩ := h hne
  exact ⟨b,0,h1,h4,fun i hi => by rw [Nat.zero_add];exact h5 i hi⟩
theorem PxsIn.fr {lo hi a c base : Nat} {w w' : World} {A : Option Addr} {xs : List Px} (h : PxsIn lo hi w A xs) (hf : Fr base a c w w') (hb : hi ≤ base) (ha : a < lo) (hc : c < lo) : PxsIn lo hi w' A xs := fun hne => by
  obtain ⟨b,h1,h2,h3,h4,h5⟩ := h hne
  exact ⟨b,h1,h2,h3,Nat.lt_of_lt_of_le h4 hf.size,fun i hi => (h5 i hi).of_cells fun k => cell_of_block (hf.block b (by omega) (by omega) (by omega) h4)⟩
theorem PxsIn.mono {lo lo' hi hi' : Nat} {w : World} {A : Option Addr} {xs : List Px} (h : PxsIn lo hi w A xs) (h1 : lo' ≤ lo) (h2 : hi ≤ hi') : PxsIn lo' hi' w A xs := fun hne => by
  obtain ⟨b,g1,g2,g3,g4,g5⟩ := h hne
  exact ⟨b,g1,by omega,by omega,g4,g5⟩
theorem Pxs_cells {w : World} {g : Nat} {xs : List Px} (h : ∀ j u,(xs.flatMap Px.enc)[j]? = some u → w.cell? ⟨g,j,none⟩ = some u) (i : Nat) (hi : i < xs.length) : PxAt w g (i * 11) xs[i] := by
  have hg := fun j hj => flat_get Px.enc 11 Px.enc_length xs i hi j hj
  generalize xs[i] = x at hg ⊢
  exact ⟨h _ _ (hg 0 (by decide)),h _ _ (hg 1 (by decide)),h _ _ (hg 2 (by decide)),h _ _ (hg 3 (by decide)),h _ _ (hg 4 (by decide)),h _ _ (hg 5 (by decide)),h _ _ (hg 6 (by decide)),h _ _ (hg 7 (by decide)),h _ _ (hg 8 (by decide)),h _ _ (hg 9 (by decide)),h _ _ (hg 10 (by decide))⟩
theorem Px.enc_one (x : Px) : ∀ u ∈ x.enc,u.oneCell' = true := by intro u hu;simp [Px.enc] at hu;rcases hu with rfl | rfl | rfl | rfl | rfl | rfl | rfl | rfl | rfl | rfl | rfl <;> rfl
theorem Wns_row {w : World} {base n : Nat} {v : Value} {xs : List Wn} (h : w.ownsRow base 58 3 v n (xs.flatMap Wn.enc)) (hn : n = xs.length) : ∃ A cap,v = .slice A xs.length cap ∧ WnsIn base w.heap.size w A xs := by
  subst hn
  rcases row_form h with ⟨h1,h2⟩ | ⟨g,cap,h1,h2,h3,h4⟩
  · obtain rfl := List.length_eq_zero_iff.1 h1
    exact ⟨none,0,h2,fun hne => absurd rfl hne⟩
  · exact ⟨_,cap,h1,fun _ => ⟨g,rfl,h2,h3,h3,fun i hi => Wns_cells h4 i hi⟩⟩
theorem Pxs_row {w : World} {base n : Nat} {v : Value} {xs : List Px} (h : w.ownsRow base 62 11 v n (xs.flatMap Px.enc)) (hn : n = xs.length) : ∃ A cap,v = .slice A xs.length cap ∧ PxsIn base w.heap.size w A xs := by
  subst hn
  rcases row_form h with ⟨h1,h2⟩ | ⟨g,cap,h1,h2,h3,h4⟩
  · obtain rfl := List.length_eq_zero_iff.1 h1
    exact ⟨none,0,h2,fun hne => absurd rfl hne⟩
  · exact ⟨_,cap,h1,fun _ => ⟨g,rfl,h2,h3,h3,fun i hi => Pxs_cells h4 i hi⟩⟩
def TosIn (lo : Nat) (w : World) (v : Value) (xs : List Vx) : Prop := ∀ x ∈ xs,x.to ≠ [] → ∃ b,x.toA = some ⟨b,0,none⟩ ∧ lo ≤ b ∧ b < w.heap.size ∧ some b ≠ v.ownBlock ∧ ∀ i (h : i < x.to.length),w.cell? ⟨b,i,none⟩ = some (.int .i64 x.to[i])
theorem Vxs_row {w : World} {base n : Nat} {v : Value} {xs : List Vx} (h : w.ownsRow base 60 8 v n (xs.flatMap Vx.enc)) (hn : n = xs.length) (ht : TosIn base w v xs) : ∃ A cap,v = .slice A xs.length cap ∧ VxsIn base w.heap.size w A xs := by
  subst hn
  have hto : ∀ x ∈ xs,IntsIn base w.heap.size w x.toA x.to := fun x hx hne => by
    obtain ⟨b,g1,g2,g3,_,g5⟩ := ht x hx hne
    exact ⟨b,g1,g2,g3,g3,g5⟩
  rcases row_form h with ⟨h1,h2⟩ | ⟨g,cap,h1,h2,h3,h4⟩
  · obtain rfl := List.length_eq_zero_iff.1 h1
    exact ⟨none,0,h2,fun hne => absurd rfl hne,hto⟩
  · exact ⟨_,cap,h1,fun _ => ⟨g,rfl,h2,h3,h3,fun i hi => Vxs_cells h4 i hi⟩,hto⟩
theorem TosIn.grown {lo r : Nat} {w w' : World} {v : Value} {xs : List Vx} (h : TosIn lo w v xs) (hg : w.grownBy w' (some r)) (hr : r < lo) : TosIn lo w' v xs := fun x hx hne => by
  obtain ⟨b,g1,g2,g3,g4,g5⟩ := h x hx hne
  exact ⟨b,g1,g2,Nat.lt_of_lt_of_le g3 hg.size,g4,fun i hi => (cell_of_block (hg.block b g3 (by simp;omega))).trans (g5 i hi)⟩
theorem TosIn.frm {lo base a c : Nat} {w w' : World} {v : Value} {xs : List Vx} (h : TosIn lo w v xs) (hf : Fr base a c w w') (hs : w.heap.size ≤ base) (ha : a < lo) (hc : c < lo ∨ w.heap.size ≤ c) : TosIn lo w' v xs := fun x hx hne => by
  obtain ⟨b,g1,g2,g3,g4,g5⟩ := h x hx hne
  exact ⟨b,g1,g2,Nat.lt_of_lt_of_le g3 hf.size,g4,fun i hi => (cell_of_block (hf.block b (by omega) (by omega) (by omega) g3)).trans (g5 i hi)⟩
theorem TosIn.snoc {lo H g m cap : Nat} {w w' : World} {v : Value} {xs : List Vx} {x : Vx} (h : TosIn lo w v xs) (hx : x.to ≠ [] → ∃ b,x.toA = some ⟨b,0,none⟩ ∧ lo ≤ b ∧ b < w.heap.size ∧ some b ≠ v.ownBlock ∧ ∀ i (h : i < x.to.length),w.cell? ⟨b,i,none⟩ = some (.int .i64 x.to[i]))
    (hg : w.grownBy w' v.ownBlock) (hat : v.ownBlock = some g ∨ g = H) (hH : w.heap.size = H) : TosIn lo w' (.slice (some ⟨g,0,none⟩) m cap) (xs ++ [x]) := fun y hy hne => by
  have key : ∃ b,y.toA = some ⟨b,0,none⟩ ∧ lo ≤ b ∧ b < w.heap.size ∧ some b ≠ v.ownBlock ∧ ∀ i (h : i < y.to.length),w.cell? ⟨b,i,none⟩ = some (.int .i64 y.to[i]) := by
    rcases List.mem_append.1 hy with hy | hy
    · exact h y hy hne
    · obtain rfl := List.mem_singleton.1 hy
      exact hx hne
  obtain ⟨b,g1,g2,g3,g4,g5⟩ := key
  refine ⟨b,g1,g2,Nat.lt_of_lt_of_le g3 hg.size,?_,fun i hi => (cell_of_block (hg.block b g3 g4)).trans (g5 i hi)⟩
  show some b ≠ some g
  intro e
  injection e with e
  subst e
  rcases hat with e | e
  · exact g4 e.symm
  · omega
theorem TosIn.app {lo g m cap k i : Nat} {w w' : World} {v u : Value} {xs : List Vx} (x : Vx) (A : Option Addr) (to_ : List Int) (h : TosIn lo w v xs) (e1 : x.toA = A) (e2 : x.to = to_) (o : Obj)
    (hx : to_ ≠ [] → ∃ b,A = some ⟨b,0,none⟩ ∧ lo ≤ b ∧ b < w.heap.size ∧ some b ≠ v.ownBlock ∧ ∀ i (h : i < to_.length),w.cell? ⟨b,i,none⟩ = some (.int .i64 to_[i]))
    (hg : (w.alloc o).grownBy w' v.ownBlock) (hat : v.ownBlock = some g ∨ g = (w.alloc o).heap.size) (hk : k < lo) : TosIn lo (w'.setCell ⟨k,i,none⟩ u) (.slice (some ⟨g,0,none⟩) m cap) (xs ++ [x]) := by
  subst e1 e2
  have h0 : TosIn lo (w.alloc o) v xs := fun y hy hne => by
    obtain ⟨b,g1,g2,g3,g4,g5⟩ := h y hy hne
    exact ⟨b,g1,g2,by rw [World.size_alloc];omega,g4,fun i hi => (cell_of_block (Below.heap_alloc w o b g3)).trans (g5 i hi)⟩
  have h1 : TosIn lo w' (.slice (some ⟨g,0,none⟩) m cap) (xs ++ [x]) := TosIn.snoc h0 (fun hne => by
    obtain ⟨b,g1,g2,g3,g4,g5⟩ := hx hne
    exact ⟨b,g1,g2,by rw [World.size_alloc];omega,g4,fun i hi => (cell_of_block (Below.heap_alloc w o b g3)).trans (g5 i hi)⟩) hg hat rfl
  exact TosIn.grown h1 (Bi.grown_set k i u) hk
theorem qnum_of {r k : Nat} {σ σ' : St} {v : Int} (h : rd k σ = (v,σ')) (hk : k ≤ 4) (w : World) (hr : RS 55 w r σ) : Calls Tryz.prog 20 #[.pointer (some ⟨r,0,none⟩),.int .i64 (k : Int)] w fun e w' => e = .returned (.int .i64 v) ∧ RS 55 w' r σ' ∧ w.grownBy w' (some r) := by
  have h1 := qnum_any r k σ w hr hk
  rw [h] at h1
  exact h1
theorem rd_of (k : Nat) (σ : St) : ∃ v σ',Hid (rd k σ = (v,σ')) := ⟨_,_,Lib.hid rfl⟩
theorem rd_ge {k : Nat} {σ σ' : St} {v : Int} (h : rd k σ = (v,σ')) : 0 ≤ v ∧ v < ((256 ^ k : Nat) : Int) := by
  have h1 := rd_tk k σ
  rw [h] at h1
  have h1 : v = _ := h1
  have h2 := PitotMath.num_lt (tk k σ)
  have h3 : 256 ^ (tk k σ).length ≤ 256 ^ k := Nat.pow_le_pow_right (by omega) (tk_len k σ)
  omega
theorem many_none {α : Type} (p : St → α × St) (n : Nat) : PitotImg.manyS p n none = ([],none) := PitotImg.manyS_none p n
theorem many_end {α : Type} {p : St → α × St} {i n : Nat} {σ : St} (h : (decide (i < n) && σ.isSome) = false) (hi : i ≤ n) : PitotImg.manyS p (n - i) σ = ([],σ) := by
  cases σ with
  | none => exact many_none p _
  | some l =>
    have : ¬ i < n := by simpa using h
    rw [show n - i = 0 by omega];rfl
theorem many_go {α : Type} {p : St → α × St} {i n : Nat} {σ σ' : St} {x : α} (h : (decide (i < n) && σ.isSome) = true) (hp : p σ = (x,σ')) : i < n ∧ PitotImg.manyS p (n - i) σ = (x :: (PitotImg.manyS p (n - (i + 1)) σ').1,(PitotImg.manyS p (n - (i + 1)) σ').2) := by
  cases σ with
  | none => simp at h
  | some l =>
    have h : i < n := by simpa using h
    refine ⟨h,?_⟩
    rw [show n - i = (n - (i + 1)) + 1 by omega,PitotImg.manyS_step,hp]
theorem own_grown {w w' : World} {base e sz n r : Nat} {v : Value} {xs : List Value} (h : w.ownsRow base e sz v n xs) (hg : w.grownBy w' (some r)) (hr : r < base) : w'.ownsRow base e sz v n xs := h.kept hg (own_ne h hr)
theorem own_fr {w w' : World} {base e sz n a c B : Nat} {v : Value} {xs : List Value} (h : w.ownsRow base e sz v n xs) (hf : Fr B a c w w') (hB : w.heap.size ≤ B) (ha : a < base) (hc : c < base ∨ w.heap.size ≤ c) : w'.ownsRow base e sz v n xs := by
  refine ⟨h.1,?_⟩
  rcases h.2 with h1 | ⟨g,cap,cur,h1,h2,h3,h4⟩
  · exact .inl h1
  · have := lies_lt h3
    exact .inr ⟨g,cap,cur,h1,h2,(hf.block g (by omega) (by omega) (by omega) this).trans h3,h4⟩
theorem grown_setN {w w' : World} {r vb i : Nat} {u : Value} (hg : w.grownBy w' (some r)) (hv : w.heap.size ≤ vb) : w.grownBy (w'.setCell ⟨vb,i,none⟩ u) (some r) :=
  ⟨hg.os,hg.tape,hg.output,by simpa [World.setCell] using hg.size,fun k hk hne => (Below.heap_setCell w' _ u k (by intro e;have e : k = vb := e;omega)).trans (hg.block k hk hne)⟩
theorem grown_fr {w v z : World} {r vb B : Nat} (hg : w.grownBy v (some r)) (hf : Fr B r vb v z) (hB : v.heap.size ≤ B) (hv : w.heap.size ≤ vb) : w.grownBy z (some r) :=
  ⟨hf.os.trans hg.os,hf.tape.trans hg.tape,hf.output.trans hg.output,Nat.le_trans hg.size hf.size,fun k hk hne => (hf.block k (by have := hg.size;omega) (by simpa using hne) (by omega) (Nat.lt_of_lt_of_le hk hg.size)).trans (hg.block k hk hne)⟩
theorem Below.of_grown {w w' : World} {B r : Nat} (hg : w.grownBy w' (some r)) (hB : B ≤ w.heap.size) (hr : B ≤ r) : Below B w w' := grown_below hg hr hB
theorem Below.of_fr {w w' : World} {B base a b : Nat} (hf : Fr base a b w w') (hB : B ≤ base) (hs : B ≤ w.heap.size) (ha : B ≤ a) (hb : B ≤ b) : Below B w w' := ⟨hf.os,hf.tape,hf.output,hf.size,fun k hk => hf.block k (by omega) (by omega) (by omega) (by omega)⟩
end Go.Proofs.YtdgkanamceeheaaGreat.Im
