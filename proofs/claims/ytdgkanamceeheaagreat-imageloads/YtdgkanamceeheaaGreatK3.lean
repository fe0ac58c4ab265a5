/- Contracts of Ones (the program's and the document's). Contracts of the program's Writer: together, has, spread, Text, fail, Bits. The program's Writer in memory; contracts of Text, fail, Bits. Contracts of the program's Writer: Bits, U8, U16, U32. -/
import Derived.Test.YtdgkanamceeheaaGreatK1
import Derived.Test.YtdgkanamceeheaaGreatRows
import Derived.WalkKit
import Derived.WalkSpells
import Derived.WalkLawsBesides
import Derived.BigQuiet
import Derived.Laws.BitsAllLaws
import Derived.Laws.BitsLemmas
import Derived.Deep.QuietTactic
import Derived.Lib.Hide
import Derived.BigRegion
import Derived.Handy
set_option linter.unusedVariables false
namespace Go.Proofs.YtdgkanamceeheaaGreat.Bi
open Go.RowKit Go.Proofs.PitotMath
theorem take_snoc (s : ByteArray) (k : Nat) (h : k < s.size) : s.data.toList.take (k + 1) = s.data.toList.take k ++ [s[k]] := by
  rw [List.take_succ_eq_append_getElem (by simpa using h)];rfl
theorem ret_int {k : IntKind} {a b : Int} (h : a = b) : Ending.returned (.int k a) = .returned (.int k b) := by rw [h]
theorem val_int {k : IntKind} {a b : Int} (h : a = b) : Value.int k a = .int k b := by rw [h]
end Go.Proofs.YtdgkanamceeheaaGreat.Bi
namespace Go.Proofs.YtdgkanamceeheaaGreat.Bi
open Go.RowKit Go.Proofs.PitotMath
def togGo : List Int → Int → Option Int
  | [],s => some s
  | x :: t,s => if x < 1 ∨ 32 - s < x then none else togGo t (s + x)
def okSum (s : Int) : Bool := s == 8 || s == 16 || s == 32
def togRes (l : List Int) : Int × Bool := match togGo l 0 with
  | none => (0,false)
  | some s => (s / 8,okSum s)
def IntsAt (w : World) (A : Option Addr) (xs : List Int) : Prop :=
  xs ≠ [] → ∃ b off,A = some ⟨b,off,none⟩ ∧ b < w.heap.size ∧ ∀ i (h : i < xs.length),w.cell? ⟨b,off + i,none⟩ = some (.int .i64 xs[i])
theorem IntsAt.get {w : World} {A : Option Addr} {xs : List Int} (h : IntsAt w A xs) {k : Nat} (hk : k < xs.length) :
    ∃ b off,A = some ⟨b,off,none⟩ ∧ b < w.heap.size ∧ w.cell? ⟨b,off + k,none⟩ = some (.int .i64 xs[k]) := by
  obtain ⟨b,off,h1,h2,h3⟩ := h (by intro e;subst e;simp at hk)
  exact ⟨b,off,h1,h2,h3 k hk⟩
theorem tog_cons {xs : List Int} {k : Nat} (hk : k < xs.length) (s : Int) : togGo (xs.drop k) s = if xs[k] < 1 ∨ 32 - s < xs[k] then none else togGo (xs.drop (k + 1)) (s + xs[k]) := by
  rw [List.drop_eq_getElem_cons hk];rfl
theorem togRes_none {xs : List Int} (h : togGo xs 0 = none) : togRes xs = (0,false) := by unfold togRes;rw [h]
theorem togRes_some {xs : List Int} {s : Int} (h : togGo xs 0 = some s) : togRes xs = (s / 8,okSum s) := by unfold togRes;rw [h]
theorem tuple_ib {a b : Int} {c d : Bool} (h1 : a = b) (h2 : c = d) : Ending.returned (.tuple #[.int .i64 a,.bool c]) = .returned (.tuple #[.int .i64 b,.bool d]) := by rw [h1,h2]
set_option maxHeartbeats 400000 in
theorem together_any (A : Option Addr) (cap : Nat) (xs : List Int) (w : World) (hx : IntsAt w A xs) (hl : xs.length ≤ 1000000) :
    Calls Tryz.prog 114 #[.slice A xs.length cap] w fun e w' => e = .returned (.tuple #[.int .i64 (togRes xs).1,.bool (togRes xs).2]) ∧ w = w' := by
  obtain ⟨R,HR⟩ : ∃ R,Hid (R = togRes xs) := ⟨_,rfl⟩
  rw [← HR.out]
  obtain ⟨n,Hn⟩ : ∃ n,Hid (n = xs.length) := ⟨_,rfl⟩
  rw [← Hn.out] at hl ⊢
  go_enter Tryz.func114,Tryz.ntmps114
  go_wp2
  go_loop [4,6,9] (fun v4 _ v9 => ∃ (k : Nat) (s : Int),k ≤ n ∧ v9 = .int .i64 k ∧ v4 = .int .i64 s ∧ 0 ≤ s ∧ s ≤ 32 ∧ Hid (togGo (xs.drop k) s = togGo xs 0)) (fun _ _ v9 => n - (intOf v9).toNat)
  case atStart => exact ⟨0,0,Nat.zero_le _,rfl,rfl,by omega,by omega,rfl⟩
  case round =>
    obtain ⟨k,s,hk,rfl,rfl,hs0,hs1,ht⟩ := hrel
    by_cases hlt : k < n
    · have hlt' : k < xs.length := by rw [← Hn.out];exact hlt
      obtain ⟨b,off,rfl,_,hc⟩ := hx.get hlt'
      have hcs := tog_cons hlt' s
      obtain ⟨x,Hx⟩ : ∃ x,Hid (x = xs[k]) := ⟨xs[k],rfl⟩
      rw [← Hx.out] at hc hcs
      have HC := Lib.hid hcs
      clear hcs
      by_cases hg : x < 1 ∨ 32 - s < x
      · by_cases hg1 : x < 1
        · go_wp2
          go_ret2
          exact ⟨tuple_ib (by rw [HR.out,togRes_none (by rw [← ht.out,HC.out,if_pos hg])]) (by rw [HR.out,togRes_none (by rw [← ht.out,HC.out,if_pos hg])]),rfl⟩
        · have hg2 : 32 - s < x := by omega
          go_wp2
          go_ret2
          exact ⟨tuple_ib (by rw [HR.out,togRes_none (by rw [← ht.out,HC.out,if_pos hg])]) (by rw [HR.out,togRes_none (by rw [← ht.out,HC.out,if_pos hg])]),rfl⟩
      · go_wp2
        go_round
        case rel => exact ⟨k + 1,s + x,by omega,by go_num,rfl,by omega,by omega,by show togGo _ _ = _;rw [← ht.out,HC.out,if_neg hg]⟩
        case measure => simp [intOf];omega
    · have hfin : Hid (togRes xs = (s / 8,okSum s)) := by
        show togRes xs = _
        refine togRes_some ?_
        rw [← ht.out,List.drop_of_length_le (by rw [← Hn.out];omega)];rfl
      go_wp2
      all_goals
        go_ret2
        refine ⟨?_,rfl⟩
        rw [HR.out,hfin.out]
        first | rfl | (have h8 : s = 8 := ‹_›;rw [h8];rfl) | (have h8 : s = 16 := ‹_›;rw [h8];rfl)
def fitsB (n x : Int) : Bool := decide (0 ≤ n ∧ n < 2 ^ x.toNat)
theorem fits_div {n x : Int} (h : 0 ≤ n) : (n / 2 ^ x.toNat == 0) = fitsB n x := by
  unfold fitsB
  have hp : (0 : Int) < 2 ^ x.toNat := Int.pow_pos (by omega)
  rw [Bool.eq_iff_iff]
  simp only [beq_iff_eq,decide_eq_true_eq]
  constructor
  · intro h0
    refine ⟨h,?_⟩
    have := Int.emod_lt_of_pos n hp
    have := Int.mul_ediv_add_emod n (2 ^ x.toNat)
    rw [h0] at this
    omega
  · intro ⟨_,h1⟩
    exact Int.ediv_eq_zero_of_lt h h1
theorem ret_bool {a b : Bool} (h : a = b) : Ending.returned (.bool a) = .returned (.bool b) := by rw [h]
set_option maxHeartbeats 400000 in
theorem has_any (n x : Int) (w : World) (hx0 : 0 ≤ x) (hx1 : x ≤ 32) :
    Calls Tryz.prog 116 #[.int .i64 n,.int .i64 x] w fun e w' => e = .returned (.bool (fitsB n x)) ∧ w = w' := by
  by_cases hn : 0 ≤ n
  · go_enter Tryz.func116,Tryz.ntmps116
    go_wp2
    go_ret
    exact ⟨ret_bool (fits_div hn),rfl⟩
  · go_enter Tryz.func116,Tryz.ntmps116
    go_wp2
    go_ret
    exact ⟨ret_bool (by unfold fitsB;simp;omega),rfl⟩
def pc (l : List UInt8) (k : Nat) : List Value := (l.take k).map (fun c => Value.int .u8 c.toNat) ++ List.replicate (l.length - k) (.int .u8 0)
theorem pc_zero (l : List UInt8) : pc l 0 = List.replicate l.length (.int .u8 0) := by simp [pc]
theorem pc_full (l : List UInt8) : pc l l.length = l.map (fun c => Value.int .u8 c.toNat) := by simp [pc]
theorem pc_at (l : List UInt8) (k : Nat) (h : k < l.length) : (pc l k)[k]? = some (.int .u8 0) := by
  unfold pc
  have hm : min k l.length = k := Nat.min_eq_left (Nat.le_of_lt h)
  rw [List.getElem?_append_right (by simp;omega)]
  simp only [List.length_map,List.length_take,hm,Nat.sub_self]
  rw [List.getElem?_replicate,if_pos (by omega)]
theorem pc_step (l : List UInt8) (k : Nat) (h : k < l.length) (v : Value) (hv : v = .int .u8 l[k].toNat) : (pc l k).set k v = pc l (k + 1) := by
  subst hv
  unfold pc
  rw [List.take_succ_eq_append_getElem h,List.map_append]
  obtain ⟨d,hd⟩ : ∃ d,l.length - k = d + 1 := ⟨l.length - k - 1,by omega⟩
  have hd' : l.length - (k + 1) = d := by omega
  rw [hd,hd',List.replicate_succ,List.set_append_right _ _ (by simp;omega)]
  simp [Nat.min_eq_left (Nat.le_of_lt h)]
theorem be_cell (m n k : Nat) (h : k < m) (h' : k < (be m n).length) : Value.int .u8 ((n : Int) / 2 ^ (8 * (m - 1 - k)) % 256) = .int .u8 ((be m n)[k]'h').toNat := by
  have e := be_get? m n k h
  rw [List.getElem?_eq_getElem h'] at e
  injection e with e
  rw [e]
  refine val_int ?_
  have hp : ((2 : Int) ^ (8 * (m - 1 - k))) = ((256 ^ (m - 1 - k) : Nat) : Int) := by rw [← pow_8];simp
  rw [hp]
  simp
theorem Tryz.info5 : (Tryz.prog.info? 5).map (fun i => (i.zero,i.size,i.bytes)) = some (some (.int .u8 0),1,1) := by kernel_rfl
theorem make_bytes (l : List UInt8) (w : World) (m : Nat) (hm : m ≤ 1000000) (hl : l.length = m) :
    (Instr.makeSlice 41 (.int .i64 m) (.int .i64 m)).run Tryz.prog w = .ok (.slice (some ⟨w.heap.size,0,none⟩) m m) (w.alloc (.cells (pc l 0).toArray 5)) := by
  obtain ⟨i,hi,hz0,hz1,hz2⟩ := info_parts Tryz.info5
  rw [run_make (P := Tryz.prog) w 41 5 i _ Tryz.underlying41 hi hz0 .i64 .i64 m m (by omega) (by omega) (by rw [hz2];omega) (by omega)]
  have e : madeCells (Value.int .u8 0).cells (Int.toNat (m : Int) * i.size) = (pc l 0).toArray := by
    rw [← Array.toList_inj,hz1]
    show (madeCells #[Value.int .u8 0] _).toList = _
    rw [toList_madeCells_one,pc_zero,hl]
    simp
  rw [e]
  rfl
set_option maxHeartbeats 400000 in
theorem spread_any (n : Nat) (m : Nat) (w : World) (hm : m ≤ 4) (_hn : n < 4294967296) :
    Calls Tryz.prog 117 #[.int .u32 n,.int .i64 m] w fun e w' => e = .returned (.string ⟨(be m n).toArray⟩) ∧ Below w.heap.size w w' := by
  have hmk := fun w => make_bytes (be m n) w m (by omega) (be_length _ _)
  go_enter Tryz.func117,Tryz.ntmps117
  go_wp2
  clear hmk
  go_loopw [6,11] (fun _ i wr => ∃ k : Nat,k ≤ m ∧ i = .int .i64 k ∧ wr = w.alloc (.cells (pc (be m n) k).toArray 5)) (fun _ i _ => m - (intOf i).toNat)
  case atStart => exact ⟨0,Nat.zero_le _,rfl,rfl⟩
  case round =>
    obtain ⟨k,hk,rfl,rfl⟩ := hrel
    by_cases hlt : k < m
    · have hl' : k < (be m n).length := by rw [be_length];exact hlt
      have hpk := pc_at (be m n) k hl'
      go_wp2
      go_roundw
      case rel => exact ⟨k + 1,by omega,by go_num,by rw [pc_step _ k hl' _ (be_cell m n k hlt hl')]⟩
      case measure => simp [intOf];omega
    · have hcv : (convert 41 9 (.slice (some ⟨w.heap.size,0,none⟩) m m)).run Tryz.prog (w.alloc (.cells (pc (be m n) k).toArray 5)) = .ok (.string ⟨(be m n).toArray⟩) (w.alloc (.cells (pc (be m n) k).toArray 5)) := by
        have h := run_convert_bytes_back (P := Tryz.prog) (w.alloc (.cells (pc (be m n) k).toArray 5)) 41 9 5 ⟨w.heap.size,0,none⟩ m (be m n) Tryz.underlying41 Tryz.underlying5 Tryz.underlying9 (fun j hj => by
          have e : (⟨w.heap.size,0,none⟩ : Addr).add j = ⟨w.heap.size,j,none⟩ := by unfold Addr.add;split <;> simp_all
          rw [e,World.cell?_alloc_mark w _ 5 (0,0) j,show k = (be m n).length by rw [be_length];omega,pc_full]
          simp [hj])
        rw [be_length] at h
        exact h
      go_wp2
      go_ret
      exact ⟨rfl,(Below.refl _ _).alloc (Nat.le_refl _) _⟩
end Go.Proofs.YtdgkanamceeheaaGreat.Bi
namespace Go.Proofs.YtdgkanamceeheaaGreat.Bi
open Go.RowKit Go.Proofs.PitotMath
section
variable {w w' : World} {g : Nat} {t : TypeId} {cs : Array Value}
theorem lies_lt (h : w.heap[g]? = some (.cells cs t)) : g < w.heap.size := by
  rcases Nat.lt_or_ge g w.heap.size with h1 | h1
  · exact h1
  · rw [Array.getElem?_eq_none h1] at h;cases h
theorem lies_cell (h : w.heap[g]? = some (.cells cs t)) (i : Nat) : w.cell? ⟨g,i,none⟩ = cs[i]? := by simp [World.cell?,h]
theorem lies_frozen (h : w.heap[g]? = some (.cells cs t)) (i : Nat) : w.frozen? ⟨g,i,none⟩ = false := by simp [World.frozen?,h]
theorem lies_set (h : w.heap[g]? = some (.cells cs t)) (i : Nat) (u : Value) : (w.setCell ⟨g,i,none⟩ u).heap[g]? = some (.cells (cs.setIfInBounds i u) t) := by
  simp [World.setCell,Array.getElem?_modify,h]
theorem lies_alloc (h : w.heap[g]? = some (.cells cs t)) (o : Obj) : (w.alloc o).heap[g]? = some (.cells cs t) := (Below.heap_alloc w o g (lies_lt h)).trans h
end
theorem new_at {w : World} {o : Obj} {k : Nat} (hk : w.heap.size = k) : (w.alloc o).drew.heap[k]? = some o := by
  subst hk;exact heap_alloc_new w o
def Chain (w : World) (b : Nat) : Option Addr → List ByteArray → Prop
  | p,[] => p = none
  | p,t :: ts => ∃ c q,p = some ⟨c,0,none⟩ ∧ c ≠ b ∧ w.heap[c]? = some (.cells #[.string t,.pointer q] 114) ∧ Chain w b q ts
theorem Chain.grown {w w' : World} {b : Nat} (hg : w.grownBy w' (some b)) : ∀ {ts : List ByteArray} {p : Option Addr},Chain w b p ts → Chain w' b p ts
  | [],_,h => h
  | _ :: _,_,⟨c,q,h1,h2,h3,h4⟩ => ⟨c,q,h1,h2,(hg.block c (lies_lt h3) (by simpa using h2)).trans h3,Chain.grown hg h4⟩
def flat : List ByteArray → List UInt8
  | [] => []
  | t :: ts => flat ts ++ t.data.toList
def WrAt (w : World) (b n : Nat) : Option (List UInt8) → Prop
  | none => w.heap[b]? = some (.cells #[.pointer none,.string ⟨#[]⟩,.bool true] 71)
  | some l => ∃ p last ts,w.heap[b]? = some (.cells #[.pointer p,.string last,.bool false] 71) ∧ Chain w b p ts ∧ ts.length ≤ n ∧ l = flat ts ++ last.data.toList
theorem grown_set {w : World} (b i : Nat) (u : Value) : w.grownBy (w.setCell ⟨b,i,none⟩ u) (some b) :=
  ⟨rfl,rfl,rfl,by simp [World.setCell],fun k _ hk => Below.heap_setCell w _ u k (by intro e;exact hk (by rw [e]))⟩
theorem grown_trans {a b c : World} {r : Option Nat} (h : a.grownBy b r) (k : b.grownBy c r) : a.grownBy c r :=
  ⟨k.os.trans h.os,k.tape.trans h.tape,k.output.trans h.output,Nat.le_trans h.size k.size,fun i hi hr => (k.block i (Nat.lt_of_lt_of_le hi h.size) hr).trans (h.block i hi hr)⟩
theorem grown_alloc {w : World} {r : Option Nat} (o : Obj) : w.grownBy (w.alloc o) r := World.grownBy_alloc w o r
theorem grown_drew {a w : World} {r : Option Nat} (h : a.grownBy w r) : a.grownBy w.drew r := ⟨h.os,h.tape,h.output,h.size,h.block⟩
set_option maxHeartbeats 400000 in
theorem text_wrong (b : Nat) (s : ByteArray) (w : World) (h : w.heap[b]? = some (.cells #[.pointer none,.string ⟨#[]⟩,.bool true] 71)) :
    Calls Tryz.prog 60 #[.pointer (some ⟨b,0,none⟩),.string s] w fun e w' => e = .returned (.tuple #[]) ∧ w = w' := by
  have c2 : w.cell? ⟨b,2,none⟩ = some (.bool true) := lies_cell h 2
  have H := Lib.hid h;clear h
  go_enter Tryz.func60,Tryz.ntmps60
  go_wp2
  go_returns
  exact ⟨rfl,rfl⟩
set_option maxHeartbeats 400000 in
theorem text_small (b : Nat) (s last : ByteArray) (p : Option Addr) (w : World) (h : w.heap[b]? = some (.cells #[.pointer p,.string last,.bool false] 71)) (hs : last.size + s.size ≤ 64) :
    Calls Tryz.prog 60 #[.pointer (some ⟨b,0,none⟩),.string s] w fun e w' => e = .returned (.tuple #[]) ∧ w' = w.setCell ⟨b,1,none⟩ (.string (last ++ s)) := by
  have c0 : w.cell? ⟨b,0,none⟩ = some (.pointer p) := lies_cell h 0
  have c1 : w.cell? ⟨b,1,none⟩ = some (.string last) := lies_cell h 1
  have c2 : w.cell? ⟨b,2,none⟩ = some (.bool false) := lies_cell h 2
  have f1 : w.frozen? ⟨b,1,none⟩ = false := lies_frozen h 1
  have H := Lib.hid h;clear h
  go_enter Tryz.func60,Tryz.ntmps60
  go_wp2
  go_returns
  exact ⟨rfl,rfl⟩
set_option maxHeartbeats 400000 in
theorem text_big (b : Nat) (s last : ByteArray) (p : Option Addr) (w : World) (h : w.heap[b]? = some (.cells #[.pointer p,.string last,.bool false] 71)) (hs : 64 < last.size + s.size) (h1 : last.size ≤ 1000000) (h2 : s.size ≤ 1000000) :
    Calls Tryz.prog 60 #[.pointer (some ⟨b,0,none⟩),.string s] w fun e w' => e = .returned (.tuple #[]) ∧
      w'.heap[b]? = some (.cells #[.pointer (some ⟨w.heap.size,0,none⟩),.string s,.bool false] 71) ∧ w'.heap[w.heap.size]? = some (.cells #[.string last,.pointer p] 114) ∧ w.grownBy w' (some b) := by
  have c0 : w.cell? ⟨b,0,none⟩ = some (.pointer p) := lies_cell h 0
  have c1 : w.cell? ⟨b,1,none⟩ = some (.string last) := lies_cell h 1
  have c2 : w.cell? ⟨b,2,none⟩ = some (.bool false) := lies_cell h 2
  have f1 : w.frozen? ⟨b,1,none⟩ = false := lies_frozen h 1
  have f0 : w.frozen? ⟨b,0,none⟩ = false := lies_frozen h 0
  have hlt := lies_lt h
  have H := Lib.hid h;clear h
  go_enter Tryz.func60,Tryz.ntmps60
  go_wp2
  go_region
  go_wp2
  go_returns
  have hz : (({ data := #[] } : ByteArray) ++ s) = s := by
    apply ByteArray.ext
    simp
  have H1 := lies_set (lies_set (lies_set H.out 0 (.pointer (some ⟨w.heap.size,0,none⟩))) 1 (.string ⟨#[]⟩)) 1 (.string (({ data := #[] } : ByteArray) ++ s))
  have H2 := lies_alloc H1 (.cells #[.string last,.pointer p] 114)
  rw [hz] at H2
  refine ⟨rfl,?_,?_,?_⟩
  · rw [hz];exact H2
  · exact new_at (by simp)
  · exact grown_drew (grown_trans (grown_trans (grown_trans (grown_set b 0 _) (grown_set b 1 _)) (grown_set b 1 _)) (grown_alloc _))
theorem flat_bd {ts : List ByteArray} {last : ByteArray} {l : List UInt8} (h : l = flat ts ++ last.data.toList) : last.size ≤ l.length := by
  rw [h,List.length_append];show last.data.size ≤ _;simp
theorem text_any (b n : Nat) (st : Option (List UInt8)) (s : ByteArray) (w : World) (h : WrAt w b n st) (h1 : ∀ l,st = some l → l.length ≤ 1000000) (h2 : s.size ≤ 1000000) :
    Calls Tryz.prog 60 #[.pointer (some ⟨b,0,none⟩),.string s] w fun e w' => e = .returned (.tuple #[]) ∧ WrAt w' b (n + 1) (st.map (· ++ s.data.toList)) ∧ w.grownBy w' (some b) := by
  match st,h with
  | none,h => exact (text_wrong b s w h).mono fun e w' ⟨he,hw⟩ => by subst hw;exact ⟨he,h,World.grownBy.refl w _⟩
  | some l,⟨p,last,ts,hb,hc,hn,hl⟩ =>
    have hll := h1 l rfl
    have hbd := flat_bd hl
    by_cases hs : last.size + s.size ≤ 64
    · refine (text_small b s last p w hb hs).mono fun e w' ⟨he,hw⟩ => ?_
      subst hw
      have hg : w.grownBy (w.setCell ⟨b,1,none⟩ (.string (last ++ s))) (some b) := grown_set b 1 _
      refine ⟨he,⟨p,last ++ s,ts,lies_set hb 1 _,Chain.grown hg hc,by omega,?_⟩,hg⟩
      rw [hl];simp
    · refine (text_big b s last p w hb (by omega) (by omega) h2).mono fun e w' ⟨he,hb',hp',hg⟩ => ?_
      refine ⟨he,⟨_,s,last :: ts,hb',⟨w.heap.size,p,rfl,by have := lies_lt hb;omega,hp',Chain.grown hg hc⟩,by simp;omega,?_⟩,hg⟩
      rw [hl];rfl
set_option maxHeartbeats 400000 in
theorem fail_any (b n : Nat) (l : List UInt8) (w : World) (h : WrAt w b n (some l)) :
    Calls Tryz.prog 115 #[.pointer (some ⟨b,0,none⟩)] w fun e w' => e = .returned (.tuple #[]) ∧ WrAt w' b n none ∧ w.grownBy w' (some b) := by
  obtain ⟨p,last,ts,hb,hc,hn,hl⟩ := h
  have c0 : w.cell? ⟨b,0,none⟩ = some (.pointer p) := lies_cell hb 0
  have c1 : w.cell? ⟨b,1,none⟩ = some (.string last) := lies_cell hb 1
  have c2 : w.cell? ⟨b,2,none⟩ = some (.bool false) := lies_cell hb 2
  have f0 : w.frozen? ⟨b,0,none⟩ = false := lies_frozen hb 0
  have f1 : w.frozen? ⟨b,1,none⟩ = false := lies_frozen hb 1
  have f2 : w.frozen? ⟨b,2,none⟩ = false := lies_frozen hb 2
  have H := Lib.hid hb;clear hb hl hc hn
  go_enter Tryz.func115,Tryz.ntmps115
  go_wp2
  go_returns
  refine ⟨rfl,?_,grown_trans (grown_trans (grown_set b 0 _) (grown_set b 1 _)) (grown_set b 2 _)⟩
  exact lies_set (lies_set (lies_set H.out 0 (.pointer none)) 1 (.string ⟨#[]⟩)) 2 (.bool true)
end Go.Proofs.YtdgkanamceeheaaGreat.Bi
namespace Go.Proofs.YtdgkanamceeheaaGreat.Bi
open Go.RowKit Go.Proofs.PitotMath
def packGo : List Int → List Int → Nat → Option Nat
  | [],_,a => some a
  | _ :: _,[],a => some a
  | x :: xs,n :: ns,a => if fitsB n x = true then packGo xs ns (a * 2 ^ x.toNat + n.toNat) else none
def bitsOf (xs ns : List Int) : Option (List UInt8) :=
  if (togRes xs).2 = true ∧ xs.length = ns.length then (packGo xs ns 0).map (be (togRes xs).1.toNat) else none
def bitsStep (st : Option (List UInt8)) (xs ns : List Int) : Option (List UInt8) := st.bind fun l => (bitsOf xs ns).map (l ++ ·)
theorem together_eq (A : Option Addr) (cap : Nat) (xs : List Int) (w : World) (hx : IntsAt w A xs) (hl : xs.length ≤ 1000000) (n : Nat) (hn : n = xs.length) (r : Int) (ok : Bool) (hr : togRes xs = (r,ok)) :
    Calls Tryz.prog 114 #[.slice A n cap] w fun e w' => e = .returned (.tuple #[.int .i64 r,.bool ok]) ∧ w = w' := by
  subst hn
  have h := together_any A cap xs w hx hl
  rw [hr] at h
  exact h
theorem tog_ok {xs : List Int} (h : (togRes xs).2 = true) : ∃ (tot : Int) (m : Nat),togGo xs 0 = some tot ∧ tot = 8 * m ∧ (m = 1 ∨ m = 2 ∨ m = 4) ∧ togRes xs = ((m : Int),true) := by
  cases ht : togGo xs 0 with
  | none => rw [togRes_none ht] at h;simp at h
  | some tot =>
    rw [togRes_some ht] at h
    have h' : okSum tot = true := h
    simp only [okSum,Bool.or_eq_true,beq_iff_eq] at h'
    rcases h' with (rfl | rfl) | rfl
    · exact ⟨8,1,rfl,rfl,by simp,by rw [togRes_some ht];rfl⟩
    · exact ⟨16,2,rfl,rfl,by simp,by rw [togRes_some ht];rfl⟩
    · exact ⟨32,4,rfl,rfl,by simp,by rw [togRes_some ht];rfl⟩
theorem Chain.keep {w w' : World} {b : Nat} (hk : ∀ k,k < w.heap.size → w'.heap[k]? = w.heap[k]?) : ∀ {ts : List ByteArray} {p : Option Addr},Chain w b p ts → Chain w' b p ts
  | [],_,h => h
  | _ :: _,_,⟨c,q,h1,h2,h3,h4⟩ => ⟨c,q,h1,h2,(hk c (lies_lt h3)).trans h3,Chain.keep hk h4⟩
theorem WrAt.keep {w w' : World} {b n : Nat} {st : Option (List UInt8)} (h : WrAt w b n st) (hk : ∀ k,k < w.heap.size → w'.heap[k]? = w.heap[k]?) : WrAt w' b n st := by
  match st,h with
  | none,h => exact (hk b (lies_lt (w := w) h)).trans h
  | some l,⟨p,last,ts,hb,hc,hn,hl⟩ => exact ⟨p,last,ts,(hk b (lies_lt hb)).trans hb,Chain.keep hk hc,hn,hl⟩
theorem WrAt.below {w w' : World} {b n : Nat} {st : Option (List UInt8)} (h : WrAt w b n st) (hb : Below w.heap.size w w') : WrAt w' b n st := h.keep hb.block
theorem WrAt.more {w : World} {b n m : Nat} {st : Option (List UInt8)} (h : WrAt w b n st) (hm : n ≤ m) : WrAt w b m st := by
  match st,h with
  | none,h => exact h
  | some l,⟨p,last,ts,hb,hc,hn,hl⟩ => exact ⟨p,last,ts,hb,hc,Nat.le_trans hn hm,hl⟩
theorem grown_of_below {w w' : World} {r : Option Nat} (h : Below w.heap.size w w') : w.grownBy w' r := ⟨h.os,h.tape,h.output,h.size,fun k hk _ => h.block k hk⟩
theorem WrAt.cells {w : World} {b n : Nat} {l : List UInt8} (h : WrAt w b n (some l)) : w.cell? ⟨b,2,none⟩ = some (.bool false) := by
  obtain ⟨p,last,ts,hb,_⟩ := h
  exact lies_cell hb 2
set_option maxHeartbeats 400000 in
theorem bits_wrong (b n : Nat) (v1 v2 : Value) (w : World) (h : WrAt w b n none) :
    Calls Tryz.prog 96 #[.pointer (some ⟨b,0,none⟩),v1,v2] w fun e w' => e = .returned (.tuple #[]) ∧ w = w' := by
  have c2 : w.cell? ⟨b,2,none⟩ = some (.bool true) := lies_cell h 2
  clear h
  go_enter Tryz.func96,Tryz.ntmps96
  go_wp2
  go_returns
  exact ⟨rfl,rfl⟩
set_option maxHeartbeats 400000 in
theorem bits_bad1 (b n : Nat) (l : List UInt8) (A B : Option Addr) (ca cb : Nat) (xs ns : List Int) (w : World) (h : WrAt w b n (some l)) (hx : IntsAt w A xs) (hl : xs.length ≤ 1000000) (hbad : (togRes xs).2 = false) :
    Calls Tryz.prog 96 #[.pointer (some ⟨b,0,none⟩),.slice A xs.length ca,.slice B ns.length cb] w fun e w' => e = .returned (.tuple #[]) ∧ WrAt w' b n none ∧ w.grownBy w' (some b) := by
  have c2 := h.cells
  have hR : Hid (togRes xs = ((togRes xs).1,false)) := by show _ = _;rw [← hbad]
  have HB := Lib.hid hbad;clear hbad
  obtain ⟨r,hr⟩ : ∃ r,Hid (togRes xs = (r,false)) := ⟨_,hR⟩
  clear hR
  go_enter Tryz.func96,Tryz.ntmps96
  go_wp2_with (first
    | (go_at_call 114;refine (together_eq _ _ xs _ hx hl _ rfl r false hr.out).mono ?_;rintro e w' ⟨rfl,rfl⟩)
    | (go_at_call 115;refine (fail_any b n l _ h).mono ?_;rintro e w' ⟨rfl,hw1,hw2⟩))
  go_returns
  exact ⟨rfl,hw1,hw2⟩
set_option maxHeartbeats 400000 in
theorem bits_bad2 (b n : Nat) (l : List UInt8) (A B : Option Addr) (ca cb : Nat) (xs ns : List Int) (w : World) (h : WrAt w b n (some l)) (hx : IntsAt w A xs) (hl : xs.length ≤ 1000000) (hok : (togRes xs).2 = true) (hne : xs.length ≠ ns.length) :
    Calls Tryz.prog 96 #[.pointer (some ⟨b,0,none⟩),.slice A xs.length ca,.slice B ns.length cb] w fun e w' => e = .returned (.tuple #[]) ∧ WrAt w' b n none ∧ w.grownBy w' (some b) := by
  have c2 := h.cells
  obtain ⟨tot,m,ht,hm,hm3,hr0⟩ := tog_ok hok
  have hr := Lib.hid hr0
  have hd : ((xs.length : Int) != (ns.length : Int)) = true := by simp;omega
  clear ht hm hm3 hr0 hok
  go_enter Tryz.func96,Tryz.ntmps96
  go_wp2_with (first
    | (go_at_call 114;refine (together_eq _ _ xs _ hx hl _ rfl m true hr.out).mono ?_;rintro e w' ⟨rfl,rfl⟩)
    | (go_at_call 115;refine (fail_any b n l _ h).mono ?_;rintro e w' ⟨rfl,hw1,hw2⟩))
  go_returns
  exact ⟨rfl,hw1,hw2⟩
theorem pack_cons {xs ns : List Int} {k : Nat} (h1 : k < xs.length) (h2 : k < ns.length) (a : Nat) :
    packGo (xs.drop k) (ns.drop k) a = if fitsB ns[k] xs[k] = true then packGo (xs.drop (k + 1)) (ns.drop (k + 1)) (a * 2 ^ xs[k].toNat + ns[k].toNat) else none := by
  rw [List.drop_eq_getElem_cons h1,List.drop_eq_getElem_cons h2];rfl
theorem shl_or (a : Nat) (x v S : Int) (ha : a < 2 ^ S.toNat) (hS : 0 ≤ S) (hx : 1 ≤ x) (hSx : x ≤ 32 - S) (hv : fitsB v x = true) :
    bits .or .u32 (IntKind.u32.wrap ((a : Int) * 2 ^ x.toNat)) (IntKind.u32.wrap v) = ((a * 2 ^ x.toNat + v.toNat : Nat) : Int) ∧ a * 2 ^ x.toNat + v.toNat < 2 ^ (S + x).toNat := by
  unfold fitsB at hv
  have hv' := of_decide_eq_true hv
  obtain ⟨v,rfl⟩ := Int.eq_ofNat_of_zero_le hv'.1
  obtain ⟨x,rfl⟩ := Int.eq_ofNat_of_zero_le (show 0 ≤ x by omega)
  obtain ⟨S,rfl⟩ := Int.eq_ofNat_of_zero_le hS
  have hv2 : v < 2 ^ x := by have := hv'.2;simp at this;exact_mod_cast this
  simp only [Int.toNat_natCast] at ha ⊢
  have hsx : (((S : Int) + (x : Int))).toNat = S + x := by omega
  rw [hsx]
  have h2 : a * 2 ^ x + v < 2 ^ (S + x) := by
    rw [Nat.pow_add]
    have : (a + 1) * 2 ^ x ≤ 2 ^ S * 2 ^ x := Nat.mul_le_mul_right _ ha
    rw [Nat.add_mul] at this
    omega
  have h3 : 2 ^ (S + x) ≤ 2 ^ 32 := Nat.pow_le_pow_right (by omega) (by omega)
  have e1 : ((a : Int) * 2 ^ x) = ((a * 2 ^ x : Nat) : Int) := by simp
  have h4 : a * 2 ^ x < 4294967296 := by omega
  have h5 : v < 4294967296 := by omega
  rw [e1,IntWalk.u32_in _ (by omega),IntWalk.u32_in _ (by omega),u32_or_nat _ _ h4 h5]
  refine ⟨?_,h2⟩
  rw [Nat.mul_comm a,← Nat.two_pow_add_eq_or_of_lt hv2 a]
theorem togGo_at {xs : List Int} {k : Nat} {S tot : Int} (hk : k < xs.length) (h : togGo (xs.drop k) S = some tot) : 1 ≤ xs[k] ∧ xs[k] ≤ 32 - S ∧ togGo (xs.drop (k + 1)) (S + xs[k]) = some tot := by
  rw [tog_cons hk] at h
  split at h
  · cases h
  · exact ⟨by omega,by omega,h⟩
theorem togGo_end {S tot : Int} (h : togGo [] S = some tot) : S = tot := by simpa [togGo] using h
set_option maxHeartbeats 1000000 in
theorem bits_loop (b n : Nat) (l : List UInt8) (A B : Option Addr) (ca cb : Nat) (xs ns : List Int) (w : World) (h : WrAt w b n (some l)) (hx : IntsAt w A xs) (hy : IntsAt w B ns) (hl : xs.length ≤ 1000000) (hll : l.length ≤ 900000)
    (hok : (togRes xs).2 = true) (heq : xs.length = ns.length) :
    Calls Tryz.prog 96 #[.pointer (some ⟨b,0,none⟩),.slice A xs.length ca,.slice B ns.length cb] w fun e w' => e = .returned (.tuple #[]) ∧ WrAt w' b (n + 1) ((bitsOf xs ns).map (l ++ ·)) ∧ w.grownBy w' (some b) := by
  have c2 := h.cells
  obtain ⟨tot,m,ht0,hm0,hm3,hr0⟩ := tog_ok hok
  have hr := Lib.hid hr0
  have ht := Lib.hid ht0
  have hm := Lib.hid hm0
  have hm4 : m ≤ 4 := by omega
  have HB : Hid (bitsOf xs ns = (packGo xs ns 0).map (be m)) := by
    show _ = _
    unfold bitsOf
    rw [if_pos ⟨hok,heq⟩,hr0];rfl
  have HE := Lib.hid heq
  obtain ⟨q,Hq⟩ : ∃ q,Hid (q = ns.length) := ⟨_,rfl⟩
  have Hq' : Hid (q = xs.length) := Hq.out.trans heq.symm
  rw [← Hq.out,← Hq'.out]
  rw [← Hq'.out] at hl
  clear ht0 hm0 hm3 hr0 hok heq
  go_enter Tryz.func96,Tryz.ntmps96
  go_wp2_with (go_at_call 114;refine (together_eq _ _ xs _ hx (by rw [← Hq'.out];exact hl) _ Hq'.out m true hr.out).mono ?_;rintro e w' ⟨rfl,rfl⟩)
  go_loop [8,37] (fun v8 v37 => ∃ (k a : Nat) (S : Int),k ≤ q ∧ v37 = .int .i64 k ∧ v8 = .int .u32 a ∧ 0 ≤ S ∧ Hid (a < 2 ^ S.toNat) ∧ Hid (togGo (xs.drop k) S = some tot) ∧ Hid (packGo (xs.drop k) (ns.drop k) a = packGo xs ns 0)) (fun _ v37 => q - (intOf v37).toNat)
  case atStart => exact ⟨0,0,0,Nat.zero_le _,rfl,rfl,by omega,by show (0 : Nat) < 2 ^ 0;omega,ht,rfl⟩
  case round =>
    obtain ⟨k,a,S,hk,rfl,rfl,hS0,ha,htk,hpk⟩ := hrel
    by_cases hlt : k < q
    · have hk1 : k < xs.length := by rw [← Hq'.out];exact hlt
      have hk2 : k < ns.length := by rw [← Hq.out];exact hlt
      obtain ⟨bx,ox,rfl,hbx,hcx⟩ := hx.get hk1
      obtain ⟨bn,on,rfl,hbn,hcn⟩ := hy.get hk2
      obtain ⟨hx1,hx2,htk'⟩ := togGo_at hk1 htk.out
      have hps := pack_cons hk1 hk2 a
      rw [hpk.out] at hps
      obtain ⟨x,Hx⟩ : ∃ x,Hid (x = xs[k]) := ⟨xs[k],rfl⟩
      obtain ⟨v,Hv⟩ : ∃ v,Hid (v = ns[k]) := ⟨ns[k],rfl⟩
      rw [← Hx.out] at hcx hx1 hx2 htk' hps
      rw [← Hv.out] at hcn hps
      have HPS := Lib.hid hps;clear hps
      have HTK := Lib.hid htk';clear htk'
      cases hfit : fitsB v x with
      | false =>
        go_wp2_with (first
          | (go_at_call 116;refine (has_any _ _ _ (by omega) (by omega)).mono ?_;rintro e w' ⟨rfl,rfl⟩;rw [hfit])
          | (go_at_call 115;refine (fail_any b n l _ h).mono ?_;rintro e w' ⟨rfl,hw1,hw2⟩))
        go_returns
        refine ⟨rfl,?_,hw2⟩
        rw [HB.out,HPS.out,hfit]
        exact hw1
      | true =>
        have hso := shl_or a x v S ha.out hS0 hx1 hx2 hfit
        have HSO := Lib.hid hso;clear hso
        go_wp2_with (go_at_call 116;refine (has_any _ _ _ (by omega) (by omega)).mono ?_;rintro e w' ⟨rfl,rfl⟩;rw [hfit])
        go_round
        case rel => exact ⟨k + 1,a * 2 ^ x.toNat + v.toNat,S + x,by omega,by go_num,val_int HSO.out.1,by omega,HSO.out.2,HTK,by show _ = _;rw [HPS.out,hfit];rfl⟩
        case measure => simp [intOf];omega
    · have hkx : xs.drop k = [] := List.drop_of_length_le (by rw [← Hq'.out];omega)
      have hS : S = tot := togGo_end (by have := htk.out;rwa [hkx] at this)
      have hpn : packGo xs ns 0 = some a := by rw [← hpk.out,hkx];rfl
      have HP := Lib.hid hpn;clear hpn
      have ha4 : a < 4294967296 := by
        have h1 := ha.out
        have h2 : 2 ^ S.toNat ≤ 2 ^ 32 := Nat.pow_le_pow_right (by omega) (by have := hm.out;omega)
        omega
      clear hS hkx
      go_wp2_with (first
        | (go_at_call 117;refine (spread_any a m _ hm4 ha4).mono ?_;rintro e w1 ⟨rfl,hb1⟩)
        | (go_at_call 60;refine (text_any b n (some l) _ w1 (h.below hb1) (fun l' e => by cases e;omega) (by show (be m a).toArray.size ≤ _;simp [be_length];omega)).mono ?_;rintro e w2 ⟨rfl,hw1,hw2⟩))
      go_returns
      refine ⟨rfl,?_,grown_trans (grown_of_below hb1) hw2⟩
      rw [HB.out,HP.out]
      exact hw1
theorem bits_any (b n : Nat) (st : Option (List UInt8)) (A B : Option Addr) (ca cb : Nat) (xs ns : List Int) (w : World) (h : WrAt w b n st) (hx : IntsAt w A xs) (hy : IntsAt w B ns) (hl : xs.length ≤ 1000000) (hll : ∀ l,st = some l → l.length ≤ 900000) :
    Calls Tryz.prog 96 #[.pointer (some ⟨b,0,none⟩),.slice A xs.length ca,.slice B ns.length cb] w fun e w' => e = .returned (.tuple #[]) ∧ WrAt w' b (n + 1) (bitsStep st xs ns) ∧ w.grownBy w' (some b) := by
  match st,h with
  | none,h => exact (bits_wrong b n _ _ w h).mono fun e w' ⟨he,hw⟩ => by subst hw;exact ⟨he,h,World.grownBy.refl w _⟩
  | some l,h =>
    cases hok : (togRes xs).2 with
    | false =>
      refine (bits_bad1 b n l A B ca cb xs ns w h hx hl hok).mono fun e w' ⟨he,hw,hg⟩ => ⟨he,?_,hg⟩
      have : bitsStep (some l) xs ns = none := by simp [bitsStep,bitsOf,hok]
      rw [this];exact hw
    | true =>
      by_cases heq : xs.length = ns.length
      · exact bits_loop b n l A B ca cb xs ns w h hx hy hl (hll l rfl) hok heq
      · refine (bits_bad2 b n l A B ca cb xs ns w h hx hl hok heq).mono fun e w' ⟨he,hw,hg⟩ => ⟨he,?_,hg⟩
        have : bitsStep (some l) xs ns = none := by simp [bitsStep,bitsOf,heq]
        rw [this];exact hw
def putStep (st : Option (List UInt8)) (m : Nat) (v : Int) : Option (List UInt8) := if fitsB v (8 * m) = true then st.map (· ++ be m v.toNat) else none
theorem ints_one {w : World} (x : Int) (k : Nat) (hk : w.heap[k]? = some (.cells #[.int .i64 x] 3)) : IntsAt w (some ⟨k,0,none⟩) [x] := by
  intro _
  refine ⟨k,0,rfl,lies_lt hk,fun i hi => ?_⟩
  obtain rfl : i = 0 := by simp at hi;omega
  exact lies_cell hk 0
theorem tog_one (m : Nat) (hm : m = 1 ∨ m = 2 ∨ m = 4) : togRes [(8 * m : Int)] = ((m : Int),true) := by
  rcases hm with rfl | rfl | rfl <;> rfl
theorem bitsStep_one (st : Option (List UInt8)) (m : Nat) (v : Int) (hm : m = 1 ∨ m = 2 ∨ m = 4) : bitsStep st [(8 * m : Int)] [v] = putStep st m v := by
  unfold bitsStep bitsOf putStep
  rw [tog_one m hm]
  simp only [List.length_cons,List.length_nil,and_self,if_true,packGo]
  cases st with
  | none => simp
  | some l => split <;> simp
theorem put_core (b n : Nat) (st : Option (List UInt8)) (m : Nat) (x v : Int) (w : World) (hm : m = 1 ∨ m = 2 ∨ m = 4) (hx : x = 8 * m) (h : WrAt w b n st) (hll : ∀ l,st = some l → l.length ≤ 900000) :
    Calls Tryz.prog 96 #[.pointer (some ⟨b,0,none⟩),.slice (some ⟨w.heap.size,0,none⟩) 1 1,.slice (some ⟨w.heap.size + 1,0,none⟩) 1 1] ((w.alloc (.cells #[.int .i64 x] 3)).alloc (.cells #[.int .i64 v] 3))
      fun e w' => e = .returned (.tuple #[]) ∧ WrAt w' b (n + 1) (putStep st m v) ∧ w.grownBy w' (some b) := by
  subst hx
  have hb : Below w.heap.size w ((w.alloc (.cells #[.int .i64 (8 * m)] 3)).alloc (.cells #[.int .i64 v] 3)) := ((Below.refl _ _).alloc (Nat.le_refl _) _).alloc (by simp) _
  have hx : IntsAt ((w.alloc (.cells #[.int .i64 (8 * m)] 3)).alloc (.cells #[.int .i64 v] 3)) (some ⟨w.heap.size,0,none⟩) [(8 * m : Int)] := ints_one _ _ (lies_alloc (heap_alloc_new w _) _)
  have hy : IntsAt ((w.alloc (.cells #[.int .i64 (8 * m)] 3)).alloc (.cells #[.int .i64 v] 3)) (some ⟨w.heap.size + 1,0,none⟩) [v] := ints_one _ _ (by have := heap_alloc_new (w.alloc (.cells #[.int .i64 (8 * m)] 3)) (.cells #[.int .i64 v] 3);simpa using this)
  have h1 := bits_any b n st _ _ 1 1 _ _ _ (h.below hb) hx hy (by simp) hll
  rw [bitsStep_one st m v hm] at h1
  exact h1.mono fun e w' ⟨he,hw,hg⟩ => ⟨he,hw,grown_trans (grown_of_below hb) hg⟩
set_option maxHeartbeats 400000 in
theorem u16_any (b n : Nat) (st : Option (List UInt8)) (v : Int) (w : World) (h : WrAt w b n st) (hll : ∀ l,st = some l → l.length ≤ 900000) :
    Calls Tryz.prog 61 #[.pointer (some ⟨b,0,none⟩),.int .i64 v] w fun e w' => e = .returned (.tuple #[]) ∧ WrAt w' b (n + 1) (putStep st 2 v) ∧ w.grownBy w' (some b) := by
  have HL := Lib.hid hll;clear hll
  go_enter Tryz.func61,Tryz.ntmps61
  go_wp2_with (go_at_call 96;refine (put_core b n st 2 16 v w (by simp) rfl h HL.out).mono ?_;rintro e w' ⟨rfl,h1,h2⟩)
  go_returns
  exact ⟨rfl,h1,h2⟩
set_option maxHeartbeats 400000 in
theorem u32_any (b n : Nat) (st : Option (List UInt8)) (v : Int) (w : World) (h : WrAt w b n st) (hll : ∀ l,st = some l → l.length ≤ 900000) :
    Calls Tryz.prog 63 #[.pointer (some ⟨b,0,none⟩),.int .i64 v] w fun e w' => e = .returned (.tuple #[]) ∧ WrAt w' b (n + 1) (putStep st 4 v) ∧ w.grownBy w' (some b) := by
  have HL := Lib.hid hll;clear hll
  go_enter Tryz.func63,Tryz.ntmps63
  go_wp2_with (go_at_call 96;refine (put_core b n st 4 32 v w (by simp) rfl h HL.out).mono ?_;rintro e w' ⟨rfl,h1,h2⟩)
  go_returns
  exact ⟨rfl,h1,h2⟩
end Go.Proofs.YtdgkanamceeheaaGreat.Bi
