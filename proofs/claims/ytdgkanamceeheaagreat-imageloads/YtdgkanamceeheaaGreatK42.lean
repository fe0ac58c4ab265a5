/- Contracts of Make, Table.Go. Contracts of spread, Sum, Seal, Open (the program's) and Seal, Open (the document's). Contracts of Seal, Open (the program's) and Seal, Open (the document's); awake. -/
import Derived.Test.YtdgkanamceeheaaGreatK41
import Derived.RegionTactic
import Derived.BigRegion
import Derived.Deep.RegionWith
import Derived.Below
set_option linter.unusedVariables false
namespace Go.Proofs.YtdgkanamceeheaaGreat.Cr
open Go.RowKit Go.Proofs.PitotCrc
section
variable {w w' : World} {g : Nat} {t : TypeId} {cs : Array Value}
theorem lies_lt (h : w.heap[g]? = some (.cells cs t)) : g < w.heap.size := by
  rcases Nat.lt_or_ge g w.heap.size with h1 | h1
  · exact h1
  · rw [Array.getElem?_eq_none h1] at h;cases h
theorem lies_cell (h : w.heap[g]? = some (.cells cs t)) (i : Nat) : w.cell? ⟨g,i,none⟩ = cs[i]? := by simp [World.cell?,h]
theorem lies_frozen (h : w.heap[g]? = some (.cells cs t)) (i : Nat) : w.frozen? ⟨g,i,none⟩ = false := by simp [World.frozen?,h]
theorem lies_set (h : w.heap[g]? = some (.cells cs t)) (i : Nat) (u : Value) : (w.setCell ⟨g,i,none⟩ u).heap[g]? = some (.cells (cs.setIfInBounds i u) t) := by
  simp [World.setCell,Array.getElem?_modify,h]
end
def tc (k : Nat) : List Value := (List.range 256).map fun i => if i < k then .int .u32 (mv i : Nat) else .int .u32 0
theorem tc_zero : (tc 0).toArray = Array.replicate 256 (.int .u32 0) := by
  rw [← Array.toList_inj]
  apply List.ext_getElem?
  intro i
  show (tc 0)[i]? = (List.replicate 256 (Value.int .u32 0))[i]?
  rw [List.getElem?_replicate]
  unfold tc
  rw [List.getElem?_map]
  by_cases hi : i < 256
  · rw [if_pos hi,List.getElem?_range hi];rfl
  · rw [if_neg hi,List.getElem?_eq_none (by rw [List.length_range];omega)];rfl
theorem tc_get (k i : Nat) (h : i < k) (h2 : i < 256) : (tc k)[i]? = some (.int .u32 (mv i : Nat)) := by
  simp [tc,h,h2]
theorem tc_at (k : Nat) (h2 : k < 256) : (tc k)[k]? = some (.int .u32 0) := by
  simp [tc,h2]
theorem tc_set (k : Nat) (v : Value) (hv : v = .int .u32 (mv k : Nat)) : (tc k).toArray.setIfInBounds k v = (tc (k + 1)).toArray := by
  subst hv
  rw [← Array.toList_inj]
  simp only [Array.toList_setIfInBounds]
  apply List.ext_getElem?
  intro i
  rw [List.getElem?_set]
  by_cases hi : i < 256
  · by_cases hik : k = i
    · subst hik;simp [tc,hi]
    · by_cases h1 : i < k
      · simp [tc,hi,hik,h1,show i < k + 1 by omega]
      · simp [tc,hi,hik,h1,show ¬ i < k + 1 by omega]
  · simp [tc,hi];omega
def rst (k : Nat) : Nat := k &&& (k - 1)
theorem rst_and : ∀ k : Nat,k < 256 → bits .and .i64 (k : Int) ((k : Int) - 1) = (rst k : Nat) := by decide +kernel
theorem rst_xor : ∀ k : Nat,k < 256 → bits .xor .i64 (k : Int) (rst k : Nat) = ((k ^^^ rst k : Nat) : Int) := by decide +kernel
theorem rst_lt : ∀ k : Nat,k < 256 → rst k ≠ 0 → rst k < k ∧ k ^^^ rst k < k := by decide +kernel
theorem tab_xor (k : Nat) (_h : k < 256) : bits .xor .u32 (mv (rst k) : Nat) (mv (k ^^^ rst k) : Nat) = (mv k : Nat) := by
  have h1 : rst k < 4294967296 := by have := Nat.and_le_left (n := k) (m := k - 1);unfold rst;omega
  have h2 : k ^^^ rst k < 4294967296 := Nat.xor_lt_two_pow (n := 32) (by omega) h1
  rw [u32_xor_nat _ _ (mv_lt _ h1) (mv_lt _ h2),← mv_xor,Nat.xor_comm,Nat.xor_assoc,Nat.xor_self,Nat.xor_zero]
theorem Tryz.info158 : (Tryz.prog.info? 158).map (fun i => (i.zero,i.size,i.bytes)) = some (some (.agg (Array.replicate 256 (.int .u32 0))),256,1024) := by kernel_rfl
theorem zero_run (w : World) : (zeroValue 158).run Tryz.prog w = .ok (.agg (tc 0).toArray) w := by
  obtain ⟨i,hi,hz,_,_⟩ := info_parts Tryz.info158
  rw [tc_zero]
  simp only [zeroValue,typeInfo]
  simp [hi,hz]
def TabAt (w : World) (b k : Nat) : Prop := w.heap[b]? = some (.cells (tc k).toArray 158)
set_option maxRecDepth 100000 in
set_option maxHeartbeats 1000000 in
theorem make_any (w : World) :
    Calls Tryz.prog 81 #[] w fun e w' => e = .returned (.pointer (some ⟨w.heap.size,0,none⟩)) ∧ TabAt w' w.heap.size 256 ∧ Below w.heap.size w w' := by
  have hbr := fun w => zero_run w
  go_enter Tryz.func81,Tryz.ntmps81
  go_wp2
  clear hbr
  go_loopw [6] (fun i wr => ∃ k : Nat,k ≤ 256 ∧ i = .int .i64 k ∧ Hid (TabAt wr w.heap.size k) ∧ Below w.heap.size w wr) (fun i _ => 256 - (intOf i).toNat)
  case atStart => exact ⟨0,Nat.zero_le _,rfl,heap_alloc_new w _,(Below.refl _ _).alloc (Nat.le_refl _) _⟩
  case round =>
    obtain ⟨k,hk,rfl,ht,hb⟩ := hrel
    by_cases hlt : k < 256
    · have ea := rst_and k hlt
      have ex := rst_xor k hlt
      have hl := rst_lt k hlt
      have hc : wr.cell? ⟨w.heap.size,k,none⟩ = some (.int .u32 0) := by rw [lies_cell ht.out];simpa using tc_at k hlt
      have hf : wr.frozen? ⟨w.heap.size,k,none⟩ = false := lies_frozen ht.out k
      have tx := tab_xor k hlt
      have HT : Hid (bits .xor .u32 (mv (rst k) : Nat) (mv (k ^^^ rst k) : Nat) = (mv k : Nat)) := tx
      clear tx
      by_cases hr : rst k = 0
      · have HR : Hid (mv k < 4294967296) := mv_lt k (by omega)
        rw [hr] at ea
        clear hl ex hr HT
        have ew : IntKind.u32.wrap (k : Int) = (k : Int) := IntWalk.u32_in _ (by omega)
        go_wp2
        go_region_with ((go_at_call 110;(with_reducible refine (moved_any k _ (by omega)).mono ?_);rintro e w' ⟨rfl,rfl⟩))
        go_wp2
        go_roundw
        case rel => exact ⟨k + 1,by omega,by go_num,by show _ = _;rw [← tc_set k _ rfl];exact lies_set ht.out k _,(hb.setCell (p := ⟨w.heap.size,k,none⟩) (Nat.le_refl _) _).drew⟩
        case measure => simp [intOf];omega
      · obtain ⟨h1,h2⟩ := hl hr
        have c1 : wr.cell? ⟨w.heap.size,rst k,none⟩ = some (.int .u32 (mv (rst k) : Nat)) := by rw [lies_cell ht.out];simpa using tc_get k (rst k) h1 (by omega)
        have c2 : wr.cell? ⟨w.heap.size,k ^^^ rst k,none⟩ = some (.int .u32 (mv (k ^^^ rst k) : Nat)) := by rw [lies_cell ht.out];simpa using tc_get k _ h2 (by omega)
        clear hl
        obtain ⟨r,Hr⟩ : ∃ r,Hid (r = rst k) := ⟨_,rfl⟩
        rw [← Hr.out] at c1 c2 ea ex h1 h2 hr HT
        obtain ⟨x,Hx⟩ : ∃ x,Hid (x = k ^^^ r) := ⟨_,rfl⟩
        rw [← Hx.out] at c2 ex h2 HT
        have hr0 : 0 < r := by omega
        clear hr
        go_wp2
        go_region
        all_goals
          go_wp2
          go_roundw
          case rel => exact ⟨k + 1,by omega,by go_num,by show _ = _;rw [← tc_set k _ rfl];rw [HT.out];exact lies_set ht.out k _,(hb.setCell (p := ⟨w.heap.size,k,none⟩) (Nat.le_refl _) _).drew⟩
          case measure => simp [intOf];omega
    · go_wp2
      go_returns
      obtain rfl : k = 256 := by omega
      exact ⟨rfl,ht.out,hb⟩
theorem TabAt.keep {w w' : World} {b k : Nat} (h : TabAt w b k) (hb : Below w.heap.size w w') : TabAt w' b k := (hb.block b (lies_lt h)).trans h
theorem tab_step (x : Nat) (c : UInt8) (h : x < 4294967296) :
    bits .xor .u32 (mv ((x % 256) ^^^ c.toNat) : Nat) ((x : Int) / 256) = (tk x c : Nat) := by
  have hc := c.toNat_lt
  have h1 : (x % 256) ^^^ c.toNat < 4294967296 := Nat.xor_lt_two_pow (n := 32) (by omega) (by omega)
  rw [show (x : Int) / 256 = ((x / 256 : Nat) : Int) by omega,u32_xor_nat _ _ (mv_lt _ h1) (by omega),tk_table]
set_option maxRecDepth 100000 in
set_option maxHeartbeats 400000 in
theorem go_any (b c : Nat) (s : ByteArray) (w : World) (ht : TabAt w b 256) (hc : c < 4294967296) (hs : s.size ≤ 100000) :
    Calls Tryz.prog 82 #[.pointer (some ⟨b,0,none⟩),.int .u32 c,.string s] w fun e w' => e = .returned (.int .u32 (go c s.data.toList : Nat)) ∧ Below w.heap.size w w' := by
  obtain ⟨R,HR⟩ : ∃ R,Hid (R = go c s.data.toList) := ⟨_,rfl⟩
  rw [← HR.out]
  have HT := Lib.hid ht;clear ht
  go_enter Tryz.func82,Tryz.ntmps82
  go_wp2
  go_loopw [1,7] (fun n i wr => ∃ (k : Nat) (x : Nat),k ≤ s.size ∧ i = .int .i64 k ∧ n = .int .u32 x ∧ x < 4294967296 ∧ Hid (x = go c (s.data.toList.take k)) ∧ Below w.heap.size w wr) (fun _ i _ => s.size - (intOf i).toNat)
  case atStart => exact ⟨0,c,Nat.zero_le _,rfl,rfl,hc,rfl,Below.refl _ _⟩
  case round =>
    obtain ⟨k,x,hk,rfl,rfl,hx,Hx,hb⟩ := hrel
    by_cases hlt : k < s.size
    · have hsk := s[k].toNat_lt
      have hj : (x % 256) ^^^ s[k].toNat < 256 := Nat.xor_lt_two_pow (n := 8) (by omega) hsk
      have hcell : wr.cell? ⟨b,(x % 256) ^^^ s[k].toNat,none⟩ = some (.int .u32 (mv ((x % 256) ^^^ s[k].toNat) : Nat)) := by
        rw [lies_cell (HT.out.keep hb)];simpa using tc_get 256 _ hj hj
      have e1 : bits .xor .u8 ((x : Int) % 256) (s[k].toNat : Int) = (((x % 256) ^^^ s[k].toNat : Nat) : Int) := by
        rw [show (x : Int) % 256 = ((x % 256 : Nat) : Int) by omega,u8_xor_nat _ _ (by omega) hsk]
      have HS := Lib.hid (tab_step x s[k] hx)
      have hsn := Lib.hid (take_snoc s k hlt)
      obtain ⟨j,Hj⟩ : ∃ j,Hid (j = (x % 256) ^^^ s[k].toNat) := ⟨(x % 256) ^^^ s[k].toNat,rfl⟩
      rw [← Hj.out] at hj hcell e1
      have i2 : (k : Int) < (s.size : Int) := by omega
      have ew : IntKind.u8.wrap (x : Int) = (x : Int) % 256 := IntKind.wrap_u8 _
      go_wp2
      go_quiet (fail)
      go_wp2
      go_roundw
      case rel => exact ⟨k + 1,tk x s[k],by omega,by go_num,val_int (by rw [Hj.out];exact HS.out),tk_lt _ _ hx,by show _ = _;rw [hsn.out,go_snoc,Hx.out],below_drewN hb nq⟩
      case measure => simp [intOf];omega
    · go_wp2
      go_returns
      exact ⟨ret_int (by rw [HR.out,Hx.out,List.take_of_length_le (by simp;omega)]),hb⟩
end Go.Proofs.YtdgkanamceeheaaGreat.Cr
namespace Go.Proofs.YtdgkanamceeheaaGreat.Cr
open Go.RowKit Go.Proofs.PitotCrc
def pc (l : List UInt8) (k : Nat) : List Value := (l.take k).map (fun c => Value.int .u8 c.toNat) ++ List.replicate (l.length - k) (.int .u8 0)
theorem pc_zero (l : List UInt8) : pc l 0 = List.replicate l.length (.int .u8 0) := by simp [pc]
theorem pc_full (l : List UInt8) : pc l l.length = l.map (fun c => Value.int .u8 c.toNat) := by simp [pc]
theorem pc_at (l : List UInt8) (k : Nat) (h : k < l.length) : (pc l k)[k]? = some (.int .u8 0) := by
  unfold pc
  have hm : min k l.length = k := Nat.min_eq_left (Nat.le_of_lt h)
  rw [List.getElem?_append_right (by simp;omega)]
  simp only [List.length_map,List.length_take,hm,Nat.sub_self]
  rw [List.getElem?_replicate,if_pos (by omega)]
theorem pc_step (l : List UInt8) (k : Nat) (h : k < l.length) (v : Value) (hv : v = .int .u8 l[k].toNat) : (pc l k).set k v = pc l (k + 1) := by
  subst hv
  unfold pc
  rw [List.take_succ_eq_append_getElem h,List.map_append]
  obtain ⟨d,hd⟩ : ∃ d,l.length - k = d + 1 := ⟨l.length - k - 1,by omega⟩
  have hd' : l.length - (k + 1) = d := by omega
  rw [hd,hd',List.replicate_succ,List.set_append_right _ _ (by simp;omega)]
  simp [Nat.min_eq_left (Nat.le_of_lt h)]
theorem le4_cell (n k : Nat) (h : k < (le4 n).length) : Value.int .u8 ((n : Int) / 2 ^ (8 * k) % 256) = .int .u8 ((le4 n)[k]'h).toNat := by
  refine val_int ?_
  have hk : k < 4 := h
  have : k = 0 ∨ k = 1 ∨ k = 2 ∨ k = 3 := by omega
  rcases this with rfl | rfl | rfl | rfl <;> simp [le4] <;> omega
set_option maxRecDepth 100000 in
set_option maxHeartbeats 400000 in
theorem spread_any (n : Nat) (w : World) (_hn : n < 4294967296) :
    Calls Tryz.prog 35 #[.int .u32 n] w fun e w' => e = .returned (.string ⟨(le4 n).toArray⟩) ∧ Below w.heap.size w w' := by
  have hz0 : (#[.int .u8 0,.int .u8 0,.int .u8 0,.int .u8 0] : Array Value) = (pc (le4 n) 0).toArray := by rw [pc_zero];rfl
  have HZ := Lib.hid hz0;clear hz0
  go_enter Tryz.func35,Tryz.ntmps35
  go_wp2
  go_loopw [5] (fun i wr => ∃ k : Nat,k ≤ 4 ∧ i = .int .i64 k ∧ wr = w.alloc (.cells (pc (le4 n) k).toArray 127)) (fun i _ => 4 - (intOf i).toNat)
  case atStart => exact ⟨0,Nat.zero_le _,rfl,by rw [← HZ.out]⟩
  case round =>
    obtain ⟨k,hk,rfl,rfl⟩ := hrel
    by_cases hlt : k < 4
    · have hl' : k < (le4 n).length := hlt
      have hpk := pc_at (le4 n) k hl'
      go_wp2
      go_roundw
      case rel => exact ⟨k + 1,by omega,by go_num,by rw [pc_step _ k hl' _ (le4_cell n k hl')]⟩
      case measure => simp [intOf];omega
    · have hcv : (convert 41 9 (.slice (some ⟨w.heap.size,0,none⟩) 4 4)).run Tryz.prog (w.alloc (.cells (pc (le4 n) k).toArray 127)) = .ok (.string ⟨(le4 n).toArray⟩) (w.alloc (.cells (pc (le4 n) k).toArray 127)) :=
        run_convert_bytes_back (P := Tryz.prog) (w.alloc (.cells (pc (le4 n) k).toArray 127)) 41 9 5 ⟨w.heap.size,0,none⟩ 4 (le4 n) Tryz.underlying41 Tryz.underlying5 Tryz.underlying9 (fun j hj => by
          have e : (⟨w.heap.size,0,none⟩ : Addr).add j = ⟨w.heap.size,j,none⟩ := by unfold Addr.add;split <;> simp_all
          rw [e,World.cell?_alloc_mark w _ 127 (0,0) j,show k = (le4 n).length by rw [le4_length];omega,pc_full]
          simp [hj])
      go_wp2
      go_returns
      exact ⟨rfl,(Below.refl _ _).alloc (Nat.le_refl _) _⟩
def StrsAt (w : World) (A : Option Addr) (xs : List ByteArray) : Prop :=
  xs ≠ [] → ∃ b off,A = some ⟨b,off,none⟩ ∧ b < w.heap.size ∧ ∀ i (h : i < xs.length),w.cell? ⟨b,off + i,none⟩ = some (.string xs[i])
theorem StrsAt.get {w : World} {A : Option Addr} {xs : List ByteArray} (h : StrsAt w A xs) {k : Nat} (hk : k < xs.length) :
    ∃ b off,A = some ⟨b,off,none⟩ ∧ b < w.heap.size ∧ w.cell? ⟨b,off + k,none⟩ = some (.string xs[k]) := by
  obtain ⟨b,off,h1,h2,h3⟩ := h (by intro e;subst e;simp at hk)
  exact ⟨b,off,h1,h2,h3 k hk⟩
def cat (xs : List ByteArray) : List UInt8 := (xs.map fun x => x.data.toList).flatten
theorem cat_snoc (xs : List ByteArray) (x : ByteArray) : cat (xs ++ [x]) = cat xs ++ x.data.toList := by simp [cat]
set_option maxRecDepth 100000 in
set_option maxHeartbeats 400000 in
theorem sum_any (A : Option Addr) (cap : Nat) (xs : List ByteArray) (w : World) (hx : StrsAt w A xs) (hl : xs.length ≤ 1000) (hs : ∀ x ∈ xs,x.size ≤ 100000) (n : Nat) (hn : n = xs.length) (S : Nat) (hS : S = sum (cat xs)) :
    Calls Tryz.prog 36 #[.slice A n cap] w fun e w' => e = .returned (.int .u32 S) ∧ Below w.heap.size w w' := by
  have HS := Lib.hid hS;clear hS
  have Hn := Lib.hid hn;clear hn
  have hn1 : n ≤ 1000 := by rw [Hn.out];exact hl
  have HX := Lib.hid hs;clear hs
  go_enter Tryz.func36,Tryz.ntmps36
  go_wp2_with (go_at_call 81;refine (make_any _).mono ?_;rintro e w1 ⟨rfl,ht1,hb1⟩;(have HT := Lib.hid ht1);clear ht1)
  go_loopw [4,10] (fun v4 v10 wr => ∃ (k : Nat) (x : Nat),k ≤ n ∧ v10 = .int .i64 k ∧ v4 = .int .u32 x ∧ x < 4294967296 ∧ Hid (x = go 4294967295 (cat (xs.take k))) ∧ Below w.heap.size w wr ∧ Hid (TabAt wr w.heap.size 256)) (fun _ v10 _ => n - (intOf v10).toNat)
  case atStart => exact ⟨0,4294967295,Nat.zero_le _,rfl,rfl,by decide,rfl,hb1,HT⟩
  case round =>
    obtain ⟨k,x,hk,rfl,rfl,hx1,Hx,hb,ht⟩ := hrel
    by_cases hlt : k < n
    · have hlt' : k < xs.length := by rw [← Hn.out];exact hlt
      obtain ⟨b,off,rfl,hbl,hc⟩ := hx.get hlt'
      have hc' : wr.cell? ⟨b,off + k,none⟩ = some (.string xs[k]) := by rw [hb.cell (p := ⟨b,off + k,none⟩) hbl];exact hc
      clear hc
      have hsz : xs[k].size ≤ 100000 := HX.out _ (List.getElem_mem hlt')
      have hcs : Hid (cat (xs.take (k + 1)) = cat (xs.take k) ++ xs[k].data.toList) := by
        show _ = _
        rw [List.take_succ_eq_append_getElem hlt',cat_snoc]
      obtain ⟨s,Hs⟩ : ∃ s,Hid (s = xs[k]) := ⟨xs[k],rfl⟩
      rw [← Hs.out] at hc' hsz hcs
      go_wp2_with (go_at_call 82;refine (go_any w.heap.size x s _ ht.out hx1 hsz).mono ?_;rintro e w2 ⟨rfl,hb2⟩)
      go_roundw
      case rel => exact ⟨k + 1,_,by omega,by go_num,rfl,go_lt _ _ hx1,by show _ = _;rw [hcs.out,go_append,Hx.out],hb.trans (hb2.mono hb.size),ht.out.keep hb2⟩
      case measure => simp [intOf];omega
    · go_wp2
      go_returns
      exact ⟨ret_int (by rw [not_32 x hx1,HS.out,sum_go,Hx.out,List.take_of_length_le (by rw [← Hn.out];omega)]),hb⟩
end Go.Proofs.YtdgkanamceeheaaGreat.Cr
namespace Go.Proofs.YtdgkanamceeheaaGreat.Cr
open Go.RowKit Go.Proofs.PitotCrc
def sealB (s : ByteArray) : ByteArray := s ++ ⟨(le4 (sum s.data.toList)).toArray⟩
theorem sealB_list (s : ByteArray) : (sealB s).data.toList = sealed s.data.toList := by simp [sealB,sealed]
theorem strs_one {w : World} (s : ByteArray) (t : TypeId) : StrsAt (w.alloc (.cells #[.string s] t)) (some ⟨w.heap.size,0,none⟩) [s] := by
  intro _
  refine ⟨w.heap.size,0,rfl,by simp,fun i hi => ?_⟩
  obtain rfl : i = 0 := by simp at hi;omega
  exact lies_cell (heap_alloc_new w _) 0
theorem sum_one (s : ByteArray) (t : TypeId) (w : World) (hs : s.size ≤ 100000) :
    Calls Tryz.prog 36 #[.slice (some ⟨w.heap.size,0,none⟩) 1 1] (w.alloc (.cells #[.string s] t)) fun e w' => e = .returned (.int .u32 (sum s.data.toList : Nat)) ∧ Below w.heap.size w w' := by
  have hb : Below w.heap.size w (w.alloc (.cells #[.string s] t)) := (Below.refl _ _).alloc (Nat.le_refl _) _
  refine (sum_any _ 1 [s] _ (strs_one s t) (by simp) (by simp;exact hs) 1 rfl (sum s.data.toList) (by simp [cat])).mono fun e w' ⟨he,hw⟩ => ⟨he,hb.trans (hw.mono (by simp))⟩
theorem sum_drew (s : ByteArray) (t : TypeId) (w : World) (hs : s.size ≤ 100000) :
    Calls Tryz.prog 36 #[.slice (some ⟨w.heap.size,0,none⟩) 1 1] (w.alloc (.cells #[.string s] t)).drew fun e w' => e = .returned (.int .u32 (sum s.data.toList : Nat)) ∧ Below w.heap.size w w' := by
  have hb : Below w.heap.size w (w.alloc (.cells #[.string s] t)).drew := ((Below.refl _ _).alloc (Nat.le_refl _) _).drew
  have hst : StrsAt (w.alloc (.cells #[.string s] t)).drew (some ⟨w.heap.size,0,none⟩) [s] := strs_one (w := w) s t
  refine (sum_any _ 1 [s] _ hst (by simp) (by simp;exact hs) 1 rfl (sum s.data.toList) (by simp [cat])).mono fun e w' ⟨he,hw⟩ => ⟨he,hb.trans (hw.mono hb.size)⟩
set_option maxRecDepth 100000 in
set_option maxHeartbeats 400000 in
theorem seal_any (s : ByteArray) (w : World) (hs : s.size ≤ 100000) :
    Calls Tryz.prog 27 #[.string s] w fun e w' => e = .returned (.string (sealB s)) ∧ Below w.heap.size w w' := by
  have hlt := sum_lt s.data.toList
  obtain ⟨S,HS⟩ : ∃ S,Hid (S = sum s.data.toList) := ⟨_,rfl⟩
  have HB : Hid (sealB s = s ++ ⟨(le4 S).toArray⟩) := by show _ = _;rw [HS.out];rfl
  obtain ⟨B,HB2⟩ : ∃ B,Hid (B = sealB s) := ⟨_,rfl⟩
  rw [← HB2.out] at HB ⊢
  have h4 : ({ data := (le4 S).toArray } : ByteArray).size = 4 := rfl
  go_enter Tryz.func27,Tryz.ntmps27
  go_wp2_with (first
    | (go_at_call 36;refine (sum_one s _ w hs).mono ?_;rintro e w1 ⟨rfl,hb1⟩;rw [← HS.out])
    | (go_at_call 35;refine (spread_any S _ (by rw [HS.out];exact hlt)).mono ?_;rintro e w2 ⟨rfl,hb2⟩))
  go_returns
  exact ⟨by rw [HB.out];rfl,hb1.trans (hb2.mono hb1.size)⟩
theorem conv_four (w : World) (n : Nat) :
    (convert 41 9 (.slice (some ⟨w.heap.size,0,none⟩) 4 4)).run Tryz.prog (w.alloc (.cells #[.int .u8 ((n : Int) % 256),.int .u8 ((n : Int) / 256 % 256),.int .u8 ((n : Int) / 65536 % 256),.int .u8 ((n : Int) / 16777216 % 256)] 5)) = .ok (.string ⟨(le4 n).toArray⟩) (w.alloc (.cells #[.int .u8 ((n : Int) % 256),.int .u8 ((n : Int) / 256 % 256),.int .u8 ((n : Int) / 65536 % 256),.int .u8 ((n : Int) / 16777216 % 256)] 5)) := by
  refine run_convert_bytes_back (P := Tryz.prog) _ 41 9 5 ⟨w.heap.size,0,none⟩ 4 (le4 n) Tryz.underlying41 Tryz.underlying5 Tryz.underlying9 (fun j hj => ?_)
  have e : (⟨w.heap.size,0,none⟩ : Addr).add j = ⟨w.heap.size,j,none⟩ := by unfold Addr.add;split <;> simp_all
  rw [e,World.cell?_alloc_mark w _ 5 (0,0) j]
  have hj' : j < 4 := hj
  have : j = 0 ∨ j = 1 ∨ j = 2 ∨ j = 3 := by omega
  rcases this with rfl | rfl | rfl | rfl <;> simp [le4]
set_option maxRecDepth 100000 in
set_option maxHeartbeats 400000 in
theorem refSeal_any (s : ByteArray) (w : World) (hs : s.size ≤ 100000) :
    Calls Tryz.prog 52 #[.string s] w fun e w' => e = .returned (.string (sealB s)) ∧ Below w.heap.size w w' := by
  have hlt := sum_lt s.data.toList
  obtain ⟨S,HS⟩ : ∃ S,Hid (S = sum s.data.toList) := ⟨_,rfl⟩
  have HB : Hid (sealB s = s ++ ⟨(le4 S).toArray⟩) := by show _ = _;rw [HS.out];rfl
  obtain ⟨B,HB2⟩ : ∃ B,Hid (B = sealB s) := ⟨_,rfl⟩
  rw [← HB2.out] at HB ⊢
  have hcv := fun w => conv_four w S
  have h4 : ({ data := (le4 S).toArray } : ByteArray).size = 4 := rfl
  go_enter Tryz.func52,Tryz.ntmps52
  go_wp2_with (go_at_call 91;refine (refSum_any s w hs).mono ?_;rintro e w1 ⟨rfl,rfl⟩;rw [← HS.out])
  go_returns
  exact ⟨by rw [HB.out];rfl,(Below.refl _ _).alloc (Nat.le_refl _) _⟩
set_option maxHeartbeats 400000 in
theorem open_short (s : ByteArray) (w : World) (hs : s.size < 4) :
    Calls Tryz.prog 14 #[.string s] w fun e w' => e = .returned (.tuple #[.string ⟨#[]⟩,.int .i64 10]) ∧ w = w' := by
  go_enter Tryz.func14,Tryz.ntmps14
  go_wp2
  go_returns
  exact ⟨rfl,rfl⟩
set_option maxHeartbeats 400000 in
theorem refOpen_short (s : ByteArray) (w : World) (hs : s.size < 4) :
    Calls Tryz.prog 19 #[.string s] w fun e w' => e = .returned (.tuple #[.string ⟨#[]⟩,.int .i64 10]) ∧ w = w' := by
  go_enter Tryz.func19,Tryz.ntmps19
  go_wp2
  go_returns
  exact ⟨rfl,rfl⟩
theorem extract_list (s : ByteArray) (a b : Nat) : (s.extract a b).data.toList = (s.data.toList.take b).drop a := by
  rw [ByteArray.data_extract,Array.toList_extract,List.extract_eq_take_drop,List.drop_take]
theorem open_test (s : ByteArray) (n : Nat) (hn : s.size = n + 4) : ((s.extract n s.size).toList == le4 (sum (s.extract 0 n).data.toList)) = opened s.data.toList := by
  have hl : s.data.toList.length = n + 4 := by simpa using hn
  rw [opened_iff _ (by omega),hl,show n + 4 - 4 = n by omega]
  rw [extract_list,List.drop_zero,Bool.eq_iff_iff]
  simp only [beq_iff_eq,decide_eq_true_eq]
  have he : (s.extract n s.size).toList = s.data.toList.drop n := by
    rw [ByteArray.toList_eq,extract_list,List.take_of_length_le (by simp)]
  rw [he]
theorem extract_size (s : ByteArray) (n : Nat) (hn : s.size = n + 4) : (s.extract 0 n).size = n := by
  rw [ByteArray.size_extract];omega
set_option maxRecDepth 100000 in
set_option maxHeartbeats 1000000 in
theorem open_long (s : ByteArray) (w : World) (n : Nat) (hn : s.size = n + 4) (hs : s.size ≤ 100000) :
    Calls Tryz.prog 14 #[.string s] w fun e w' => Hid (e = .returned (if opened s.data.toList = true then .tuple #[.string (s.extract 0 n),.int .i64 0] else .tuple #[.string ⟨#[]⟩,.int .i64 12])) ∧ Below w.heap.size w w' := by
  have Hn := Lib.hid hn
  have e1 : (s.size : Int) - 4 = (n : Int) := by omega
  have hn4 : (n : Int) ≤ (s.size : Int) := by omega
  have hlt := sum_lt (s.extract 0 n).data.toList
  have ht := open_test s n hn
  have hz := extract_size s n hn
  obtain ⟨S,HS⟩ : ∃ S,Hid (S = sum (s.extract 0 n).data.toList) := ⟨_,rfl⟩
  rw [← HS.out] at ht hlt
  obtain ⟨t,Ht⟩ : ∃ t,Hid (t = s.extract 0 n) := ⟨_,rfl⟩
  rw [← Ht.out] at HS hz ⊢
  have hz2 : t.size ≤ 100000 := by omega
  have hex : s.extract 0 n = t := Ht.out.symm
  have HZ := Lib.hid hz;clear hz
  obtain ⟨ok,Hok⟩ : ∃ ok,Hid (ok = opened s.data.toList) := ⟨_,rfl⟩
  rw [← Hok.out] at ht ⊢
  have hnn : ¬ (n : Int) < 0 := by omega
  clear hn
  cases ok
  all_goals
    go_enter Tryz.func14,Tryz.ntmps14
    go_wp2
    go_region_with (first
      | (go_at_call 36;(with_reducible refine (sum_drew t _ _ hz2).mono ?_);rintro e w1 ⟨rfl,hb1⟩;rw [← HS.out])
      | (go_at_call 35;(with_reducible refine (spread_any S _ hlt).mono ?_);rintro e w2 ⟨rfl,hb2⟩))
    all_goals
      go_wp2
      go_returns
      exact ⟨rfl,hb1.trans (hb2.mono hb1.size)⟩
theorem refOpen_test (s : ByteArray) (n : Nat) (hn : s.size = n + 4) : ((sealB (s.extract 0 n)).toList == s.toList) = opened s.data.toList := by
  have hl : s.data.toList.length = n + 4 := by simpa using hn
  rw [ByteArray.toList_eq,ByteArray.toList_eq,sealB_list,extract_list,List.drop_zero,Bool.eq_iff_iff]
  unfold opened
  rw [hl,show n + 4 - 4 = n by omega]
  simp only [beq_iff_eq,decide_eq_true_eq]
set_option maxRecDepth 100000 in
set_option maxHeartbeats 1000000 in
theorem refOpen_long (s : ByteArray) (w : World) (n : Nat) (hn : s.size = n + 4) (hs : s.size ≤ 100000) :
    Calls Tryz.prog 19 #[.string s] w fun e w' => Hid (e = .returned (if opened s.data.toList = true then .tuple #[.string (s.extract 0 n),.int .i64 0] else .tuple #[.string ⟨#[]⟩,.int .i64 12])) ∧ Below w.heap.size w w' := by
  have Hn := Lib.hid hn
  have e1 : (s.size : Int) - 4 = (n : Int) := by omega
  have hn4 : (n : Int) ≤ (s.size : Int) := by omega
  have ht := refOpen_test s n hn
  have hz := extract_size s n hn
  obtain ⟨t,Ht⟩ : ∃ t,Hid (t = s.extract 0 n) := ⟨_,rfl⟩
  rw [← Ht.out] at hz ht ⊢
  have hz2 : t.size ≤ 100000 := by omega
  have hex : s.extract 0 n = t := Ht.out.symm
  have HZ := Lib.hid hz;clear hz
  obtain ⟨ok,Hok⟩ : ∃ ok,Hid (ok = opened s.data.toList) := ⟨_,rfl⟩
  rw [← Hok.out] at ht ⊢
  have hnn : 4 ≤ s.size := by omega
  clear hn
  cases ok
  all_goals
    go_enter Tryz.func19,Tryz.ntmps19
    go_wp2_with (go_at_call 52;refine (refSeal_any t _ hz2).mono ?_;rintro e w1 ⟨rfl,hb1⟩)
    go_returns
    exact ⟨rfl,hb1⟩
end Go.Proofs.YtdgkanamceeheaaGreat.Cr
