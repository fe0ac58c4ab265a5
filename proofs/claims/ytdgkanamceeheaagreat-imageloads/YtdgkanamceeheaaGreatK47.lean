/- The contracts of the library functions that the program calls, laid over this program by the kit's own command in plain words. Contract of the program's Writer: Bytes. The program's Encode. The least network; networks of a few parts. Texts as bytes and back; what Load answers to images. -/
import Derived.Test.YtdgkanamceeheaaGreatK3
import Derived.Test.YtdgkanamceeheaaGreatK46
import Derived.Test.YtdgkanamceeheaaGreatK29
import Derived.Test.YtdgkanamceeheaaGreatK42
import Derived.Test.YtdgkanamceeheaaGreatK14
import Derived.Test.YtdgkanamceeheaaGreatK43
import Derived.Shelf.Strings.Builder1
import Derived.Shelf.Strings.Builder2
import Derived.Shelf.Strings.OnBuilder
import Derived.Shelf.Slices.Turned
import Derived.Ground.Names2Prog
import Derived.Shelf.Slices.ReverseS
import Derived.Shelf.Slices.Clone
import Derived.Shelf.Slices.Cells
import Derived.Test.YtdgkanamceeheaaGreatProg
import Derived.Deep.AppendLies
import Derived.Deep.DeepFit
import Derived.Laws.IdiomStrings
set_option linter.unusedVariables false
namespace Go.Proofs
open Go.Shelf
def Tryz.lays156_ren : Go.Shelf.Ren := ⟨fun | 156 => 74 | 165 => 98 | 166 => 99 | 169 => 100 | 240 => 118 | 241 => 119 | 276 => 128 | 277 => 129 | n => n,fun | 31 => 112 | 9 => 9 | 3 => 3 | 4 => 4 | 0 => 0 | 20 => 20 | 72 => 145 | 76 => 148 | 70 => 143 | 37 => 41 | 75 => 147 | 127 => 165 | 164 => 172 | 5 => 5 | 80 => 150 | n => n,fun | n => n⟩
theorem Tryz.lays156 : Go.Proofs.Lays.n156 Tryz.prog Tryz.lays156_ren := {
  mixed := by kernel_rfl
  f156 := Tryz.func74.trans (congrArg some (by kernel_rfl))
  f165 := Tryz.func98.trans (congrArg some (by kernel_rfl))
  f166 := Tryz.func99.trans (congrArg some (by kernel_rfl))
  f169 := Tryz.func100.trans (congrArg some (by kernel_rfl))
  f240 := Tryz.func118.trans (congrArg some (by kernel_rfl))
  f241 := Tryz.func119.trans (congrArg some (by kernel_rfl))
  f276 := Tryz.func128.trans (congrArg some (by kernel_rfl))
  f277 := Tryz.func129.trans (congrArg some (by kernel_rfl))
  t0 := Tryz.underlying0
  a0 := Tryz.isAgg0
  z0 := Tryz.sizeOf0
  v0 := Tryz.zeroValue0
  t3 := Tryz.underlying3
  a3 := Tryz.isAgg3
  z3 := Tryz.sizeOf3
  v3 := Tryz.zeroValue3
  t4 := Tryz.underlying4
  a4 := Tryz.isAgg4
  z4 := Tryz.sizeOf4
  v4 := Tryz.zeroValue4
  t9 := Tryz.underlying9
  a9 := Tryz.isAgg9
  z9 := Tryz.sizeOf9
  v9 := Tryz.zeroValue9
  t20 := Tryz.underlying20
  a20 := Tryz.isAgg20
  z20 := Tryz.sizeOf20
  v20 := Tryz.zeroValue20
  t31 := Tryz.underlying112
  a31 := Tryz.isAgg112
  z31 := Tryz.sizeOf112
  v31 := Tryz.zeroValue112
  t37 := Tryz.underlying41
  a37 := Tryz.isAgg41
  z37 := Tryz.sizeOf41
  v37 := Tryz.zeroValue41
  t70 := Tryz.underlying143
  a70 := Tryz.isAgg143
  z70 := Tryz.sizeOf143
  v70 := Tryz.zeroValue143
  t72 := Tryz.underlying145
  a72 := Tryz.isAgg145
  z72 := Tryz.sizeOf145
  v72 := Tryz.zeroValue145
  t75 := Tryz.underlying147
  a75 := Tryz.isAgg147
  z75 := Tryz.sizeOf147
  v75 := Tryz.zeroValue147
  t76 := Tryz.underlying148
  a76 := Tryz.isAgg148
  z76 := Tryz.sizeOf148
  v76 := Tryz.zeroValue148
  t127 := Tryz.underlying165
  a127 := Tryz.isAgg165
  z127 := Tryz.sizeOf165
  v127 := Tryz.zeroValue165
  t164 := Tryz.underlying172
  a164 := Tryz.isAgg172
  z164 := Tryz.sizeOf172
  v164 := Tryz.zeroValue172 }
theorem Tryz.Builder_Extra_156 : Builder.Extra Tryz.prog Tryz.lays156_ren := {
  sizeBuilder := by kernel_rfl
  liesBuilder := by kernel_rfl
  t5 := Tryz.underlying5
  a5 := Tryz.isAgg5
  z5 := Tryz.sizeOf5
  v5 := Tryz.zeroValue5
  infoByte := by kernel_rfl
  cellsByte := by kernel_rfl
  sizeByte := by kernel_rfl
  neB5 := by decide }
open Go.RowKit in
theorem Tryz.strings_Join (bk o c : Nat) (xs : List ByteArray) (sep : ByteArray) (w : World) (hcells : ∀ (j : Nat) x,xs[j]? = some x → w.cell? ⟨bk,o + j,none⟩ = some (.string x)) (hbk : bk < w.heap.size) (hN : xs.length ≤ 140737488355328) (hcap : xs.length ≤ c) (hlen : (Lib.join (xs.map (·.data.toList)) sep.data.toList).length ≤ 140737488355328) :
    Calls Tryz.prog 74 #[.slice (some ⟨bk,o,none⟩) xs.length c,.string sep] w fun e w' => e = .returned (.string ⟨(Lib.join (xs.map (·.data.toList)) sep.data.toList).toArray⟩) ∧ Below w.heap.size w w' := Any.strings_Join Tryz.lays156 Tryz.Builder_Extra_156 bk o c xs sep w hcells hbk hN hcap hlen
def Tryz.laysNm217_ren : Go.Shelf.Ren := ⟨fun | 17 => 73 | n => n,fun | 24 => 112 | 9 => 9 | 3 => 3 | 4 => 4 | 0 => 0 | n => n,fun | n => n⟩
theorem Tryz.laysNm217 : Go.Proofs.Lays2.n17 Tryz.prog Tryz.laysNm217_ren := {
  mixed := by kernel_rfl
  f17 := Tryz.func73.trans (congrArg some (by kernel_rfl))
  t0 := Tryz.underlying0
  a0 := Tryz.isAgg0
  z0 := Tryz.sizeOf0
  v0 := Tryz.zeroValue0
  t3 := Tryz.underlying3
  a3 := Tryz.isAgg3
  z3 := Tryz.sizeOf3
  v3 := Tryz.zeroValue3
  t4 := Tryz.underlying4
  a4 := Tryz.isAgg4
  z4 := Tryz.sizeOf4
  v4 := Tryz.zeroValue4
  t9 := Tryz.underlying9
  a9 := Tryz.isAgg9
  z9 := Tryz.sizeOf9
  v9 := Tryz.zeroValue9
  t24 := Tryz.underlying112
  a24 := Tryz.isAgg112
  z24 := Tryz.sizeOf112
  v24 := Tryz.zeroValue112 }
open Go.RowKit Go.Lib Go.Sort in
theorem Tryz.slices_Reverse_string_cells (b off n c : Nat) (Sx : Nat → ByteArray) (w : World) (hbig : n ≤ 9223372036854775807) (hc : ∀ i,i < n → w.cell? ⟨b,off + i,none⟩ = some (.string (Sx i))) (hf : ∀ j,j < n → w.frozen? ⟨b,off + j,none⟩ = false) :
    Calls Tryz.prog 73 #[.slice (some ⟨b,off,none⟩) n c] w fun e w' => e = .returned (.tuple #[]) ∧ ∃ q,w' = (w.drewN q).setCells b off ((Lib.strsOf Sx n).reverse.map encStr) := Any.slices_Reverse_string_cells Tryz.laysNm217 b off n c Sx w hbig hc hf
end Go.Proofs
namespace Go.Proofs.YtdgkanamceeheaaGreat.Bi
open Go.RowKit Go.Proofs.PitotMath
theorem size_setCells (b : Nat) : ∀ (vs : List Value) (o : Nat) (w : World),(w.setCells b o vs).heap.size = w.heap.size
  | [],_,_ => rfl
  | v :: r,o,w => by rw [World.setCells,size_setCells b r];simp
theorem below_cells {B b : Nat} {a : World} (hb : B ≤ b) : ∀ (vs : List Value) (o : Nat) {w : World},Below B a w → Below B a (w.setCells b o vs)
  | [],_,_,h => h
  | v :: r,o,_,h => by rw [World.setCells];exact below_cells hb r (o + 1) (h.setCell (p := ⟨b,o,none⟩) hb v)
theorem rev_any (g cap : Nat) (xs : List ByteArray) (w : World) (hl : xs.length ≤ 1000000) (hc : ∀ i (h : i < xs.length),w.cell? ⟨g,i,none⟩ = some (.string xs[i])) (hf : ∀ j,w.frozen? ⟨g,j,none⟩ = false) (hg : g < w.heap.size) :
    Calls Tryz.prog 73 #[.slice (some ⟨g,0,none⟩) xs.length cap] w fun e w' => e = .returned (.tuple #[]) ∧
      (∀ j x,xs.reverse[j]? = some x → w'.cell? ⟨g,0 + j,none⟩ = some (.string x)) ∧ (∀ B,B ≤ g → Below B w w') ∧ g < w'.heap.size := by
  refine (Tryz.slices_Reverse_string_cells g 0 xs.length cap (fun i => xs.getD i ByteArray.empty) w (by omega) (fun i hi => by simp [hc i hi,hi]) (fun j _ => by simpa using hf j)).mono fun e w' ⟨he,q,hw⟩ => ?_
  subst hw
  refine ⟨he,?_,?_,?_⟩
  · intro j x hx
    have hj : j < xs.length := by have := (List.getElem?_eq_some_iff.1 hx).1;simpa using this
    have := World.cell?_setCells_in g (List.map encStr (Lib.strsOf (fun i => xs.getD i ByteArray.empty) xs.length).reverse) 0 (w.drewN q) (fun i hi => by
      have hi' : i < xs.length := by simpa [Lib.strsOf] using hi
      have h1 : (w.drewN q).cell? ⟨g,0 + i,none⟩ = w.cell? ⟨g,0 + i,none⟩ := rfl
      rw [h1,Nat.zero_add,hc i hi'];rfl) j (by simpa [Lib.strsOf] using hj)
    rw [this]
    have hx' : xs.reverse[j]'(by simpa using hj) = x := (List.getElem?_eq_some_iff.1 hx).2
    rw [← hx']
    have hd : xs.length - 1 - j < xs.length := by omega
    simp [Lib.strsOf,encStr,List.getElem_reverse,hd]
  · intro B hB
    exact below_cells hB _ _ (below_drewN (Below.refl _ _) q)
  · rw [size_setCells];exact hg
theorem Tryz.info9 : (Tryz.prog.info? 9).map (fun i => (i.zero,i.size,i.bytes)) = some (some (.string ⟨#[]⟩),1,16) := by kernel_rfl
theorem join_nil (xs : List (List UInt8)) : Lib.join xs [] = xs.flatten := by
  unfold Lib.join
  induction xs with
  | nil => rfl
  | cons x t ih =>
    cases t with
    | nil => simp [List.intercalate]
    | cons y r => simp [List.intercalate] at ih ⊢;rw [ih]
theorem flat_join (last : ByteArray) (ts : List ByteArray) : Lib.join (((last :: ts).reverse).map (fun x => x.data.toList)) [] = flat ts ++ last.data.toList := by
  rw [join_nil]
  have h : ∀ ts : List ByteArray,((ts.reverse).map (fun x => x.data.toList)).flatten = flat ts := by
    intro ts
    induction ts with
    | nil => rfl
    | cons t r ih => simp only [List.reverse_cons,List.map_append,List.flatten_append,ih];simp [flat]
  simp only [List.reverse_cons,List.map_append,List.flatten_append,h]
  simp
theorem add_plain (g j : Nat) : (⟨g,0,none⟩ : Addr).add j = ⟨g,j,none⟩ := by unfold Addr.add;split <;> simp_all
theorem own_cells {w : World} {base g n cap : Nat} {xs : List ByteArray} (h : w.ownsRow base 9 1 (.slice (some ⟨g,0,none⟩) n cap) n (xs.map .string)) (i : Nat) (hi : i < xs.length) : w.cell? ⟨g,i,none⟩ = some (.string xs[i]) := by
  have := h.cells (g := g) rfl i (.string xs[i]) (by simp [hi])
  rwa [add_plain] at this
theorem rev_own {w : World} {base g n cap : Nat} {xs : List ByteArray} (h : w.ownsRow base 9 1 (.slice (some ⟨g,0,none⟩) n cap) n (xs.map .string)) (hn : n = xs.length) (hl : n ≤ 1000000) (hg : g < w.heap.size) :
    Calls Tryz.prog 73 #[.slice (some ⟨g,0,none⟩) n cap] w fun e w' => e = .returned (.tuple #[]) ∧
      Hid (∀ j x,xs.reverse[j]? = some x → w'.cell? ⟨g,0 + j,none⟩ = some (.string x)) ∧ Hid (∀ B,B ≤ g → Below B w w') ∧ g < w'.heap.size := by
  subst hn
  exact rev_any g cap xs w hl (own_cells h) (fun j => h.frozenAt j) hg
theorem join_plain {w : World} {g n cap : Nat} {xs : List ByteArray} {l : List UInt8} (hc : ∀ j x,xs[j]? = some x → w.cell? ⟨g,0 + j,none⟩ = some (.string x)) (hn : n = xs.length) (hl : n ≤ 1000000) (hcap : n ≤ cap) (hg : g < w.heap.size)
    (hj : Lib.join (xs.map (fun x => x.data.toList)) [] = l) (hll : l.length ≤ 1000000) :
    Calls Tryz.prog 74 #[.slice (some ⟨g,0,none⟩) n cap,.string ⟨#[]⟩] w fun e w' => e = .returned (.string ⟨l.toArray⟩) ∧ Below w.heap.size w w' := by
  subst hn
  have h := Tryz.strings_Join g 0 cap xs ⟨#[]⟩ w hc hg (by omega) hcap (by show (Lib.join _ []).length ≤ _;rw [hj];omega)
  have e : Lib.join (xs.map (fun x => x.data.toList)) (⟨#[]⟩ : ByteArray).data.toList = l := hj
  rw [e] at h
  exact h
theorem own_cap {w : World} {base e size g n cap : Nat} {xs : List Value} (h : w.ownsRow base e size (.slice (some ⟨g,0,none⟩) n cap) n xs) : n ≤ cap := by
  rcases h.2 with ⟨h',_⟩ | ⟨g',cap',cur,h',_,_,hc,_⟩
  · cases h'
  · cases h';exact hc
def sliceLen : Value → Nat
  | .slice _ n _ => n
  | _ => 0
set_option maxHeartbeats 1000000 in
theorem bytes_any (b n : Nat) (l : List UInt8) (w : World) (h : WrAt w b n (some l)) (hn : n ≤ 100000) (hl : l.length ≤ 1000000) :
    Calls Tryz.prog 26 #[.pointer (some ⟨b,0,none⟩)] w fun e w' => e = .returned (.tuple #[.string ⟨l.toArray⟩,.int .i64 0]) ∧ Below w.heap.size w w' := by
  obtain ⟨p,last,ts,hb,hch,htn,hfl⟩ := h
  have c0 : w.cell? ⟨b,0,none⟩ = some (.pointer p) := lies_cell hb 0
  have c1 : w.cell? ⟨b,1,none⟩ = some (.string last) := lies_cell hb 1
  have c2 : w.cell? ⟨b,2,none⟩ = some (.bool false) := lies_cell hb 2
  have hlt := lies_lt hb
  have H := Lib.hid hb;clear hb
  have HF := Lib.hid hfl;clear hfl
  obtain ⟨i0,hi0,hz0,hz1,hz2⟩ := info_parts Tryz.info9
  go_enter Tryz.func26,Tryz.ntmps26
  go_wp2
  go_loopw [4,5] (fun v4 v5 wr => ∃ (done rest : List ByteArray) (q : Option Addr) (A : Option Addr) (c : Nat),Hid (ts = done ++ rest) ∧ v5 = .pointer q ∧ Chain w b q rest ∧ v4 = .slice A (done.length + 1) c ∧ wr.ownsRow w.heap.size 9 1 v4 (done.length + 1) ((last :: done).map .string) ∧ Below w.heap.size w wr) (fun v4 _ _ => ts.length + 1 - sliceLen v4)
  case atStart =>
    refine ⟨[],ts,p,some ⟨w.heap.size,0,none⟩,1,rfl,rfl,hch,rfl,⟨rfl,.inr ⟨w.heap.size,1,#[.string last],rfl,Nat.le_refl _,heap_alloc_new w _,by simp,by simp [maxLen],rfl,rfl⟩⟩,(Below.refl _ _).alloc (Nat.le_refl _) _⟩
  case round =>
    obtain ⟨done,rest,q,A,c,hts,rfl,hq,rfl,hown,hbw⟩ := hrel
    have hlen : done.length + rest.length ≤ n := by have := hts.out;rw [this] at htn;simpa using htn
    have htl : ts.length = done.length + rest.length := by rw [hts.out];simp
    have HTL := Lib.hid htl;clear htl
    obtain ⟨g,cap,hv,hgb,hgl⟩ := hown.form (by omega)
    injection hv with hA _ hc
    subst hA
    subst hc
    cases rest with
    | nil =>
      have hq0 : q = none := hq
      subst hq0
      have htd : ts = done := by have := hts.out;simpa using this
      have hj : Hid (Lib.join (((last :: done).reverse).map (fun x => x.data.toList)) [] = l) := by show _ = _;rw [HF.out,htd];exact flat_join last done
      have hcp := own_cap hown
      simp only [List.length_nil,Nat.add_zero] at hlen
      clear htd HTL hts H HF htn hq
      go_wp2_with (first
        | (go_at_call 73;refine (rev_own hown (by simp) (by omega) hgl).mono ?_;rintro e w1 ⟨rfl,hc1,hb1,hg1⟩)
        | (go_at_call 74;refine (join_plain (w := w1) hc1.out (by simp) (by omega) hcp hg1 hj.out hl).mono ?_;rintro e w2 ⟨rfl,hb2⟩))
      go_returns
      exact ⟨rfl,(hbw.trans (hb1.out _ hgb)).trans (hb2.mono (by have := hbw.size;have := (hb1.out 0 (by omega)).size;omega))⟩
    | cons t rest =>
      obtain ⟨c,q',rfl,hcb,hcc,hq'⟩ := hq
      have hcl := lies_lt hcc
      have k0 : wr.cell? ⟨c,0,none⟩ = some (.string t) := by rw [hbw.cell hcl];exact lies_cell hcc 0
      have k1 : ∀ w1,Below w.heap.size w w1 → w1.cell? ⟨c,1,none⟩ = some (.pointer q') := fun w1 hw1 => by rw [hw1.cell hcl];exact lies_cell hcc 1
      have K1 := Lib.hid k1;clear k1
      have HCC := Lib.hid hcc;clear hcc
      simp only [List.length_cons] at hlen
      go_wp2_with (at_builtin
                   go_must (refine wpList_append_own _ rfl (.tmp 27) (.tmp 32) _ rfl w.heap.size 9 i0 _ 1 16 Tryz.underlying112 hi0 hz0 hz1 hz2 rfl (by omega) _ (done.length + 1) _ rfl (hown.alloc _) ⟨wr.heap.size,0,none⟩ 1 1 [.string t] rfl rfl (cell_one_new _ _ _) (by intro u hu;simp at hu;subst hu;rfl) (by simp only [maxLen];omega) (by omega) (by have := hbw.size;simp;omega) ?_)
                   intro v' w1 hown1 hg1 _
                   go_must (have hb1 : Below w.heap.size w w1 := (hbw.alloc hbw.size _).grown hg1 (by have := hbw.size;simp;omega) (by intro k hk;cases hk;exact hgb))
                   have k1 := K1.out w1 hb1)
      obtain ⟨g1,cap1,hv1,hgb1,hgl1⟩ := hown1.form (by omega)
      subst hv1
      go_roundw
      case rel =>
        refine ⟨done ++ [t],rest,q',some ⟨g1,0,none⟩,cap1,by show _ = _;rw [hts.out];simp,rfl,hq',by simp,?_,hb1⟩
        simpa using hown1
      case measure => simp only [sliceLen];rw [HTL.out];simp;omega
end Go.Proofs.YtdgkanamceeheaaGreat.Bi
set_option maxRecDepth 100000
set_option linter.unusedVariables false
namespace Go.Proofs.YtdgkanamceeheaaGreat.Im
open Go.RowKit
def encRes (c : Cx) : Value := match PitotImg.encode c.pl with
  | .error k => .tuple #[.string ⟨#[]⟩,.int .i64 k]
  | .ok l => .tuple #[.string ⟨l.toArray⟩,.int .i64 0]
structure Im (c : Cx) : Prop where
  sm : Sm c
  size : (PitotConf.check c.pl).2.2 = 0 → (PitotImg.magic ++ PitotImg.cfW c.pl).length ≤ 90000
theorem any_pl (l : List Px) : (l.map Px.pl).any (fun p => decide (4294967295 < p.id)) = l.any (fun x => decide (4294967295 < x.id)) := by rw [List.any_map];rfl
theorem encRes_check {c : Cx} (h : (PitotConf.check c.pl).2.2 ≠ 0) : encRes c = .tuple #[.string ⟨#[]⟩,.int .i64 (PitotConf.check c.pl).2.2] := by
  unfold encRes PitotImg.encode;rw [if_pos h]
theorem encRes_long {c : Cx} (h : (PitotConf.check c.pl).2.2 = 0) (h2 : c.ports.any (fun x => decide (4294967295 < x.id)) = true) : encRes c = .tuple #[.string ⟨#[]⟩,.int .i64 11] := by
  unfold encRes PitotImg.encode;rw [if_neg (by omega),show c.pl.ports = c.ports.map Px.pl from rfl,any_pl,if_pos h2]
theorem encRes_ok {c : Cx} (h : (PitotConf.check c.pl).2.2 = 0) (h2 : c.ports.any (fun x => decide (4294967295 < x.id)) = false) : encRes c = .tuple #[.string ⟨(PitotCrc.sealed (PitotImg.magic ++ PitotImg.cfW c.pl)).toArray⟩,.int .i64 0] := by
  unfold encRes PitotImg.encode;rw [if_neg (by omega),show c.pl.ports = c.ports.map Px.pl from rfl,any_pl,if_neg (by rw [h2];decide)]
theorem im_ok {c : Cx} (hi : Im c) (h : (PitotConf.check c.pl).2.2 = 0) (h2 : c.ports.any (fun x => decide (4294967295 < x.id)) = false) : PitotImg.cfOk c.pl := by
  refine PitotImg.may_ok (PitotConf.check_may h) (fun v hv => ?_) (fun p hp => ?_)
  · obtain ⟨x,hx,rfl⟩ := List.mem_map.1 hv
    have := hi.sm.tol x hx
    show x.to.length < 65536
    omega
  · obtain ⟨x,hx,rfl⟩ := List.mem_map.1 hp
    have := List.any_eq_false.1 h2 x hx
    have : ¬ 4294967295 < x.id := by simpa using this
    show x.id ≤ 4294967295
    omega
theorem seal_text (l : List UInt8) : Cr.sealB ⟨l.toArray⟩ = ⟨(PitotCrc.sealed l).toArray⟩ := by
  apply ByteArray.ext
  apply Array.toList_inj.1
  have := Cr.sealB_list ⟨l.toArray⟩
  simpa using this
theorem wl_new {w : World} {b : Nat} (h : w.heap[b]? = some (.cells #[.pointer none,.string ⟨#[]⟩,.bool false] 71)) : WL w b [] := ⟨none,⟨#[]⟩,[],h,rfl,Nat.le_refl _,rfl⟩
set_option maxHeartbeats 8000000 in
theorem Encode_any (c : Cx) (hi : Im c) (w : World) (hc : c.Held w) : Calls Tryz.prog 12 #[c.val] w fun e w' => e = .returned (encRes c) ∧ Below w.heap.size w w' := by
  have HCK := Lib.hid (fun (w' : World) (hb : Below w.heap.size w w') => Check_any c hi.sm w' (hc.below hb))
  have HAP := Lib.hid (fun (w' : World) (hb : Below w.heap.size w w') => long_any c.portsA c.ports.length c.portsc c.ports w' (PxsAt.below hc.2.2.2 hb) rfl (by have := hi.sm.ports;omega))
  have HWR := Lib.hid (fun (hf : PitotImg.cfOk c.pl) (h0 : (PitotConf.check c.pl).2.2 = 0) (b : Nat) (w' : World) (hb : Below w.heap.size w w') (hbb : w.heap.size ≤ b) (hW : WL w' b []) => write_any c b w w' hc hb hbb hW hf (by have := hi.size h0;omega))
  have HBY := Lib.hid (fun (h0 : (PitotConf.check c.pl).2.2 = 0) (b : Nat) (w : World) (hW : WL w b (PitotImg.magic ++ PitotImg.cfW c.pl)) => Bi.bytes_any b _ _ w hW (by have := hi.size h0;omega) (by have := hi.size h0;omega))
  have HSE : Hid ((PitotConf.check c.pl).2.2 = 0 → ∀ w,Calls Tryz.prog 27 #[.string ⟨(PitotImg.magic ++ PitotImg.cfW c.pl).toArray⟩] w fun e w' => e = .returned (.string ⟨(PitotCrc.sealed (PitotImg.magic ++ PitotImg.cfW c.pl)).toArray⟩) ∧ Below w.heap.size w w') := fun h0 w => by
    have h := Cr.seal_any ⟨(PitotImg.magic ++ PitotImg.cfW c.pl).toArray⟩ w (by have := hi.size h0;show (PitotImg.magic ++ PitotImg.cfW c.pl).toArray.size ≤ _;rw [List.size_toArray];omega)
    rw [seal_text] at h
    exact h
  have H1 := Lib.hid (encRes_check (c := c))
  have H2 := Lib.hid (encRes_long (c := c))
  have H3 := Lib.hid (encRes_ok (c := c))
  have H4 := Lib.hid (im_ok hi)
  clear hi hc
  generalize encRes c = R at H1 H2 H3 ⊢
  generalize PitotCrc.sealed (PitotImg.magic ++ PitotImg.cfW c.pl) = SL at HSE H3
  generalize PitotImg.magic ++ PitotImg.cfW c.pl = L at HWR HBY HSE
  generalize PitotConf.check c.pl = CK at HCK HWR HBY HSE H1 H2 H3 H4
  obtain ⟨r1,r2,r3⟩ := CK
  generalize PitotImg.cfOk c.pl = OKP at HWR H4
  obtain ⟨hosts,pA,pc,parts,major,wA,wk,wins,vA,vc,vls,qA,qc,ports⟩ := c
  simp only [Cx.val] at HCK HAP HWR HBY HSE H1 H2 H3 H4 ⊢
  generalize ports.any (fun x => decide (4294967295 < x.id)) = an at HAP H2 H3 H4
  generalize wins.length = wl,parts.length = pl,vls.length = vl,ports.length = ql at HCK HAP HWR ⊢
  have CB0 : Hid ((w.alloc (.cells #[.int .i64 hosts,.slice pA pl pc,.int .i64 major,.slice wA wl wk,.slice vA vl vc,.slice qA ql qc] 28)).heap[w.heap.size]? = some (.cells #[.int .i64 hosts,.slice pA pl pc,.int .i64 major,.slice wA wl wk,.slice vA vl vc,.slice qA ql qc] 28)) := heap_alloc_new w _
  have BB0 : Hid (Below w.heap.size w (w.alloc (.cells #[.int .i64 hosts,.slice pA pl pc,.int .i64 major,.slice wA wl wk,.slice vA vl vc,.slice qA ql qc] 28))) := (Below.refl _ w).alloc (Nat.le_refl _) _
  go_enter Tryz.func12,Tryz.ntmps12
  go_upto_region 1 with (fail)
  have CB := CB0
  have BB := BB0
  clear CB0 BB0
  generalize w.alloc (.cells #[.int .i64 hosts,.slice pA pl pc,.int .i64 major,.slice wA wl wk,.slice vA vl vc,.slice qA ql qc] 28) = Wi at CB BB ⊢
  obtain ⟨cb,hcb⟩ : ∃ cb,w.heap.size = cb := ⟨_,rfl⟩
  have HCB : Hid (w.heap.size ≤ cb) := by show _ ≤ _;omega
  rw [hcb] at CB ⊢
  clear hcb
  obtain ⟨c0,c1,c2,c3,c4,c5⟩ := cells_6 CB.out
  go_upto_region 2 with (first
        | (go_at_call 13;(with_reducible refine (HCK.out _ BB.out).mono ?_);rintro e w2 ⟨rfl,hb2⟩
           (have CBX := Lib.hid (lies_below CB.out hb2 (lies_lt CB.out)))
           (have BX := Lib.hid (BB.out.trans (hb2.mono BB.out.size)))
           (clear hb2 BB CB c0 c1 c2 c3 c4 c5)
           (have CB := CBX)
           (have BB := BX)
           (clear BX CBX)
           (obtain ⟨c0,c1,c2,c3,c4,c5⟩ := cells_6 CB.out)))
  have CBX := Lib.hid (lies_alloc (o := .cells #[.int .i64 r1,.int .i64 r2] 38) CB.out)
  have BX : Hid (Below w.heap.size w (w2.alloc (.cells #[.int .i64 r1,.int .i64 r2] 38))) := BB.out.alloc BB.out.size _
  clear BB CB c0 c1 c2 c3 c4 c5
  have CB := CBX
  have BB := BX
  clear CBX BX
  generalize w2.alloc (.cells #[.int .i64 r1,.int .i64 r2] 38) = W3 at CB BB ⊢
  obtain ⟨c0,c1,c2,c3,c4,c5⟩ := cells_6 CB.out
  by_cases h0 : r3 = 0
  · subst h0
    cases an
    · have HR := H3.out rfl rfl
      have HOK := H4.out rfl rfl
      have HWS := Lib.hid (HWR.out HOK rfl)
      have HBS := Lib.hid (HBY.out rfl)
      have HSS := Lib.hid (HSE.out rfl)
      have HR := Lib.hid HR
      go_upto_region 6 with (first
        | (go_at_call 23;(with_reducible refine (HAP.out _ BB.out).mono ?_);rintro e w3 ⟨rfl,hb2⟩
           (have CBX := Lib.hid (lies_below CB.out hb2 (lies_lt CB.out)))
           (have BX := Lib.hid (BB.out.trans (hb2.mono BB.out.size)))
           (clear hb2 BB CB c0 c1 c2 c3 c4 c5)
           (have CB := CBX)
           (have BB := BX)
           (clear BX CBX)
           (obtain ⟨c0,c1,c2,c3,c4,c5⟩ := cells_6 CB.out)))
      have HN : Hid (WL (w3.alloc (.cells #[.pointer none,.string ⟨#[]⟩,.bool false] 71)) w3.heap.size []) := wl_new (alloc_at rfl)
      have HBn : Hid (w.heap.size ≤ w3.heap.size) := BB.out.size
      have HCn : Hid (cb < w3.heap.size) := lies_lt CB.out
      have CBX := Lib.hid (lies_alloc (o := .cells #[.pointer none,.string ⟨#[]⟩,.bool false] 71) CB.out)
      have BX : Hid (Below w.heap.size w (w3.alloc (.cells #[.pointer none,.string ⟨#[]⟩,.bool false] 71))) := BB.out.alloc BB.out.size _
      clear BB CB c0 c1 c2 c3 c4 c5
      have CB := CBX
      have BB := BX
      clear CBX BX
      go_upto_region 7 with (fail)
      generalize w3.alloc (.cells #[.pointer none,.string ⟨#[]⟩,.bool false] 71) = W4 at CB BB HN ⊢
      generalize w3.heap.size = wb at HN HBn HCn ⊢
      obtain ⟨c0,c1,c2,c3,c4,c5⟩ := cells_6 CB.out
      go_wp2_with (first
        | (go_at_call 25;(with_reducible refine (HWS.out wb _ BB.out HBn.out HN.out).mono ?_);rintro e w5 ⟨rfl,hw5,hg5⟩
           (have HW5 := Lib.hid hw5)
           (have BX := Lib.hid (BB.out.trans (grown_below hg5 HBn.out BB.out.size)))
           (clear hw5 hg5 BB)
           (have BB := BX)
           (clear BX))
        | (go_at_call 26;(with_reducible refine (HBS.out wb _ HW5.out).mono ?_);rintro e w6 ⟨rfl,hb6⟩
           (have BX := Lib.hid (BB.out.trans (hb6.mono BB.out.size)))
           (clear hb6 BB)
           (have BB := BX)
           (clear BX))
        | (go_at_call 27;(with_reducible refine (HSS.out _).mono ?_);rintro e w7 ⟨rfl,hb7⟩
           (have BX := Lib.hid (BB.out.trans (hb7.mono BB.out.size)))
           (clear hb7 BB)
           (have BB := BX)
           (clear BX)))
      go_returns
      rw [HR.out]
      exact ⟨rfl,BB.out⟩
    · have HR := Lib.hid (H2.out rfl rfl)
      go_wp2_with (first
        | (go_at_call 23;(with_reducible refine (HAP.out _ BB.out).mono ?_);rintro e w3 ⟨rfl,hb2⟩
           (have CBX := Lib.hid (lies_below CB.out hb2 (lies_lt CB.out)))
           (have BX := Lib.hid (BB.out.trans (hb2.mono BB.out.size)))
           (clear hb2 BB CB c0 c1 c2 c3 c4 c5)
           (have CB := CBX)
           (have BB := BX)
           (clear BX CBX)
           (obtain ⟨c0,c1,c2,c3,c4,c5⟩ := cells_6 CB.out)))
      go_returns
      rw [HR.out]
      exact ⟨rfl,BB.out⟩
  · have HR := Lib.hid (H1.out h0)
    have e1 : (r3 == 0) = false := by simpa using h0
    have e2 : (r3 != 0) = true := by simpa using h0
    go_wp2
    go_returns
    rw [HR.out]
    exact ⟨rfl,BB.out⟩
end Go.Proofs.YtdgkanamceeheaaGreat.Im
set_option maxRecDepth 100000
set_option linter.unusedVariables false
namespace Go.Proofs.YtdgkanamceeheaaGreat.Im
open Go.RowKit
abbrev c1 : Cx := ⟨1,none,0,[],1,none,0,[],none,0,[],none,0,[]⟩
theorem sm_c1 : Sm c1 := ⟨⟨by decide,by simp,fun n h => by simp at h,by decide,by simp,fun n h => by simp at h,by simp,fun n h => by simp at h,by simp,fun n h => by simp at h⟩,by simp,by simp,by simp,by simp,fun v h => by simp at h⟩
theorem im_c1 : Im c1 := ⟨sm_c1,fun _ => by decide⟩
theorem held_c1 (w : World) : c1.Held w := ⟨fun h => absurd rfl h,fun h => absurd rfl h,fun h => absurd rfl h,fun h => absurd rfl h⟩
theorem enc_c1 : ∃ l : List UInt8,encRes c1 = .tuple #[.string ⟨l.toArray⟩,.int .i64 0] ∧ l.length = 24 := by
  refine ⟨_,encRes_ok (c := c1) (by decide) (by decide),?_⟩
  rw [PitotCrc.sealed_length]
  decide
set_option maxHeartbeats 2000000 in
theorem awake_any (w : World) : Calls Tryz.prog 7 #[] w fun e w' => e = .returned (.bool true) ∧ Below w.heap.size w w' := by
  obtain ⟨l,hl,hn⟩ := enc_c1
  have HC : Hid (∀ w,Calls Tryz.prog 12 #[.agg #[.int .i64 1,.slice none 0 0,.int .i64 1,.slice none 0 0,.slice none 0 0,.slice none 0 0]] w fun e w' => e = .returned (.tuple #[.string ⟨l.toArray⟩,.int .i64 0]) ∧ Below w.heap.size w w') := fun w => by
    have h := Encode_any c1 im_c1 w (held_c1 w)
    rw [hl] at h
    exact h
  clear hl
  obtain ⟨S,HS⟩ : ∃ S : ByteArray,Hid (S = ⟨l.toArray⟩) := ⟨_,Lib.hid rfl⟩
  rw [← HS.out] at HC
  have hz : S.size = 24 := by rw [HS.out];show l.toArray.size = 24;simpa using hn
  clear HS hn
  have hzi : ((S.size : Nat) : Int) = 24 := by omega
  go_enter Tryz.func7,Tryz.ntmps7
  go_wp2_with (go_at_call 12;(with_reducible refine (HC.out _).mono ?_);rintro e w2 ⟨rfl,hb2⟩)
  go_returns
  exact ⟨rfl,hb2⟩
end Go.Proofs.YtdgkanamceeheaaGreat.Im
set_option maxRecDepth 100000
set_option linter.unusedVariables false
namespace Go.Proofs.YtdgkanamceeheaaGreat.Im
open Go.RowKit
open PitotImg (St rd)
theorem enc_ok {c : PitotConf.Cf} {l : List UInt8} (h : PitotImg.encode c = .ok l) : (PitotConf.check c).2.2 = 0 ∧ l = PitotCrc.sealed (PitotImg.magic ++ PitotImg.cfW c) := by
  unfold PitotImg.encode at h
  by_cases h1 : (PitotConf.check c).2.2 ≠ 0
  · rw [if_pos h1] at h;cases h
  rw [if_neg h1] at h
  by_cases h2 : c.ports.any (fun p => decide (4294967295 < p.id)) = true
  · rw [if_pos h2] at h;cases h
  rw [if_neg h2] at h
  injection h with h
  exact ⟨by omega,h.symm⟩
theorem load_few (s : List UInt8) (hs : s.length ≤ 5000) (w : World) : Calls Tryz.prog 8 #[.string ⟨s.toArray⟩] w fun e w' => Ans (PitotImg.load s) e w' ∧ Below w.heap.size w w' :=
  Load_any s (by omega) (fun _ c h => by
    obtain ⟨_,b1,b2,b3,b4,b5⟩ := PitotImg.cf_read h (by rw [List.length_drop,List.length_take];omega)
    exact ⟨by omega,by omega,by omega,by omega,fun v hv => by have := b5 v hv;omega⟩) w
end Go.Proofs.YtdgkanamceeheaaGreat.Im
