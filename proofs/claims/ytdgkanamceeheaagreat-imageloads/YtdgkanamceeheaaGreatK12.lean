/- Contracts of the program's Reader: Bits; and of the law's ints. The program's reader of images. A number of two halves. It imports nothing of the program. The program's reader: a Fresh. -/
import Derived.Test.YtdgkanamceeheaaGreatK7
import Derived.Test.YtdgkanamceeheaaGreatK3
import Derived.Test.YtdgkanamceeheaaGreatK11
import Derived.Test.YtdgkanamceeheaaGreatK9
import Derived.Test.YtdgkanamceeheaaGreatK6
import Derived.Test.YtdgkanamceeheaaGreatK0
import Derived.IntWalk
import Derived.Laws.BitsAllLaws
import Derived.Deep.CutRange
import Derived.Deep.RegionHeld3
import Derived.Handy
set_option linter.unusedVariables false
namespace Go.Proofs.YtdgkanamceeheaaGreat.Bi
open Go.RowKit Go.Proofs.PitotMath
def unpack : List Int → Int → Nat → List Int
  | [],_,_ => []
  | x :: xs,bits,a => ((a / 2 ^ (bits - x).toNat % 2 ^ x.toNat : Nat) : Int) :: unpack xs (bits - x) a
theorem unpack_length : ∀ (xs : List Int) (b : Int) (a : Nat),(unpack xs b a).length = xs.length
  | [],_,_ => rfl
  | x :: xs,b,a => by simp [unpack,unpack_length xs]
theorem tog_le : ∀ (xs : List Int) (S tot : Int),togGo xs S = some tot → S ≤ tot
  | [],S,tot,h => by simp only [togGo,Option.some.injEq] at h;omega
  | x :: xs,S,tot,h => by
    simp only [togGo] at h
    split at h
    · cases h
    · have := tog_le xs (S + x) tot h;omega
def pi (l : List Int) (k : Nat) : List Value := (l.take k).map (fun c => Value.int .i64 c) ++ List.replicate (l.length - k) (.int .i64 0)
theorem pi_zero (l : List Int) : pi l 0 = List.replicate l.length (.int .i64 0) := by simp [pi]
theorem pi_full (l : List Int) : pi l l.length = l.map (fun c => Value.int .i64 c) := by simp [pi]
theorem pi_at (l : List Int) (k : Nat) (h : k < l.length) : (pi l k)[k]? = some (.int .i64 0) := by
  unfold pi
  have hm : min k l.length = k := Nat.min_eq_left (Nat.le_of_lt h)
  rw [List.getElem?_append_right (by simp;omega)]
  simp only [List.length_map,List.length_take,hm,Nat.sub_self]
  rw [List.getElem?_replicate,if_pos (by omega)]
theorem pi_step (l : List Int) (k : Nat) (h : k < l.length) (v : Value) (hv : v = .int .i64 l[k]) : (pi l k).set k v = pi l (k + 1) := by
  subst hv
  unfold pi
  rw [List.take_succ_eq_append_getElem h,List.map_append]
  obtain ⟨d,hd⟩ : ∃ d,l.length - k = d + 1 := ⟨l.length - k - 1,by omega⟩
  have hd' : l.length - (k + 1) = d := by omega
  rw [hd,hd',List.replicate_succ,List.set_append_right _ _ (by simp;omega)]
  simp [Nat.min_eq_left (Nat.le_of_lt h)]
theorem Tryz.info3 : (Tryz.prog.info? 3).map (fun i => (i.zero,i.size,i.bytes)) = some (some (.int .i64 0),1,8) := by kernel_rfl
theorem make_ints (l : List Int) (w : World) (m : Nat) (hm : m ≤ 1000000) (hl : l.length = m) :
    (Instr.makeSlice 23 (.int .i64 m) (.int .i64 m)).run Tryz.prog w = .ok (.slice (some ⟨w.heap.size,0,none⟩) m m) (w.alloc (.cells (pi l 0).toArray 3)) := by
  obtain ⟨i,hi,hz0,hz1,hz2⟩ := info_parts Tryz.info3
  rw [run_make (P := Tryz.prog) w 23 3 i _ Tryz.underlying23 hi hz0 .i64 .i64 m m (by omega) (by omega) (by rw [hz2];omega) (by omega)]
  have e : madeCells (Value.int .i64 0).cells (Int.toNat (m : Int) * i.size) = (pi l 0).toArray := by
    rw [← Array.toList_inj,hz1]
    show (madeCells #[Value.int .i64 0] _).toList = _
    rw [toList_madeCells_one,pi_zero,hl]
    simp
  rw [e]
  rfl
theorem mask_and (N s x : Nat) (hN : N < 4294967296) (h2 : x ≤ 32) :
    wrap64 (bits .and .u32 ((N : Int) / 2 ^ s) ((2 ^ x - 1) % 4294967296)) = ((N / 2 ^ s % 2 ^ x : Nat) : Int) := by
  have hp : (2 : Nat) ^ x ≤ 2 ^ 32 := Nat.pow_le_pow_right (by omega) h2
  have hp1 : 1 ≤ (2 : Nat) ^ x := Nat.two_pow_pos x
  have hm : ((2 : Int) ^ x - 1) % 4294967296 = ((2 ^ x - 1 : Nat) : Int) := by
    have e : ((2 : Int) ^ x) = ((2 ^ x : Nat) : Int) := by simp
    rw [e]
    generalize (2 : Nat) ^ x = p at hp hp1
    omega
  have hd : ((N : Int) / 2 ^ s) = ((N / 2 ^ s : Nat) : Int) := by simp
  have h5 : N / 2 ^ s ≤ N := Nat.div_le_self _ _
  have h6 : N / 2 ^ s % 2 ^ x ≤ N / 2 ^ s := Nat.mod_le _ _
  rw [hm,hd,u32_and_nat _ _ (by omega) (by omega),Nat.and_two_pow_sub_one_eq_mod,IntWalk.wrap64_in _ (by omega)]
theorem IntsAt.grown {w w' : World} {A : Option Addr} {xs : List Int} {r : Nat} (h : IntsAt w A xs) (hg : w.grownBy w' (some r)) (hne : ∀ b off,A = some ⟨b,off,none⟩ → b ≠ r) : IntsAt w' A xs := fun hx => by
  obtain ⟨b,off,h1,h2,h3⟩ := h hx
  exact ⟨b,off,h1,Nat.lt_of_lt_of_le h2 hg.size,fun i hi => (World.cell?_of_block (hg.block b h2 (by simpa using hne b off h1))).trans (h3 i hi)⟩
theorem unpack_cons {xs : List Int} {k : Nat} (hk : k < xs.length) (B : Int) (N : Nat) : unpack (xs.drop k) B N = ((N / 2 ^ (B - xs[k]).toNat % 2 ^ xs[k].toNat : Nat) : Int) :: unpack (xs.drop (k + 1)) (B - xs[k]) N := by
  rw [List.drop_eq_getElem_cons hk];rfl
set_option maxHeartbeats 1000000 in
theorem rbits_ok (r : Nat) (a b : List UInt8) (A : Option Addr) (ca : Nat) (xs : List Int) (w : World) (h : RdAt w r (a ++ b) 0) (hx : IntsAt w A xs) (hl : xs.length ≤ 1000000) (hok : (togRes xs).2 = true) (ha : (a.length : Int) = (togRes xs).1) (hab : (a ++ b).length ≤ 100000000) (hne : ∀ b off,A = some ⟨b,off,none⟩ → b ≠ r) :
    Calls Tryz.prog 111 #[.pointer (some ⟨r,0,none⟩),.slice A xs.length ca] w fun e w' => ∃ g,e = .returned (.slice (some ⟨g,0,none⟩) xs.length xs.length) ∧ IntsAt w' (some ⟨g,0,none⟩) (unpack xs (8 * a.length) (num a)) ∧ RdAt w' r b 0 ∧ w.grownBy w' (some r) := by
  obtain ⟨tot,m,ht0,hm0,hm3,hr0⟩ := tog_ok hok
  have ham : a.length = m := by rw [hr0] at ha;omega
  have hr := Lib.hid hr0
  have ht := Lib.hid ht0
  have hm := Lib.hid hm0
  have hm4 : m ≤ 4 := by omega
  have hN := num_4 a (by omega)
  have HAM := Lib.hid ham
  have hv : (unpack xs (8 * (a.length : Int)) (num a)).length = xs.length := unpack_length _ _ _
  rw [ham] at hv ⊢
  obtain ⟨vals,HV⟩ : ∃ vals,Hid (vals = unpack xs (8 * (m : Int)) (num a)) := ⟨_,rfl⟩
  rw [← HV.out] at hv ⊢
  obtain ⟨M,HM⟩ : ∃ M,Hid (M = num a) := ⟨_,rfl⟩
  rw [← HM.out] at hN
  have HN : Hid (M < 4294967296) := hN
  obtain ⟨q,Hq⟩ : ∃ q,Hid (q = xs.length) := ⟨_,rfl⟩
  rw [← Hq.out] at hl hv ⊢
  have HVL := Lib.hid hv
  have hmk := fun w => make_ints vals w q hl hv
  have HNE := Lib.hid hne
  clear ht0 hm0 hm3 hr0 hok ha ham hv hne
  go_enter Tryz.func111,Tryz.ntmps111
  go_wp2_with (first
    | (go_at_call 90;refine (err_any r (a ++ b) 0 _ h).mono ?_;rintro e w' ⟨rfl,rfl⟩)
    | (go_at_call 114;refine (together_eq _ _ xs _ hx (by rw [← Hq.out];exact hl) _ Hq.out m true hr.out).mono ?_;rintro e w' ⟨rfl,rfl⟩)
    | (go_at_call 85;refine (rtext_ok r a b m _ h HAM.out.symm hab).mono ?_;rintro e w1 ⟨rfl,h1,hg1⟩;have c1 : w1.cell? ⟨r,1,none⟩ = some (.int .i64 0) := lies_cell h1 1)
    | (go_at_call 84;refine (gather_list a w1 (by rw [HAM.out];exact hm4)).mono ?_;rintro e w' ⟨rfl,rfl⟩;rw [← HM.out]))
  have hx1 := hx.grown hg1 HNE.out
  have hrl := lies_lt (w := w1) h1
  clear hmk
  go_loopw [9,41] (fun v9 v41 wr => ∃ (k : Nat) (B : Int),k ≤ q ∧ v41 = .int .i64 k ∧ v9 = .int .i64 B ∧ 0 ≤ B ∧ B ≤ 32 ∧ wr.heap[w1.heap.size]? = some (.cells (pi vals k).toArray 3) ∧ Below w1.heap.size w1 wr ∧ Hid (togGo (xs.drop k) (8 * (m : Int) - B) = some (8 * (m : Int))) ∧ Hid (unpack (xs.drop k) B M = vals.drop k)) (fun _ v41 _ => q - (intOf v41).toNat)
  case atStart => exact ⟨0,8 * m,Nat.zero_le _,rfl,rfl,by omega,by omega,heap_alloc_new w1 _,(Below.refl _ _).alloc (Nat.le_refl _) _,by show togGo xs _ = _;rw [Int.sub_self,ht.out,hm.out],by show unpack xs _ _ = vals;rw [HV.out,HM.out]⟩
  case round =>
    obtain ⟨k,B,hk,rfl,rfl,hB0,hB1,hrow,hbw,htk,huk⟩ := hrel
    by_cases hlt : k < q
    · have hk1 : k < xs.length := by rw [← Hq.out];exact hlt
      have hkv : k < vals.length := by rw [HVL.out];exact hlt
      obtain ⟨bx,ox,rfl,hbx,hcx0⟩ := hx1.get hk1
      obtain ⟨y1,y2,htk'⟩ := togGo_at hk1 htk.out
      have hle := tog_le _ _ _ htk'
      have hu := unpack_cons hk1 B M
      rw [huk.out,List.drop_eq_getElem_cons hkv] at hu
      obtain ⟨x,Hx⟩ : ∃ x : Nat,Hid ((x : Int) = xs[k]) := by
        obtain ⟨x,hx⟩ := Int.eq_ofNat_of_zero_le (show 0 ≤ xs[k] by omega)
        exact ⟨x,hx.symm⟩
      rw [← Hx.out] at hcx0 y1 y2 htk' hle hu
      injection hu with hu1 hu2
      have hcx : wr.cell? ⟨bx,ox + k,none⟩ = some (.int .i64 (x : Int)) := (hbw.cell hbx).trans hcx0
      have hpk : wr.cell? ⟨w1.heap.size,k,none⟩ = some (.int .i64 0) := by rw [lies_cell hrow k];simpa using pi_at vals k hkv
      have hfk : wr.frozen? ⟨w1.heap.size,k,none⟩ = false := lies_frozen hrow k
      have hmask := mask_and M (B.toNat - x) x HN.out (by omega)
      have hsx : (B - (x : Int)).toNat = B.toNat - x := by omega
      rw [hsx,Int.toNat_natCast] at hu1
      have HU1 := Lib.hid hu1
      have HU2 := Lib.hid hu2
      have HTK := Lib.hid htk'
      have HROW := Lib.hid hrow
      have HMASK := Lib.hid hmask
      clear hu1 hu2 htk' hrow hmask hcx0 hsx
      have ikq : (k : Int) < (q : Int) := by omega
      go_wp2
      go_region
      go_wp2
      go_roundw
      case rel =>
        refine ⟨k + 1,B - x,by omega,by go_num,rfl,by omega,by omega,?_,(hbw.setCell (p := ⟨w1.heap.size,k,none⟩) (Nat.le_refl _) _).drew,by show _ = _;rw [show 8 * (m : Int) - (B - x) = 8 * m - B + x by omega];exact HTK.out,by show _ = _;exact HU2.out.symm⟩
        have := lies_set HROW.out k (.int .i64 (wrap64 (bits .and .u32 ((M : Int) / 2 ^ (B.toNat - x)) ((2 ^ x - 1) % 4294967296))))
        refine Eq.trans this ?_
        rw [List.setIfInBounds_toArray,pi_step vals k hkv _ (val_int (by rw [HMASK.out,HU1.out]))]
      case measure => simp [intOf];omega
    · have hkv : k = vals.length := by rw [HVL.out];omega
      have HKV := Lib.hid hkv;clear hkv
      have HROW := Lib.hid hrow;clear hrow
      go_wp2
      go_returns
      refine ⟨w1.heap.size,rfl,fun _ => ⟨w1.heap.size,0,rfl,lies_lt HROW.out,fun i hi => ?_⟩,(hbw.block r hrl).trans h1,grown_trans hg1 (grown_of_below hbw)⟩
      rw [Nat.zero_add,lies_cell HROW.out i,HKV.out,pi_full]
      simp [hi]
end Go.Proofs.YtdgkanamceeheaaGreat.Bi
set_option maxRecDepth 100000
set_option linter.unusedVariables false
namespace Go.Proofs.YtdgkanamceeheaaGreat.Im
open Go.RowKit
open PitotImg (St rd)
def PS (w : World) (p r : Nat) (x : Int) (σ : St) : Prop := w.heap[p]? = some (.cells #[.pointer (some ⟨r,0,none⟩),.int .i64 x] 50) ∧ RS 82 w r σ
theorem Fr.setN {base a b vb i : Nat} {u : Value} {w w' : World} (h : Fr base a b w w') (hv : base ≤ vb) : Fr base a b w (w'.setCell ⟨vb,i,none⟩ u) :=
  h.trans ⟨rfl,rfl,rfl,by simp [World.setCell],fun k hk _ _ _ => Below.heap_setCell w' _ u k (by intro e;have e : k = vb := e;omega)⟩
theorem Fr.mono {base base' a b : Nat} {w w' : World} (h : Fr base a b w w') (hb : base' ≤ base) : Fr base' a b w w' := ⟨h.os,h.tape,h.output,h.size,fun k h1 h2 h3 h4 => h.block k (by omega) h2 h3 h4⟩
theorem pU16_of {r : Nat} {σ σ' : St} {v : Int} (h : rd 2 σ = (v,σ')) (w : World) (hr : RS 82 w r σ) : Calls Tryz.prog 38 #[.pointer (some ⟨r,0,none⟩)] w fun e w' => e = .returned (.int .i64 v) ∧ RS 82 w' r σ' ∧ w.grownBy w' (some r) := by
  have h1 := pU16_any r σ w hr
  rw [h] at h1
  exact h1
theorem pU32_of {r : Nat} {σ σ' : St} {v : Int} (h : rd 4 σ = (v,σ')) (w : World) (hr : RS 82 w r σ) : Calls Tryz.prog 40 #[.pointer (some ⟨r,0,none⟩)] w fun e w' => e = .returned (.int .i64 v) ∧ RS 82 w' r σ' ∧ w.grownBy w' (some r) := by
  have h1 := pU32_any r σ w hr
  rw [h] at h1
  exact h1
def pe (x : Int) (σ : St) : Int := if x = 0 then ec σ else x
theorem perr0 (r : Nat) (σ : St) (w : World) (h : RS 82 w r σ) : Calls Tryz.prog 90 #[.pointer (some ⟨r,0,none⟩)] w fun e w' => e = .returned (.int .i64 (ec σ)) ∧ w = w' := by
  obtain ⟨l,h1,_⟩ := h
  exact Bi.err_any r l (ec σ) w h1
set_option maxHeartbeats 1000000 in
theorem perr_any (p r : Nat) (x : Int) (σ : St) (w : World) (h : PS w p r x σ) : Calls Tryz.prog 50 #[.pointer (some ⟨p,0,none⟩)] w fun e w' => e = .returned (.int .i64 (pe x σ)) ∧ w = w' := by
  have HE := Lib.hid (perr0 r σ w h.2)
  have c0 : w.cell? ⟨p,0,none⟩ = some (.pointer (some ⟨r,0,none⟩)) := lies_cell h.1 0
  have c1 : w.cell? ⟨p,1,none⟩ = some (.int .i64 x) := lies_cell h.1 1
  clear h
  by_cases hx : x = 0
  · subst hx
    have HQ : Hid (pe 0 σ = ec σ) := if_pos rfl
    rw [HQ.out]
    generalize ec σ = q at HE ⊢
    go_enter Tryz.func50,Tryz.ntmps50
    go_wp2_with (go_at_call 90;(with_reducible refine (HE.out).mono ?_);rintro e w' ⟨rfl,rfl⟩)
    go_returns
    exact ⟨rfl,rfl⟩
  · have HQ : Hid (pe x σ = x) := if_neg hx
    rw [HQ.out]
    have g1 : (x == 0) = false := by simpa using hx
    have g2 : (x != 0) = true := by simpa using hx
    go_enter Tryz.func50,Tryz.ntmps50
    go_wp2_with fail
    go_returns
    exact ⟨rfl,rfl⟩
end Go.Proofs.YtdgkanamceeheaaGreat.Im
set_option linter.unusedVariables false
namespace Go.Proofs.PitotImg
theorem wrap64_mod (n : Int) : IntKind.i64.wrap n % 18446744073709551616 = n % 18446744073709551616 := by
  rw [IntKind.wrap_i64];omega
theorem ofInt_wrap (n : Int) : BitVec.ofInt 64 (IntKind.i64.wrap n) = BitVec.ofInt 64 n := by
  apply BitVec.eq_of_toNat_eq
  rw [BitVec.toNat_ofInt,BitVec.toNat_ofInt]
  have h := wrap64_mod n
  have h2 : ((2 ^ 64 : Nat) : Int) = 18446744073709551616 := rfl
  rw [h2,h]
theorem or_halves (a b : Nat) (ha : a < 4294967296) (hb : b < 4294967296) : bits .or .i64 (IntKind.i64.wrap ((a : Int) * 4294967296)) (b : Int) = IntKind.i64.wrap (((a * 4294967296 + b : Nat)) : Int) := by
  show IntKind.i64.wrap ((BitVec.ofInt 64 (IntKind.i64.wrap ((a : Int) * 4294967296)) ||| BitVec.ofInt 64 (b : Int)).toNat : Int) = _
  have e1 : ((a : Int) * 4294967296) = ((a * 4294967296 : Nat) : Int) := (Int.natCast_mul a 4294967296).symm
  have hA : a * 4294967296 < 18446744073709551616 := by omega
  have h := Nat.two_pow_add_eq_or_of_lt (i := 32) (b := b) hb a
  have e2 : 2 ^ 32 * a = a * 4294967296 := Nat.mul_comm _ _
  rw [e2] at h
  generalize a * 4294967296 = A at e1 hA h
  have m1 : (BitVec.ofInt 64 (A : Int)).toNat = A := by rw [BitVec.ofInt_natCast,BitVec.toNat_ofNat];exact Nat.mod_eq_of_lt hA
  have m2 : (BitVec.ofInt 64 (b : Int)).toNat = b := by rw [BitVec.ofInt_natCast,BitVec.toNat_ofNat];exact Nat.mod_eq_of_lt (by omega)
  rw [ofInt_wrap,e1,BitVec.toNat_or,m1,m2,h]
def joinF (hi lo : Int) : Int := IntKind.i64.wrap (hi * 4294967296 + lo)
theorem or_join (hi lo : Int) (h1 : 0 ≤ hi) (h2 : hi < 4294967296) (h3 : 0 ≤ lo) (h4 : lo < 4294967296) : bits .or .i64 (IntKind.i64.wrap (hi * 4294967296)) lo = joinF hi lo := by
  obtain ⟨a,rfl⟩ := Int.eq_ofNat_of_zero_le h1
  obtain ⟨b,rfl⟩ := Int.eq_ofNat_of_zero_le h3
  rw [or_halves a b (by omega) (by omega)]
  unfold joinF
  rw [show (((a * 4294967296 + b : Nat)) : Int) = (a : Int) * 4294967296 + b by rw [Int.natCast_add,Int.natCast_mul];rfl]
theorem join_u64 (hi lo : Int) (h1 : 0 ≤ hi) (h2 : hi < 4294967296) (h3 : 0 ≤ lo) (h4 : lo < 4294967296) : IntKind.u64.wrap (joinF hi lo) = hi * 4294967296 + lo := by
  have h := wrap64_mod (hi * 4294967296 + lo)
  unfold joinF
  rw [IntKind.wrap_u64]
  omega
theorem join_wrong (hi lo : Int) (h1 : 0 ≤ hi) (h2 : hi < 4294967296) (h3 : 0 ≤ lo) (h4 : lo < 4294967296) : decide (1099511627776 < IntKind.u64.wrap (joinF hi lo)) = wrongF hi lo := by
  rw [join_u64 hi lo h1 h2 h3 h4]
  unfold wrongF
  rw [Bool.eq_iff_iff]
  simp only [Bool.or_eq_true,Bool.and_eq_true,decide_eq_true_eq]
  omega
theorem join_fresh (hi lo : Int) (h1 : 0 ≤ hi) (h3 : 0 ≤ lo) (h4 : lo < 4294967296) (h : wrongF hi lo = false) : joinF hi lo = freshF hi lo := by
  unfold freshF
  rw [h,if_neg (by decide)]
  unfold wrongF at h
  simp only [Bool.or_eq_false_iff,Bool.and_eq_false_iff,decide_eq_false_iff_not] at h
  unfold joinF
  rw [IntWalk.i64_in _ (by omega)]
  omega
end Go.Proofs.PitotImg
set_option maxRecDepth 100000
set_option linter.unusedVariables false
namespace Go.Proofs.YtdgkanamceeheaaGreat.Im
open Go.RowKit
open PitotImg (St rd)
def wr1 (b : Bool) : Int := if b = true then 1 else 0
theorem wr1_none {b : Bool} : wr1 (b && (none : St).isSome) = 0 := by cases b <;> rfl
theorem wr1_f {l : List UInt8} : wr1 (false && (some l : St).isSome) = 0 := rfl
theorem wr1_t {l : List UInt8} : wr1 (true && (some l : St).isSome) = 1 := rfl
set_option maxHeartbeats 1000000 in
theorem tooFresh_any (n : Int) (R : Bool) (h : decide (1099511627776 < IntKind.u64.wrap n) = R) (w : World) : Calls Tryz.prog 112 #[.int .i64 n] w fun e w' => e = .returned (.bool R) ∧ w = w' := by
  go_enter Tryz.func112,Tryz.ntmps112
  go_wp2
  go_returns
  exact ⟨rfl,rfl⟩
set_option maxHeartbeats 2000000 in
theorem fresh_any (p r : Nat) (hi lo : Int) (σ σ1 σ2 : St) (w : World) (h : PS w p r 0 σ) (hpr : p ≠ r) (h1 : rd 4 σ = (hi,σ1)) (h2 : rd 4 σ1 = (lo,σ2)) : Calls Tryz.prog 89 #[.pointer (some ⟨p,0,none⟩)] w fun e w' => e = .returned (.int .i64 (PitotImg.joinF hi lo)) ∧ PS w' p r (wr1 (PitotImg.wrongF hi lo && σ2.isSome)) σ2 ∧ Fr w.heap.size r p w w' := by
  have HN1 := Lib.hid (pU32_of (r := r) h1)
  have HN2 := Lib.hid (pU32_of (r := r) h2)
  have HPR := Lib.hid hpr
  have HP : Hid (w.heap[p]? = some (.cells #[.pointer (some ⟨r,0,none⟩),.int .i64 0] 50)) := h.1
  have HR : Hid (RS 82 w r σ) := h.2
  have HF : Hid (Fr w.heap.size r p w w) := Fr.refl
  have b1 := rd_ge h1
  have b2 := rd_ge h2
  have b3 : hi < 4294967296 := b1.2
  have b4 : lo < 4294967296 := b2.2
  have b5 := b1.1
  have b6 := b2.1
  have HJ := Lib.hid (PitotImg.or_join hi lo b5 b3 b6 b4)
  have HT := Lib.hid (tooFresh_any _ _ (PitotImg.join_wrong hi lo b5 b3 b6 b4))
  obtain ⟨F,HFF⟩ : ∃ F,PitotImg.joinF hi lo = F := ⟨_,rfl⟩
  obtain ⟨wf,hwf⟩ : ∃ b,PitotImg.wrongF hi lo = b := ⟨_,rfl⟩
  rw [HFF] at HJ HT ⊢
  rw [hwf] at HT ⊢
  obtain ⟨xx,Hxx⟩ : ∃ x,Hid (wr1 (wf && σ2.isSome) = x) := ⟨_,Lib.hid rfl⟩
  rw [Hxx.out]
  clear h h1 h2 hpr b1 b2 HFF hwf
  go_enter Tryz.func89,Tryz.ntmps89
  go_upto_region 1 with (fail)
  have HPd : Hid ((World.drew w).heap[p]? = _) := HP.out
  have HRd : Hid (RS 82 (World.drew w) r _) := HR.out
  have HFd := Lib.hid (HF.out.trans Fr.dr)
  clear HP HR HF
  have HP := HPd
  have HR := HRd
  have HF := HFd
  clear HPd HRd HFd
  refine wp_region_held_drew (S := (fun w' => w'.cell? ⟨p,0,none⟩ = some (.pointer (some ⟨r,0,none⟩)))) (by kernel_rfl) ?_ (fun hHeld => ?_)
  · exact lies_cell HP.out 0
  refine tK 0 ?_ rfl (by kernel_rfl) rfl (by intro w;go_simp<;>with_reducible rfl) (fun _ _ _ h=>h) hHeld
  try simp only [Act.put,yA,yB,yC]
  refine tK 1 ?_ rfl (by kernel_rfl) rfl (by intro w;go_simp<;>with_reducible rfl) (fun _ _ _ h=>h) hHeld
  try simp only [Act.put,yA,yB,yC]
  refine tK 2 ?_ rfl (by kernel_rfl) rfl (by intro w;go_simp<;>with_reducible rfl) (fun _ _ _ h=>h) hHeld
  try simp only [Act.put,yA,yB,yC]
  refine tX 3 ?_ rfl (by kernel_rfl) rfl (by intro w hSw;(try dsimp only at hSw);have c0 := hSw;clear hSw;go_simp<;>with_reducible rfl) (fun _ _ _ h=>h) hHeld
  try simp only [Act.put,yA,yB,yC]
  refine tK 6 ?_ rfl (by kernel_rfl) rfl (by intro w;go_simp<;>with_reducible rfl) (fun _ _ _ h=>h) hHeld
  try simp only [Act.put,yA,yB,yC]
  refine tK 7 ?_ rfl (by kernel_rfl) rfl (by intro w;go_simp<;>with_reducible rfl) (fun _ _ _ h=>h) hHeld
  try simp only [Act.put,yA,yB,yC]
  refine tK 8 ?_ rfl (by kernel_rfl) rfl (by intro w;go_simp<;>with_reducible rfl) (fun _ _ _ h=>h) hHeld
  try simp only [Act.put,yA,yB,yC]
  refine tX 9 ?_ rfl (by kernel_rfl) rfl (by intro w hSw;(try dsimp only at hSw);have c0 := hSw;clear hSw;go_simp<;>with_reducible rfl) (fun _ _ _ h=>h) hHeld
  try simp only [Act.put,yA,yB,yC]
  refine rY 4 [] ?_ (by kernel_rfl)
  refine rC rfl (fun K hK => ?_) AllReadyH.nil
  have c0 := lies_cell HP.out 0
  go_simp
  (go_at_call 40;(with_reducible refine (HN1.out _ HR.out).mono ?_);rintro e V ⟨rfl,hw,hg⟩;go_wp2_with fail)
  clear c0
  have HPd := Lib.hid (lies_grown HP.out hg HPR.out)
  have HRd := Lib.hid hw
  have HFd := Lib.hid (Fr.of_grown (base := w.heap.size) (b := p) HF.out hg)
  clear HP HR HF hg hw
  have HP := HPd
  have HR := HRd
  have HF := HFd
  clear HPd HRd HFd
  refine hK.out _ _ ?_ (fun hHeld => ?_)
  · exact lies_cell HP.out 0
  clear hK K
  try simp only [Act.put,yA,yB,yC]
  refine tK 5 ?_ rfl (by kernel_rfl) rfl (by intro w;go_simp<;>with_reducible rfl) (fun _ _ _ h=>h) hHeld
  try simp only [Act.put,yA,yB,yC]
  refine rY 10 [] ?_ (by kernel_rfl)
  refine rC rfl (fun K hK => ?_) AllReadyH.nil
  have c0 := lies_cell HP.out 0
  go_simp
  (go_at_call 40;(with_reducible refine (HN2.out _ HR.out).mono ?_);rintro e V ⟨rfl,hw,hg⟩;go_wp2_with fail)
  clear c0
  have HPd := Lib.hid (lies_grown HP.out hg HPR.out)
  have HRd := Lib.hid hw
  have HFd := Lib.hid (Fr.of_grown (base := w.heap.size) (b := p) HF.out hg)
  clear HP HR HF hg hw
  have HP := HPd
  have HR := HRd
  have HF := HFd
  clear HPd HRd HFd
  refine hK.out _ _ ?_ (fun hHeld => ?_)
  · exact lies_cell HP.out 0
  clear hK K
  try simp only [Act.put,yA,yB,yC]
  refine tK 11 ?_ rfl (by kernel_rfl) rfl (by intro w;go_simp<;>with_reducible rfl) (fun _ _ _ h=>h) hHeld
  try simp only [Act.put,yA,yB,yC]
  refine tK 12 ?_ rfl (by kernel_rfl) rfl (by intro w;go_simp<;>with_reducible rfl) (fun _ _ _ h=>h) hHeld
  try simp only [Act.put,yA,yB,yC]
  refine wpAnyH_done (by kernel_rfl) ?_ _
  clear hHeld
  rw [HJ.out]
  clear b3 b4 b5 b6 HJ HN1 HN2
  have HE0 := Lib.hid (perr_any p r 0 σ2 V ⟨HP.out,HR.out⟩)
  cases σ2 with
  | none =>
    have HE : Hid (Calls Tryz.prog 50 #[.pointer (some ⟨p,0,none⟩)] V fun e w' => e = .returned (.int .i64 10) ∧ V = w') := HE0.out
    have HX : Hid (PS V p r xx none) := by show PS _ _ _ _ _;rw [← Hxx.out,wr1_none];exact ⟨HP.out,HR.out⟩
    go_wp2_with (go_at_call 50;(with_reducible refine (HE.out).mono ?_);rintro e w' ⟨rfl,rfl⟩)
    go_returns
    exact ⟨rfl,HX.out,HF.out⟩
  | some l =>
    have HE : Hid (Calls Tryz.prog 50 #[.pointer (some ⟨p,0,none⟩)] V fun e w' => e = .returned (.int .i64 0) ∧ V = w') := HE0.out
    clear HE0
    cases wf with
    | false =>
      have HX : Hid (PS V p r xx (some l)) := by show PS _ _ _ _ _;rw [← Hxx.out,wr1_f];exact ⟨HP.out,HR.out⟩
      go_wp2_with (first
        | (go_at_call 50;(with_reducible refine (HE.out).mono ?_);rintro e w' ⟨rfl,rfl⟩)
        | (go_at_call 112;(with_reducible refine (HT.out _).mono ?_);rintro e w' ⟨rfl,rfl⟩))
      go_returns
      exact ⟨rfl,HX.out,HF.out⟩
    | true =>
      have c1 := lies_cell HP.out 1
      have f1 := lies_frozen HP.out 1
      have HX : Hid (PS (V.setCell ⟨p,1,none⟩ (.int .i64 1)) p r xx (some l)) := by show PS _ _ _ _ _;rw [← Hxx.out,wr1_t];exact ⟨lies_set HP.out 1 _,RS.keep HR.out (heap_set_ne HPR.out)⟩
      have HY : Hid (Fr w.heap.size r p w (V.setCell ⟨p,1,none⟩ (.int .i64 1))) := Fr.set HF.out
      go_wp2_with (first
        | (go_at_call 50;(with_reducible refine (HE.out).mono ?_);rintro e w' ⟨rfl,rfl⟩)
        | (go_at_call 112;(with_reducible refine (HT.out _).mono ?_);rintro e w' ⟨rfl,rfl⟩))
      go_returns
      exact ⟨rfl,HX.out,HY.out⟩
end Go.Proofs.YtdgkanamceeheaaGreat.Im
