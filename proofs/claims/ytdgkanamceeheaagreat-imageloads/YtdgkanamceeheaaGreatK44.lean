/- The program writes a window, a link, a port. -/
import Derived.Test.YtdgkanamceeheaaGreatK9
import Derived.Deep.CutRange
set_option linter.unusedVariables false
set_option maxRecDepth 100000
set_option linter.unusedVariables false
namespace Go.Proofs.YtdgkanamceeheaaGreat.Im
open Go.RowKit
theorem wr_lt {w : World} {b n : Nat} {st : Option (List UInt8)} (h : Bi.WrAt w b n st) : b < w.heap.size := by
  match st,h with
  | none,h => exact lies_lt (w := w) h
  | some l,⟨p,last,ts,hb,_⟩ => exact lies_lt hb
theorem vl_byte_eq (x : Vx) : 16 * x.bag + 8 * bitOf x.high + x.subs = PitotImg.vlByte x.pl := by
  unfold bitOf PitotImg.vlByte
  show 16 * x.bag + 8 * (if x.high = true then 1 else 0) + x.subs = 16 * x.bag + (if x.high = true then 8 else 0) + x.subs
  split <;> omega
theorem prt_byte_eq (x : Px) : 64 * x.kind + 32 * bitOf x.out + x.sub = PitotImg.prtByte x.pl := by
  unfold bitOf PitotImg.prtByte
  show 64 * x.kind + 32 * (if x.out = true then 1 else 0) + x.sub = 64 * x.kind + (if x.out = true then 32 else 0) + x.sub
  split <;> omega
theorem and_low (q : Int) : bits .and .i64 q 4294967295 = q % 4294967296 := by
  have h127 : (BitVec.ofInt 64 4294967295).toNat = 2 ^ 32 - 1 := by decide
  have key : (BitVec.ofInt 64 q &&& BitVec.ofInt 64 4294967295).toNat = (q % ((2 ^ 64 : Nat) : Int)).toNat % 2 ^ 32 := by
    rw [BitVec.toNat_and,BitVec.toNat_ofInt,h127,Nat.and_two_pow_sub_one_eq_mod]
  show IntKind.i64.wrap ((BitVec.ofInt 64 q &&& BitVec.ofInt 64 4294967295).toNat : Nat) = q % 4294967296
  rw [key,IntKind.wrap_i64]
  omega
theorem bitOf_le (h : Bool) : 0 ≤ bitOf h ∧ bitOf h ≤ 1 := by cases h <;> decide
set_option maxHeartbeats 2000000 in
theorem win_any (b n : Nat) (l : List UInt8) (wpart wbeg wlong : Int) (w : World) (hW : Bi.WrAt w b n (some l)) (hf : PitotImg.fits 2 wpart ∧ PitotImg.fits 4 wbeg ∧ PitotImg.fits 4 wlong) (hll : l.length ≤ 800000) :
    Calls Tryz.prog 66 #[.pointer (some ⟨b,0,none⟩),.agg #[.int .i64 wpart,.int .i64 wbeg,.int .i64 wlong]] w fun e w' => e = .returned (.tuple #[]) ∧ Bi.WrAt w' b (n + 3) (some (l ++ PitotImg.winW ⟨wpart,wbeg,wlong⟩)) ∧ w.grownBy w' (some b) := by
  have HU := Lib.hid (fun (n : Nat) (l : List UInt8) (v : Int) (w : World) (h : Bi.WrAt w b n (some l)) (hf : PitotImg.fits 2 v) (hll : l.length ≤ 900000) => u16_fit b n l v w h hf hll)
  have HU4 := Lib.hid (fun (n : Nat) (l : List UInt8) (v : Int) (w : World) (h : Bi.WrAt w b n (some l)) (hf : PitotImg.fits 4 v) (hll : l.length ≤ 900000) => u32_fit b n l v w h hf hll)
  obtain ⟨hf1,hf2,hf3⟩ := hf
  have HF1 := Lib.hid hf1;have HF2 := Lib.hid hf2;have HF3 := Lib.hid hf3
  clear hf1 hf2 hf3
  have HW0 : Hid (Bi.WrAt (w.alloc (.cells #[.int .i64 wpart,.int .i64 wbeg,.int .i64 wlong] 58)) b n (some l)) := hW.below ((Below.refl _ w).alloc (Nat.le_refl _) _)
  have HV0 : Hid ((w.alloc (.cells #[.int .i64 wpart,.int .i64 wbeg,.int .i64 wlong] 58)).heap[w.heap.size]? = some (.cells #[.int .i64 wpart,.int .i64 wbeg,.int .i64 wlong] 58)) := heap_alloc_new w _
  have HG0 : Hid (w.grownBy (w.alloc (.cells #[.int .i64 wpart,.int .i64 wbeg,.int .i64 wlong] 58)) (some b)) := Bi.grown_alloc _
  have HNE : Hid (w.heap.size ≠ b) := by have := wr_lt hW;show _ ≠ _;omega
  have HBL : Hid (b < (w.alloc (.cells #[.int .i64 wpart,.int .i64 wbeg,.int .i64 wlong] 58)).heap.size) := by have := wr_lt hW;show _ < _;simp;omega
  clear hW
  go_enter Tryz.func66,Tryz.ntmps66
  go_upto_region 1 with (fail)
  have HW := HW0
  have HV := HV0
  have HG := HG0
  clear HW0 HV0 HG0
  obtain ⟨W1,hW1⟩ : ∃ W,w.alloc (.cells #[.int .i64 wpart,.int .i64 wbeg,.int .i64 wlong] 58) = W := ⟨_,rfl⟩
  rw [hW1] at HW HV HG HBL ⊢
  clear hW1
  generalize w.heap.size = vb at HV HNE ⊢
  obtain ⟨c0,c1,c2⟩ := cells_3 HV.out
  go_wp2_with (first
      | (go_at_call 61;(with_reducible refine (HU.out _ _ wpart _ HW.out HF1.out (by (try simp only [List.length_append,PitotImg.w_length]);omega)).mono ?_);rintro e w2 ⟨rfl,hw2,hg2⟩
         (have HVX := Lib.hid (lies_grown HV.out hg2 HNE.out))
         (have HGX := Lib.hid (Bi.grown_trans HG.out hg2))
         (have HWX := Lib.hid hw2)
         (clear hw2 hg2 HV HG HW c0 c1 c2)
         (have HV := HVX)
         (have HG := HGX)
         (have HW := HWX)
         (clear HVX HGX HWX)
         (obtain ⟨c0,c1,c2⟩ := cells_3 HV.out))
      | (go_at_call 63;(with_reducible refine (HU4.out _ _ wbeg _ HW.out HF2.out (by (try simp only [List.length_append,PitotImg.w_length]);omega)).mono ?_);rintro e w2 ⟨rfl,hw2,hg2⟩
         (have HVX := Lib.hid (lies_grown HV.out hg2 HNE.out))
         (have HGX := Lib.hid (Bi.grown_trans HG.out hg2))
         (have HWX := Lib.hid hw2)
         (clear hw2 hg2 HV HG HW c0 c1 c2)
         (have HV := HVX)
         (have HG := HGX)
         (have HW := HWX)
         (clear HVX HGX HWX)
         (obtain ⟨c0,c1,c2⟩ := cells_3 HV.out))
      | (go_at_call 63;(with_reducible refine (HU4.out _ _ wlong _ HW.out HF3.out (by (try simp only [List.length_append,PitotImg.w_length]);omega)).mono ?_);rintro e w2 ⟨rfl,hw2,hg2⟩
         (have HVX := Lib.hid (lies_grown HV.out hg2 HNE.out))
         (have HGX := Lib.hid (Bi.grown_trans HG.out hg2))
         (have HWX := Lib.hid hw2)
         (clear hw2 hg2 HV HG HW c0 c1 c2)
         (have HV := HVX)
         (have HG := HGX)
         (have HW := HWX)
         (clear HVX HGX HWX)
         (obtain ⟨c0,c1,c2⟩ := cells_3 HV.out)))
  go_returns
  refine ⟨rfl,?_,HG.out⟩
  have h := HW.out
  simp only [PitotImg.winW,← List.append_assoc]
  exact h
set_option maxHeartbeats 4000000 in
theorem vl_any (b n : Nat) (l : List UInt8) (vid vhost vbag vsmax vsubs vskew : Int) (vhigh : Bool) (tA : Option Addr) (tc : Nat) (tol : List Int) (W0 w : World) (hW : Bi.WrAt w b n (some l)) (hT : IntsAt W0 tA tol) (hB : Below W0.heap.size W0 w) (hb : W0.heap.size ≤ b) (hf : PitotImg.vlOk ⟨vid,vhost,vbag,vsmax,vhigh,vsubs,vskew,tol⟩) (hll : l.length ≤ 600000) :
    Calls Tryz.prog 69 #[.pointer (some ⟨b,0,none⟩),.agg #[.int .i64 vid,.int .i64 vhost,.int .i64 vbag,.int .i64 vsmax,.bool vhigh,.int .i64 vsubs,.int .i64 vskew,.slice tA tol.length tc]] w fun e w' => e = .returned (.tuple #[]) ∧ Bi.WrAt w' b (n + 6 + tol.length) (some (l ++ PitotImg.vlW ⟨vid,vhost,vbag,vsmax,vhigh,vsubs,vskew,tol⟩)) ∧ w.grownBy w' (some b) := by
  have HU := Lib.hid (fun (n : Nat) (l : List UInt8) (v : Int) (w : World) (h : Bi.WrAt w b n (some l)) (hf : PitotImg.fits 2 v) (hll : l.length ≤ 900000) => u16_fit b n l v w h hf hll)
  have HU4 := Lib.hid (fun (n : Nat) (l : List UInt8) (v : Int) (w : World) (h : Bi.WrAt w b n (some l)) (hf : PitotImg.fits 4 v) (hll : l.length ≤ 900000) => u32_fit b n l v w h hf hll)
  obtain ⟨hf1,hf2,hf3,hf4,hf5,hf6,hf7,hf8⟩ := hf
  simp only at hf3 hf5 hf8
  obtain ⟨tl,Htl⟩ : ∃ tl,Hid (tol.length = tl) := ⟨_,rfl⟩
  rw [Htl.out] at hf8 ⊢
  have HF1 := Lib.hid hf1;have HF2 := Lib.hid hf2;have HF4 := Lib.hid hf4;have HF6 := Lib.hid hf6;have HF7 := Lib.hid hf7
  have HST := Lib.hid (fun l => bits_431 vbag (bitOf vhigh) vsubs l hf3 (bitOf_le _) hf5)
  have HBY : Hid (16 * vbag + 8 * bitOf vhigh + vsubs = PitotImg.vlByte ⟨vid,vhost,vbag,vsmax,vhigh,vsubs,vskew,tol⟩) := vl_byte_eq ⟨vid,vhost,vbag,vsmax,vhigh,vsubs,vskew,none,0,tol⟩
  have HLI := Lib.hid (fun (n : Nat) (l : List UInt8) (w : World) (hW : Bi.WrAt w b n (some l)) (hB : Below W0.heap.size W0 w) (hll : l.length + 2 + 2 * tl ≤ 900000) => list_u16 b n l tA tl tc tol W0 w hW hT hB hb HF7.out Htl.out hf8 hll)
  have HLB := Lib.hid (fun w' (hg : w.grownBy w' (some b)) => hB.trans (grown_below hg hb hB.size))
  have HLW := Lib.hid linkWide_any
  have HBT := Lib.hid (bit_any vhigh)
  clear hf1 hf2 hf3 hf4 hf5 hf6 hf7 hT hB hb HF7
  have HW0 : Hid (Bi.WrAt (w.alloc (.cells #[.int .i64 vid,.int .i64 vhost,.int .i64 vbag,.int .i64 vsmax,.bool vhigh,.int .i64 vsubs,.int .i64 vskew,.slice tA tl tc] 60)) b n (some l)) := hW.below ((Below.refl _ w).alloc (Nat.le_refl _) _)
  have HV0 : Hid ((w.alloc (.cells #[.int .i64 vid,.int .i64 vhost,.int .i64 vbag,.int .i64 vsmax,.bool vhigh,.int .i64 vsubs,.int .i64 vskew,.slice tA tl tc] 60)).heap[w.heap.size]? = some (.cells #[.int .i64 vid,.int .i64 vhost,.int .i64 vbag,.int .i64 vsmax,.bool vhigh,.int .i64 vsubs,.int .i64 vskew,.slice tA tl tc] 60)) := heap_alloc_new w _
  have HG0 : Hid (w.grownBy (w.alloc (.cells #[.int .i64 vid,.int .i64 vhost,.int .i64 vbag,.int .i64 vsmax,.bool vhigh,.int .i64 vsubs,.int .i64 vskew,.slice tA tl tc] 60)) (some b)) := Bi.grown_alloc _
  have HNE : Hid (w.heap.size ≠ b) := by have := wr_lt hW;show _ ≠ _;omega
  have HBL : Hid (b < (w.alloc (.cells #[.int .i64 vid,.int .i64 vhost,.int .i64 vbag,.int .i64 vsmax,.bool vhigh,.int .i64 vsubs,.int .i64 vskew,.slice tA tl tc] 60)).heap.size) := by have := wr_lt hW;show _ < _;simp;omega
  clear hW
  go_enter Tryz.func69,Tryz.ntmps69
  go_upto_region 1 with (fail)
  have HW := HW0
  have HV := HV0
  have HG := HG0
  clear HW0 HV0 HG0
  obtain ⟨W1,hW1⟩ : ∃ W,w.alloc (.cells #[.int .i64 vid,.int .i64 vhost,.int .i64 vbag,.int .i64 vsmax,.bool vhigh,.int .i64 vsubs,.int .i64 vskew,.slice tA tl tc] 60) = W := ⟨_,rfl⟩
  rw [hW1] at HW HV HG HBL ⊢
  clear hW1
  generalize w.heap.size = vb at HV HNE ⊢
  obtain ⟨c0,c1,c2,c3,c4,c5,c6,c7⟩ := cells_8 HV.out
  go_upto_region 3 with (first
      | (go_at_call 61;(with_reducible refine (HU.out _ _ vid _ HW.out HF1.out (by (try simp only [List.length_append,PitotImg.w_length]);omega)).mono ?_);rintro e w2 ⟨rfl,hw2,hg2⟩
         (have HVX := Lib.hid (lies_grown HV.out hg2 HNE.out))
         (have HGX := Lib.hid (Bi.grown_trans HG.out hg2))
         (have HWX := Lib.hid hw2)
         (clear hw2 hg2 HV HG HW c0 c1 c2 c3 c4 c5 c6 c7)
         (have HV := HVX)
         (have HG := HGX)
         (have HW := HWX)
         (clear HVX HGX HWX)
         (obtain ⟨c0,c1,c2,c3,c4,c5,c6,c7⟩ := cells_8 HV.out))
      | (go_at_call 61;(with_reducible refine (HU.out _ _ vhost _ HW.out HF2.out (by (try simp only [List.length_append,PitotImg.w_length]);omega)).mono ?_);rintro e w2 ⟨rfl,hw2,hg2⟩
         (have HVX := Lib.hid (lies_grown HV.out hg2 HNE.out))
         (have HGX := Lib.hid (Bi.grown_trans HG.out hg2))
         (have HWX := Lib.hid hw2)
         (clear hw2 hg2 HV HG HW c0 c1 c2 c3 c4 c5 c6 c7)
         (have HV := HVX)
         (have HG := HGX)
         (have HW := HWX)
         (clear HVX HGX HWX)
         (obtain ⟨c0,c1,c2,c3,c4,c5,c6,c7⟩ := cells_8 HV.out)))
  have HLL : Hid ((l ++ PitotImg.w 2 vid ++ PitotImg.w 2 vhost).length ≤ 900000) := by show _ ≤ _;simp only [List.length_append,PitotImg.w_length];omega
  have HBL2 := Lib.hid (Nat.lt_of_lt_of_le (wr_lt HW.out) (Nat.le_refl _))
  refine vl_byte HW HV HNE HBL2 HLW HBT (Lib.hid (HST.out _)) HLL (fun _ _ _ _ _ h => h) ?_
  intro wc hw2 hg2 z0 z1 z2 z3 z4 z5 z6 z7 z8 z9 z10
  (have HVX := Lib.hid (lies_grown HV.out hg2 HNE.out))
  (have HGX := Lib.hid (Bi.grown_trans HG.out hg2))
  (have HWX := Lib.hid hw2)
  (clear hw2 hg2 HV HG HW c0 c1 c2 c3 c4 c5 c6 c7)
  (have HV := HVX)
  (have HG := HGX)
  (have HW := HWX)
  (clear HVX HGX HWX)
  (obtain ⟨c0,c1,c2,c3,c4,c5,c6,c7⟩ := cells_8 HV.out)
  rw [HBY.out] at HW
  go_wp2_with (first
      | (go_at_call 61;(with_reducible refine (HU.out _ _ vsmax _ HW.out HF4.out (by (try simp only [List.length_append,PitotImg.w_length]);omega)).mono ?_);rintro e w2 ⟨rfl,hw2,hg2⟩
         (have HVX := Lib.hid (lies_grown HV.out hg2 HNE.out))
         (have HGX := Lib.hid (Bi.grown_trans HG.out hg2))
         (have HWX := Lib.hid hw2)
         (clear hw2 hg2 HV HG HW c0 c1 c2 c3 c4 c5 c6 c7)
         (have HV := HVX)
         (have HG := HGX)
         (have HW := HWX)
         (clear HVX HGX HWX)
         (obtain ⟨c0,c1,c2,c3,c4,c5,c6,c7⟩ := cells_8 HV.out))
      | (go_at_call 63;(with_reducible refine (HU4.out _ _ vskew _ HW.out HF6.out (by (try simp only [List.length_append,PitotImg.w_length]);omega)).mono ?_);rintro e w2 ⟨rfl,hw2,hg2⟩
         (have HVX := Lib.hid (lies_grown HV.out hg2 HNE.out))
         (have HGX := Lib.hid (Bi.grown_trans HG.out hg2))
         (have HWX := Lib.hid hw2)
         (clear hw2 hg2 HV HG HW c0 c1 c2 c3 c4 c5 c6 c7)
         (have HV := HVX)
         (have HG := HGX)
         (have HW := HWX)
         (clear HVX HGX HWX)
         (obtain ⟨c0,c1,c2,c3,c4,c5,c6,c7⟩ := cells_8 HV.out))
      | (go_at_call 62;(with_reducible refine (HLI.out _ _ _ HW.out (HLB.out _ HG.out) (by (try simp only [List.length_append,PitotImg.w_length]);omega)).mono ?_);rintro e w2 ⟨rfl,hw2,hg2⟩
         (have HVX := Lib.hid (lies_grown HV.out hg2 HNE.out))
         (have HGX := Lib.hid (Bi.grown_trans HG.out hg2))
         (have HWX := Lib.hid hw2)
         (clear hw2 hg2 HV HG HW c0 c1 c2 c3 c4 c5 c6 c7)
         (have HV := HVX)
         (have HG := HGX)
         (have HW := HWX)
         (clear HVX HGX HWX)
         (obtain ⟨c0,c1,c2,c3,c4,c5,c6,c7⟩ := cells_8 HV.out)))
  go_returns
  refine ⟨rfl,?_,HG.out⟩
  have h := HW.out
  simp only [PitotImg.vlW,← List.append_assoc]
  exact h
set_option maxHeartbeats 4000000 in
theorem prt_any (b n : Nat) (l : List UInt8) (qid qhost qpart qkind qvl qsub qudp qsize qdepth qfresh : Int) (qout : Bool) (w : World) (hW : Bi.WrAt w b n (some l)) (hf : PitotImg.prtOk ⟨qid,qhost,qpart,qkind,qout,qvl,qsub,qudp,qsize,qdepth,qfresh⟩) (hll : l.length ≤ 800000) :
    Calls Tryz.prog 72 #[.pointer (some ⟨b,0,none⟩),.agg #[.int .i64 qid,.int .i64 qhost,.int .i64 qpart,.int .i64 qkind,.bool qout,.int .i64 qvl,.int .i64 qsub,.int .i64 qudp,.int .i64 qsize,.int .i64 qdepth,.int .i64 qfresh]] w fun e w' => e = .returned (.tuple #[]) ∧ Bi.WrAt w' b (n + 10) (some (l ++ PitotImg.prtW ⟨qid,qhost,qpart,qkind,qout,qvl,qsub,qudp,qsize,qdepth,qfresh⟩)) ∧ w.grownBy w' (some b) := by
  have HU := Lib.hid (fun (n : Nat) (l : List UInt8) (v : Int) (w : World) (h : Bi.WrAt w b n (some l)) (hf : PitotImg.fits 2 v) (hll : l.length ≤ 900000) => u16_fit b n l v w h hf hll)
  have HU4 := Lib.hid (fun (n : Nat) (l : List UInt8) (v : Int) (w : World) (h : Bi.WrAt w b n (some l)) (hf : PitotImg.fits 4 v) (hll : l.length ≤ 900000) => u32_fit b n l v w h hf hll)
  obtain ⟨hf1,hf2,hf3,hf4,hf5,hf6,hf7,hf8,hf9,hf10⟩ := hf
  simp only at hf4 hf6 hf10
  have HF1 := Lib.hid hf1;have HF2 := Lib.hid hf2;have HF3 := Lib.hid hf3;have HF5 := Lib.hid hf5;have HF7 := Lib.hid hf7;have HF8 := Lib.hid hf8;have HF9 := Lib.hid hf9
  have HFA : Hid (PitotImg.fits 4 (qfresh / 4294967296)) := ⟨by omega,by show _ < (4294967296 : Int);omega⟩
  have HFB : Hid (PitotImg.fits 4 (qfresh % 4294967296)) := ⟨by omega,by show _ < (4294967296 : Int);omega⟩
  have HST := Lib.hid (fun l => bits_215 qkind (bitOf qout) qsub l hf4 (bitOf_le _) hf6)
  have HBY : Hid (64 * qkind + 32 * bitOf qout + qsub = PitotImg.prtByte ⟨qid,qhost,qpart,qkind,qout,qvl,qsub,qudp,qsize,qdepth,qfresh⟩) := prt_byte_eq ⟨qid,qhost,qpart,qkind,qout,qvl,qsub,qudp,qsize,qdepth,qfresh⟩
  have HLW := Lib.hid portWide_any
  have s2 := and_low qfresh
  have HBT := Lib.hid (bit_any qout)
  clear hf1 hf2 hf3 hf4 hf5 hf6 hf7 hf8 hf9 hf10
  have HW0 : Hid (Bi.WrAt (w.alloc (.cells #[.int .i64 qid,.int .i64 qhost,.int .i64 qpart,.int .i64 qkind,.bool qout,.int .i64 qvl,.int .i64 qsub,.int .i64 qudp,.int .i64 qsize,.int .i64 qdepth,.int .i64 qfresh] 62)) b n (some l)) := hW.below ((Below.refl _ w).alloc (Nat.le_refl _) _)
  have HV0 : Hid ((w.alloc (.cells #[.int .i64 qid,.int .i64 qhost,.int .i64 qpart,.int .i64 qkind,.bool qout,.int .i64 qvl,.int .i64 qsub,.int .i64 qudp,.int .i64 qsize,.int .i64 qdepth,.int .i64 qfresh] 62)).heap[w.heap.size]? = some (.cells #[.int .i64 qid,.int .i64 qhost,.int .i64 qpart,.int .i64 qkind,.bool qout,.int .i64 qvl,.int .i64 qsub,.int .i64 qudp,.int .i64 qsize,.int .i64 qdepth,.int .i64 qfresh] 62)) := heap_alloc_new w _
  have HG0 : Hid (w.grownBy (w.alloc (.cells #[.int .i64 qid,.int .i64 qhost,.int .i64 qpart,.int .i64 qkind,.bool qout,.int .i64 qvl,.int .i64 qsub,.int .i64 qudp,.int .i64 qsize,.int .i64 qdepth,.int .i64 qfresh] 62)) (some b)) := Bi.grown_alloc _
  have HNE : Hid (w.heap.size ≠ b) := by have := wr_lt hW;show _ ≠ _;omega
  have HBL : Hid (b < (w.alloc (.cells #[.int .i64 qid,.int .i64 qhost,.int .i64 qpart,.int .i64 qkind,.bool qout,.int .i64 qvl,.int .i64 qsub,.int .i64 qudp,.int .i64 qsize,.int .i64 qdepth,.int .i64 qfresh] 62)).heap.size) := by have := wr_lt hW;show _ < _;simp;omega
  clear hW
  go_enter Tryz.func72,Tryz.ntmps72
  go_upto_region 1 with (fail)
  have HW := HW0
  have HV := HV0
  have HG := HG0
  clear HW0 HV0 HG0
  obtain ⟨W1,hW1⟩ : ∃ W,w.alloc (.cells #[.int .i64 qid,.int .i64 qhost,.int .i64 qpart,.int .i64 qkind,.bool qout,.int .i64 qvl,.int .i64 qsub,.int .i64 qudp,.int .i64 qsize,.int .i64 qdepth,.int .i64 qfresh] 62) = W := ⟨_,rfl⟩
  rw [hW1] at HW HV HG HBL ⊢
  clear hW1
  generalize w.heap.size = vb at HV HNE ⊢
  obtain ⟨c0,c1,c2,c3,c4,c5,c6,c7,c8,c9,c10⟩ := cells_11 HV.out
  go_upto_region 4 with (first
      | (go_at_call 63;(with_reducible refine (HU4.out _ _ qid _ HW.out HF1.out (by (try simp only [List.length_append,PitotImg.w_length]);omega)).mono ?_);rintro e w2 ⟨rfl,hw2,hg2⟩
         (have HVX := Lib.hid (lies_grown HV.out hg2 HNE.out))
         (have HGX := Lib.hid (Bi.grown_trans HG.out hg2))
         (have HWX := Lib.hid hw2)
         (clear hw2 hg2 HV HG HW c0 c1 c2 c3 c4 c5 c6 c7 c8 c9 c10)
         (have HV := HVX)
         (have HG := HGX)
         (have HW := HWX)
         (clear HVX HGX HWX)
         (obtain ⟨c0,c1,c2,c3,c4,c5,c6,c7,c8,c9,c10⟩ := cells_11 HV.out))
      | (go_at_call 61;(with_reducible refine (HU.out _ _ qhost _ HW.out HF2.out (by (try simp only [List.length_append,PitotImg.w_length]);omega)).mono ?_);rintro e w2 ⟨rfl,hw2,hg2⟩
         (have HVX := Lib.hid (lies_grown HV.out hg2 HNE.out))
         (have HGX := Lib.hid (Bi.grown_trans HG.out hg2))
         (have HWX := Lib.hid hw2)
         (clear hw2 hg2 HV HG HW c0 c1 c2 c3 c4 c5 c6 c7 c8 c9 c10)
         (have HV := HVX)
         (have HG := HGX)
         (have HW := HWX)
         (clear HVX HGX HWX)
         (obtain ⟨c0,c1,c2,c3,c4,c5,c6,c7,c8,c9,c10⟩ := cells_11 HV.out))
      | (go_at_call 61;(with_reducible refine (HU.out _ _ qpart _ HW.out HF3.out (by (try simp only [List.length_append,PitotImg.w_length]);omega)).mono ?_);rintro e w2 ⟨rfl,hw2,hg2⟩
         (have HVX := Lib.hid (lies_grown HV.out hg2 HNE.out))
         (have HGX := Lib.hid (Bi.grown_trans HG.out hg2))
         (have HWX := Lib.hid hw2)
         (clear hw2 hg2 HV HG HW c0 c1 c2 c3 c4 c5 c6 c7 c8 c9 c10)
         (have HV := HVX)
         (have HG := HGX)
         (have HW := HWX)
         (clear HVX HGX HWX)
         (obtain ⟨c0,c1,c2,c3,c4,c5,c6,c7,c8,c9,c10⟩ := cells_11 HV.out)))
  have HLL : Hid ((l ++ PitotImg.w 4 qid ++ PitotImg.w 2 qhost ++ PitotImg.w 2 qpart).length ≤ 900000) := by show _ ≤ _;simp only [List.length_append,PitotImg.w_length];omega
  have HBL2 := Lib.hid (Nat.lt_of_lt_of_le (wr_lt HW.out) (Nat.le_refl _))
  refine prt_byte HW HV HNE HBL2 HLW HBT (Lib.hid (HST.out _)) HLL (fun _ _ _ _ _ h => h) ?_
  intro wc hw2 hg2 z0 z1 z2 z3 z4 z5 z6 z7 z8 z9 z10
  (have HVX := Lib.hid (lies_grown HV.out hg2 HNE.out))
  (have HGX := Lib.hid (Bi.grown_trans HG.out hg2))
  (have HWX := Lib.hid hw2)
  (clear hw2 hg2 HV HG HW c0 c1 c2 c3 c4 c5 c6 c7 c8 c9 c10)
  (have HV := HVX)
  (have HG := HGX)
  (have HW := HWX)
  (clear HVX HGX HWX)
  (obtain ⟨c0,c1,c2,c3,c4,c5,c6,c7,c8,c9,c10⟩ := cells_11 HV.out)
  rw [HBY.out] at HW
  go_wp2_with (first
      | (go_at_call 61;(with_reducible refine (HU.out _ _ qvl _ HW.out HF5.out (by (try simp only [List.length_append,PitotImg.w_length]);omega)).mono ?_);rintro e w2 ⟨rfl,hw2,hg2⟩
         (have HVX := Lib.hid (lies_grown HV.out hg2 HNE.out))
         (have HGX := Lib.hid (Bi.grown_trans HG.out hg2))
         (have HWX := Lib.hid hw2)
         (clear hw2 hg2 HV HG HW c0 c1 c2 c3 c4 c5 c6 c7 c8 c9 c10)
         (have HV := HVX)
         (have HG := HGX)
         (have HW := HWX)
         (clear HVX HGX HWX)
         (obtain ⟨c0,c1,c2,c3,c4,c5,c6,c7,c8,c9,c10⟩ := cells_11 HV.out))
      | (go_at_call 61;(with_reducible refine (HU.out _ _ qudp _ HW.out HF7.out (by (try simp only [List.length_append,PitotImg.w_length]);omega)).mono ?_);rintro e w2 ⟨rfl,hw2,hg2⟩
         (have HVX := Lib.hid (lies_grown HV.out hg2 HNE.out))
         (have HGX := Lib.hid (Bi.grown_trans HG.out hg2))
         (have HWX := Lib.hid hw2)
         (clear hw2 hg2 HV HG HW c0 c1 c2 c3 c4 c5 c6 c7 c8 c9 c10)
         (have HV := HVX)
         (have HG := HGX)
         (have HW := HWX)
         (clear HVX HGX HWX)
         (obtain ⟨c0,c1,c2,c3,c4,c5,c6,c7,c8,c9,c10⟩ := cells_11 HV.out))
      | (go_at_call 61;(with_reducible refine (HU.out _ _ qsize _ HW.out HF8.out (by (try simp only [List.length_append,PitotImg.w_length]);omega)).mono ?_);rintro e w2 ⟨rfl,hw2,hg2⟩
         (have HVX := Lib.hid (lies_grown HV.out hg2 HNE.out))
         (have HGX := Lib.hid (Bi.grown_trans HG.out hg2))
         (have HWX := Lib.hid hw2)
         (clear hw2 hg2 HV HG HW c0 c1 c2 c3 c4 c5 c6 c7 c8 c9 c10)
         (have HV := HVX)
         (have HG := HGX)
         (have HW := HWX)
         (clear HVX HGX HWX)
         (obtain ⟨c0,c1,c2,c3,c4,c5,c6,c7,c8,c9,c10⟩ := cells_11 HV.out))
      | (go_at_call 61;(with_reducible refine (HU.out _ _ qdepth _ HW.out HF9.out (by (try simp only [List.length_append,PitotImg.w_length]);omega)).mono ?_);rintro e w2 ⟨rfl,hw2,hg2⟩
         (have HVX := Lib.hid (lies_grown HV.out hg2 HNE.out))
         (have HGX := Lib.hid (Bi.grown_trans HG.out hg2))
         (have HWX := Lib.hid hw2)
         (clear hw2 hg2 HV HG HW c0 c1 c2 c3 c4 c5 c6 c7 c8 c9 c10)
         (have HV := HVX)
         (have HG := HGX)
         (have HW := HWX)
         (clear HVX HGX HWX)
         (obtain ⟨c0,c1,c2,c3,c4,c5,c6,c7,c8,c9,c10⟩ := cells_11 HV.out))
      | (go_at_call 63;(with_reducible refine (HU4.out _ _ (qfresh / 4294967296) _ HW.out HFA.out (by (try simp only [List.length_append,PitotImg.w_length]);omega)).mono ?_);rintro e w2 ⟨rfl,hw2,hg2⟩
         (have HVX := Lib.hid (lies_grown HV.out hg2 HNE.out))
         (have HGX := Lib.hid (Bi.grown_trans HG.out hg2))
         (have HWX := Lib.hid hw2)
         (clear hw2 hg2 HV HG HW c0 c1 c2 c3 c4 c5 c6 c7 c8 c9 c10)
         (have HV := HVX)
         (have HG := HGX)
         (have HW := HWX)
         (clear HVX HGX HWX)
         (obtain ⟨c0,c1,c2,c3,c4,c5,c6,c7,c8,c9,c10⟩ := cells_11 HV.out))
      | (go_at_call 63;(with_reducible refine (HU4.out _ _ (qfresh % 4294967296) _ HW.out HFB.out (by (try simp only [List.length_append,PitotImg.w_length]);omega)).mono ?_);rintro e w2 ⟨rfl,hw2,hg2⟩
         (have HVX := Lib.hid (lies_grown HV.out hg2 HNE.out))
         (have HGX := Lib.hid (Bi.grown_trans HG.out hg2))
         (have HWX := Lib.hid hw2)
         (clear hw2 hg2 HV HG HW c0 c1 c2 c3 c4 c5 c6 c7 c8 c9 c10)
         (have HV := HVX)
         (have HG := HGX)
         (have HW := HWX)
         (clear HVX HGX HWX)
         (obtain ⟨c0,c1,c2,c3,c4,c5,c6,c7,c8,c9,c10⟩ := cells_11 HV.out)))
  go_returns
  refine ⟨rfl,?_,HG.out⟩
  have h := HW.out
  simp only [PitotImg.prtW,← List.append_assoc]
  exact h
end Go.Proofs.YtdgkanamceeheaaGreat.Im
