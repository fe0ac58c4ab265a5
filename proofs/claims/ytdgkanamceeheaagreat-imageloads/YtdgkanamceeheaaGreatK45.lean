/- The program writes lists of windows, links, ports. -/
import Derived.Test.YtdgkanamceeheaaGreatK44
set_option linter.unusedVariables false
set_option maxRecDepth 100000
set_option linter.unusedVariables false
namespace Go.Proofs.YtdgkanamceeheaaGreat.Im
open Go.RowKit
def WL (w : World) (b : Nat) (l : List UInt8) : Prop := Bi.WrAt w b l.length (some l)
theorem wl_alloc {w : World} {b : Nat} {l : List UInt8} (h : WL w b l) (o : Obj) : WL (w.alloc o) b l := Bi.WrAt.below h ((Below.refl _ w).alloc (Nat.le_refl _) _)
theorem wl_of {w : World} {b n : Nat} {l : List UInt8} (h : Bi.WrAt w b n (some l)) (hn : n ≤ l.length) : WL w b l := h.more hn
theorem u16_wl (b : Nat) (l : List UInt8) (v : Int) (w : World) (h : WL w b l) (hf : PitotImg.fits 2 v) (hll : l.length ≤ 900000) :
    Calls Tryz.prog 61 #[.pointer (some ⟨b,0,none⟩),.int .i64 v] w fun e w' => e = .returned (.tuple #[]) ∧ WL w' b (l ++ PitotImg.w 2 v) ∧ w.grownBy w' (some b) :=
  (u16_fit b _ l v w h hf hll).mono fun e w' ⟨h1,h2,h3⟩ => ⟨h1,wl_of h2 (by rw [List.length_append,PitotImg.w_length];omega),h3⟩
theorem u32_wl (b : Nat) (l : List UInt8) (v : Int) (w : World) (h : WL w b l) (hf : PitotImg.fits 4 v) (hll : l.length ≤ 900000) :
    Calls Tryz.prog 63 #[.pointer (some ⟨b,0,none⟩),.int .i64 v] w fun e w' => e = .returned (.tuple #[]) ∧ WL w' b (l ++ PitotImg.w 4 v) ∧ w.grownBy w' (some b) :=
  (u32_fit b _ l v w h hf hll).mono fun e w' ⟨h1,h2,h3⟩ => ⟨h1,wl_of h2 (by rw [List.length_append,PitotImg.w_length];omega),h3⟩
theorem manyW_len2 (xs : List Int) : (PitotImg.manyW (PitotImg.w 2) xs).length = 2 + 2 * xs.length := by
  rw [PitotImg.manyW,List.length_append,PitotImg.w_length,List.length_flatMap]
  have : (xs.map fun a => (PitotImg.w 2 a).length) = List.replicate xs.length 2 := by
    rw [List.eq_replicate_iff]
    exact ⟨by simp,fun x hx => by obtain ⟨y,_,rfl⟩ := List.mem_map.1 hx;exact PitotImg.w_length 2 y⟩
  rw [this];simp [Nat.mul_comm]
theorem winW_len (x : PitotConf.Win) : (PitotImg.winW x).length = 10 := by simp only [PitotImg.winW,List.length_append,PitotImg.w_length]
theorem vlW_len (x : PitotConf.Vl) : (PitotImg.vlW x).length = 13 + 2 * x.to.length := by simp only [PitotImg.vlW,List.length_append,PitotImg.w_length,manyW_len2];omega
theorem prtW_len (x : PitotConf.Prt) : (PitotImg.prtW x).length = 25 := by simp only [PitotImg.prtW,List.length_append,PitotImg.w_length]
set_option maxHeartbeats 2000000 in
theorem cW_any (b kb : Nat) (l : List UInt8) (x : Wn) (w : World) (hW : WL w b l) (hK : w.heap[kb]? = some (.cells #[.pointer (some ⟨b,0,none⟩)] 68)) (hf : PitotImg.fits 2 x.part ∧ PitotImg.fits 4 x.beg ∧ PitotImg.fits 4 x.long) (hll : l.length ≤ 600000) :
    Calls Tryz.prog 65 #[x.val,.pointer (some ⟨kb,0,none⟩)] w fun e w' => e = .returned (.tuple #[]) ∧ WL w' b (l ++ PitotImg.winW x.pl) ∧ w.grownBy w' (some b) := by
  have HC := Lib.hid ((win_any b l.length l x.part x.beg x.long (w.alloc (.cells #[.int .i64 x.part,.int .i64 x.beg,.int .i64 x.long] 58)) (wl_alloc hW _) hf (by omega)).mono (R' := fun e w' => e = .returned (.tuple #[]) ∧ WL w' b (l ++ PitotImg.winW x.pl) ∧ w.grownBy w' (some b)) fun e w' ⟨h1,h2,h3⟩ => ⟨h1,wl_of h2 (by rw [List.length_append,winW_len];omega),Bi.grown_trans (Bi.grown_alloc _) h3⟩)
  have k0 : (w.alloc (.cells #[.int .i64 x.part,.int .i64 x.beg,.int .i64 x.long] 58)).cell? ⟨kb,0,none⟩ = some (.pointer (some ⟨b,0,none⟩)) := lies_cell (lies_alloc hK _) 0
  clear hW hK hf
  go_enter Tryz.func65,Tryz.ntmps65
  go_wp2_with (go_at_call 66;(with_reducible refine (HC.out).mono ?_);rintro e w2 ⟨rfl,hw2,hg2⟩)
  go_returns
  exact ⟨rfl,hw2,hg2⟩
set_option maxHeartbeats 2000000 in
theorem cV_any (b kb : Nat) (l : List UInt8) (x : Vx) (W0 w : World) (hW : WL w b l) (hK : w.heap[kb]? = some (.cells #[.pointer (some ⟨b,0,none⟩)] 68)) (hT : IntsAt W0 x.toA x.to) (hB : Below W0.heap.size W0 w) (hb : W0.heap.size ≤ b) (hf : PitotImg.vlOk x.pl) (hll : l.length ≤ 600000) :
    Calls Tryz.prog 68 #[x.val,.pointer (some ⟨kb,0,none⟩)] w fun e w' => e = .returned (.tuple #[]) ∧ WL w' b (l ++ PitotImg.vlW x.pl) ∧ w.grownBy w' (some b) := by
  have HC := Lib.hid ((vl_any b l.length l x.id x.host x.bag x.smax x.subs x.skew x.high x.toA x.toc x.to W0 (w.alloc (.cells #[.int .i64 x.id,.int .i64 x.host,.int .i64 x.bag,.int .i64 x.smax,.bool x.high,.int .i64 x.subs,.int .i64 x.skew,.slice x.toA x.to.length x.toc] 60)) (wl_alloc hW _) hT (hB.alloc hB.size _) hb hf (by omega)).mono (R' := fun e w' => e = .returned (.tuple #[]) ∧ WL w' b (l ++ PitotImg.vlW x.pl) ∧ w.grownBy w' (some b)) fun e w' ⟨h1,h2,h3⟩ => ⟨h1,wl_of h2 (by rw [List.length_append,vlW_len];show _ ≤ _ + (13 + 2 * x.to.length);omega),Bi.grown_trans (Bi.grown_alloc _) h3⟩)
  have k0 : (w.alloc (.cells #[.int .i64 x.id,.int .i64 x.host,.int .i64 x.bag,.int .i64 x.smax,.bool x.high,.int .i64 x.subs,.int .i64 x.skew,.slice x.toA x.to.length x.toc] 60)).cell? ⟨kb,0,none⟩ = some (.pointer (some ⟨b,0,none⟩)) := lies_cell (lies_alloc hK _) 0
  clear hW hK hf hT hB
  go_enter Tryz.func68,Tryz.ntmps68
  go_wp2_with (go_at_call 69;(with_reducible refine (HC.out).mono ?_);rintro e w2 ⟨rfl,hw2,hg2⟩)
  go_returns
  exact ⟨rfl,hw2,hg2⟩
set_option maxHeartbeats 2000000 in
theorem cP_any (b kb : Nat) (l : List UInt8) (x : Px) (w : World) (hW : WL w b l) (hK : w.heap[kb]? = some (.cells #[.pointer (some ⟨b,0,none⟩)] 68)) (hf : PitotImg.prtOk x.pl) (hll : l.length ≤ 600000) :
    Calls Tryz.prog 71 #[x.val,.pointer (some ⟨kb,0,none⟩)] w fun e w' => e = .returned (.tuple #[]) ∧ WL w' b (l ++ PitotImg.prtW x.pl) ∧ w.grownBy w' (some b) := by
  have HC := Lib.hid ((prt_any b l.length l x.id x.host x.part x.kind x.vl x.sub x.udp x.size x.depth x.fresh x.out (w.alloc (.cells #[.int .i64 x.id,.int .i64 x.host,.int .i64 x.part,.int .i64 x.kind,.bool x.out,.int .i64 x.vl,.int .i64 x.sub,.int .i64 x.udp,.int .i64 x.size,.int .i64 x.depth,.int .i64 x.fresh] 62)) (wl_alloc hW _) hf (by omega)).mono (R' := fun e w' => e = .returned (.tuple #[]) ∧ WL w' b (l ++ PitotImg.prtW x.pl) ∧ w.grownBy w' (some b)) fun e w' ⟨h1,h2,h3⟩ => ⟨h1,wl_of h2 (by rw [List.length_append,prtW_len];omega),Bi.grown_trans (Bi.grown_alloc _) h3⟩)
  have k0 : (w.alloc (.cells #[.int .i64 x.id,.int .i64 x.host,.int .i64 x.part,.int .i64 x.kind,.bool x.out,.int .i64 x.vl,.int .i64 x.sub,.int .i64 x.udp,.int .i64 x.size,.int .i64 x.depth,.int .i64 x.fresh] 62)).cell? ⟨kb,0,none⟩ = some (.pointer (some ⟨b,0,none⟩)) := lies_cell (lies_alloc hK _) 0
  clear hW hK hf
  go_enter Tryz.func71,Tryz.ntmps71
  go_wp2_with (go_at_call 72;(with_reducible refine (HC.out).mono ?_);rintro e w2 ⟨rfl,hw2,hg2⟩)
  go_returns
  exact ⟨rfl,hw2,hg2⟩
set_option maxHeartbeats 4000000 in
theorem listlW (b kb : Nat) (l : List UInt8) (A : Option Addr) (m cap : Nat) (xs : List Wn) (W0 w : World) (hW : WL w b l) (hx : WnsAt W0 A xs) (hB : Below W0.heap.size W0 w) (hb : W0.heap.size ≤ b) (hm : xs.length = m) (hlen : m < 65536) (hll : (l ++ PitotImg.manyW (fun x : Wn => PitotImg.winW x.pl) xs).length ≤ 600000)
    (HQ : ∀ i (h : i < xs.length) (l' : List UInt8) (w' : World),w.grownBy w' (some b) → WL w' b l' → l'.length ≤ 600000 → Calls Tryz.prog 65 #[xs[i].val,.pointer (some ⟨kb,0,none⟩)] w' fun e w'' => e = .returned (.tuple #[]) ∧ WL w'' b (l' ++ (fun x : Wn => PitotImg.winW x.pl) xs[i]) ∧ w'.grownBy w'' (some b)) :
    Calls Tryz.prog 64 #[.pointer (some ⟨b,0,none⟩),.slice A m cap,.func (.func 65) #[] #[.pointer (some ⟨kb,0,none⟩)]] w fun e w' => e = .returned (.tuple #[]) ∧ WL w' b (l ++ PitotImg.manyW (fun x : Wn => PitotImg.winW x.pl) xs) ∧ w.grownBy w' (some b) := by
  generalize hE : (fun x : Wn => PitotImg.winW x.pl) = E at HQ hll ⊢
  clear hE
  have HU := Lib.hid (fun (l : List UInt8) (v : Int) (w : World) (h : WL w b l) (hf : PitotImg.fits 2 v) (hll : l.length ≤ 900000) => u16_wl b l v w h hf hll)
  have HW := Lib.hid hW
  have HX := Lib.hid hx
  have HB := Lib.hid hB
  have HM := Lib.hid hm
  have HCL := Lib.hid HQ
  have hf0 : PitotImg.fits 2 (m : Int) := ⟨by omega,by show (m : Int) < 65536;omega⟩
  have HF0 := Lib.hid hf0
  have hmw : PitotImg.manyW E xs = PitotImg.w 2 (m : Int) ++ xs.flatMap E := by rw [PitotImg.manyW,hm]
  rw [hmw] at hll ⊢
  have hln : ∀ k,(l ++ PitotImg.w 2 (m : Int) ++ (xs.take k).flatMap E).length ≤ 600000 := fun k => by
    have h1 : xs.flatMap E = (xs.take k).flatMap E ++ (xs.drop k).flatMap E := by rw [← List.flatMap_append,List.take_append_drop]
    rw [h1] at hll
    simp only [List.length_append] at hll ⊢
    omega
  have hl0 : l.length ≤ 900000 := by rw [List.length_append] at hll;omega
  have HLN := Lib.hid hln
  clear hW hx hB hm hf0 hmw HQ hll hln
  go_enter Tryz.func64,Tryz.ntmps64
  go_wp2_with (go_at_call 61;(with_reducible refine (HU.out l (m : Int) _ HW.out HF0.out hl0).mono ?_);rintro e w1 ⟨rfl,hw1,hg1⟩)
  have HW1 : Hid (WL w1 b (l ++ PitotImg.w 2 (m : Int))) := hw1
  have HG1 := Lib.hid hg1
  clear hw1 hg1 HW
  go_loopw [14] (fun v14 wr => ∃ k : Nat,k ≤ m ∧ v14 = .int .i64 k ∧ Hid (WL wr b (l ++ PitotImg.w 2 (m : Int) ++ (xs.take k).flatMap E)) ∧ Hid (w.grownBy wr (some b))) (fun v14 _ => m - (intOf v14).toNat)
  case atStart => exact ⟨0,Nat.zero_le _,rfl,by have h := HW1.out;show WL _ _ _;simpa using h,HG1⟩
  case round =>
    obtain ⟨k,hk,rfl,ht,hG⟩ := hrel
    by_cases hkm : k < m
    · have hkl : k < xs.length := by rw [HM.out];exact hkm
      have e1 : decide ((k : Int) < (m : Int)) = true := decide_eq_true (by omega)
      have e1' : decide (k < m) = true := decide_eq_true hkm
      obtain ⟨b',off,rfl,hb',hat⟩ := HX.out.get hkl
      have hbl : Below W0.heap.size W0 wr := HB.out.trans (grown_below hG.out hb HB.out.size)
      have hat := hat.below hbl hb'
      have hs : (xs.take (k + 1)).flatMap E = (xs.take k).flatMap E ++ E xs[k] := by
        rw [List.take_succ_eq_append_getElem hkl,List.flatMap_append];simp
      have HS := Lib.hid hs
      have HQ1 := HCL.out k hkl
      clear hs hbl
      generalize xs[k] = x at hat HS HQ1
      have HC := Lib.hid (HQ1 _ (wr.alloc (.cells #[.int .i64 x.part,.int .i64 x.beg,.int .i64 x.long] 58)) (Bi.grown_trans hG.out (Bi.grown_alloc _)) (wl_alloc ht.out _) (HLN.out k))
      have HGA : Hid (w.grownBy (wr.alloc (.cells #[.int .i64 x.part,.int .i64 x.beg,.int .i64 x.long] 58)) (some b)) := Bi.grown_trans hG.out (Bi.grown_alloc _)
      obtain ⟨a0,a1,a2⟩ := hat
      clear ht HQ1
      go_wp2_with (go_at_call 65;(with_reducible refine (HC.out).mono ?_);rintro e w2 ⟨rfl,hw2,hg2⟩)
      have HW2 : Hid (WL w2 b (l ++ PitotImg.w 2 (m : Int) ++ (xs.take (k + 1)).flatMap E)) := by
        show WL _ _ _
        rw [HS.out,← List.append_assoc];exact hw2
      have HG2 := Lib.hid (Bi.grown_trans HGA.out hg2)
      clear hw2 hg2
      go_roundw
      case rel => exact ⟨k + 1,by omega,by go_num,HW2,HG2⟩
      case measure => simp [intOf];omega
    · have e1 : decide ((k : Int) < (m : Int)) = false := decide_eq_false (by omega)
      have e1' : decide (k < m) = false := decide_eq_false hkm
      obtain rfl : k = m := by omega
      go_wp2
      go_returns
      refine ⟨rfl,?_,hG.out⟩
      have h := ht.out
      rw [List.take_of_length_le (by rw [HM.out];exact Nat.le_refl _)] at h
      rw [← List.append_assoc]
      exact h
set_option maxHeartbeats 4000000 in
theorem listlV (b kb : Nat) (l : List UInt8) (A : Option Addr) (m cap : Nat) (xs : List Vx) (W0 w : World) (hW : WL w b l) (hx : VxsAt W0 A xs) (hB : Below W0.heap.size W0 w) (hb : W0.heap.size ≤ b) (hm : xs.length = m) (hlen : m < 65536) (hll : (l ++ PitotImg.manyW (fun x : Vx => PitotImg.vlW x.pl) xs).length ≤ 600000)
    (HQ : ∀ i (h : i < xs.length) (l' : List UInt8) (w' : World),w.grownBy w' (some b) → WL w' b l' → l'.length ≤ 600000 → Calls Tryz.prog 68 #[xs[i].val,.pointer (some ⟨kb,0,none⟩)] w' fun e w'' => e = .returned (.tuple #[]) ∧ WL w'' b (l' ++ (fun x : Vx => PitotImg.vlW x.pl) xs[i]) ∧ w'.grownBy w'' (some b)) :
    Calls Tryz.prog 67 #[.pointer (some ⟨b,0,none⟩),.slice A m cap,.func (.func 68) #[] #[.pointer (some ⟨kb,0,none⟩)]] w fun e w' => e = .returned (.tuple #[]) ∧ WL w' b (l ++ PitotImg.manyW (fun x : Vx => PitotImg.vlW x.pl) xs) ∧ w.grownBy w' (some b) := by
  generalize hE : (fun x : Vx => PitotImg.vlW x.pl) = E at HQ hll ⊢
  clear hE
  have HU := Lib.hid (fun (l : List UInt8) (v : Int) (w : World) (h : WL w b l) (hf : PitotImg.fits 2 v) (hll : l.length ≤ 900000) => u16_wl b l v w h hf hll)
  have HW := Lib.hid hW
  have HX := Lib.hid hx
  have HB := Lib.hid hB
  have HM := Lib.hid hm
  have HCL := Lib.hid HQ
  have hf0 : PitotImg.fits 2 (m : Int) := ⟨by omega,by show (m : Int) < 65536;omega⟩
  have HF0 := Lib.hid hf0
  have hmw : PitotImg.manyW E xs = PitotImg.w 2 (m : Int) ++ xs.flatMap E := by rw [PitotImg.manyW,hm]
  rw [hmw] at hll ⊢
  have hln : ∀ k,(l ++ PitotImg.w 2 (m : Int) ++ (xs.take k).flatMap E).length ≤ 600000 := fun k => by
    have h1 : xs.flatMap E = (xs.take k).flatMap E ++ (xs.drop k).flatMap E := by rw [← List.flatMap_append,List.take_append_drop]
    rw [h1] at hll
    simp only [List.length_append] at hll ⊢
    omega
  have hl0 : l.length ≤ 900000 := by rw [List.length_append] at hll;omega
  have HLN := Lib.hid hln
  clear hW hx hB hm hf0 hmw HQ hll hln
  go_enter Tryz.func67,Tryz.ntmps67
  go_wp2_with (go_at_call 61;(with_reducible refine (HU.out l (m : Int) _ HW.out HF0.out hl0).mono ?_);rintro e w1 ⟨rfl,hw1,hg1⟩)
  have HW1 : Hid (WL w1 b (l ++ PitotImg.w 2 (m : Int))) := hw1
  have HG1 := Lib.hid hg1
  clear hw1 hg1 HW
  go_loopw [14] (fun v14 wr => ∃ k : Nat,k ≤ m ∧ v14 = .int .i64 k ∧ Hid (WL wr b (l ++ PitotImg.w 2 (m : Int) ++ (xs.take k).flatMap E)) ∧ Hid (w.grownBy wr (some b))) (fun v14 _ => m - (intOf v14).toNat)
  case atStart => exact ⟨0,Nat.zero_le _,rfl,by have h := HW1.out;show WL _ _ _;simpa using h,HG1⟩
  case round =>
    obtain ⟨k,hk,rfl,ht,hG⟩ := hrel
    by_cases hkm : k < m
    · have hkl : k < xs.length := by rw [HM.out];exact hkm
      have e1 : decide ((k : Int) < (m : Int)) = true := decide_eq_true (by omega)
      have e1' : decide (k < m) = true := decide_eq_true hkm
      obtain ⟨b',off,rfl,hb',hat,hto⟩ := HX.out.get hkl
      have hbl : Below W0.heap.size W0 wr := HB.out.trans (grown_below hG.out hb HB.out.size)
      have hat := hat.below hbl hb'
      have hs : (xs.take (k + 1)).flatMap E = (xs.take k).flatMap E ++ E xs[k] := by
        rw [List.take_succ_eq_append_getElem hkl,List.flatMap_append];simp
      have HS := Lib.hid hs
      have HQ1 := HCL.out k hkl
      clear hs hbl
      generalize xs[k] = x at hat HS HQ1
      have HC := Lib.hid (HQ1 _ (wr.alloc (.cells #[.int .i64 x.id,.int .i64 x.host,.int .i64 x.bag,.int .i64 x.smax,.bool x.high,.int .i64 x.subs,.int .i64 x.skew,.slice x.toA x.to.length x.toc] 60)) (Bi.grown_trans hG.out (Bi.grown_alloc _)) (wl_alloc ht.out _) (HLN.out k))
      have HGA : Hid (w.grownBy (wr.alloc (.cells #[.int .i64 x.id,.int .i64 x.host,.int .i64 x.bag,.int .i64 x.smax,.bool x.high,.int .i64 x.subs,.int .i64 x.skew,.slice x.toA x.to.length x.toc] 60)) (some b)) := Bi.grown_trans hG.out (Bi.grown_alloc _)
      obtain ⟨a0,a1,a2,a3,a4,a5,a6,a7⟩ := hat
      clear ht HQ1
      go_wp2_with (go_at_call 68;(with_reducible refine (HC.out).mono ?_);rintro e w2 ⟨rfl,hw2,hg2⟩)
      have HW2 : Hid (WL w2 b (l ++ PitotImg.w 2 (m : Int) ++ (xs.take (k + 1)).flatMap E)) := by
        show WL _ _ _
        rw [HS.out,← List.append_assoc];exact hw2
      have HG2 := Lib.hid (Bi.grown_trans HGA.out hg2)
      clear hw2 hg2
      go_roundw
      case rel => exact ⟨k + 1,by omega,by go_num,HW2,HG2⟩
      case measure => simp [intOf];omega
    · have e1 : decide ((k : Int) < (m : Int)) = false := decide_eq_false (by omega)
      have e1' : decide (k < m) = false := decide_eq_false hkm
      obtain rfl : k = m := by omega
      go_wp2
      go_returns
      refine ⟨rfl,?_,hG.out⟩
      have h := ht.out
      rw [List.take_of_length_le (by rw [HM.out];exact Nat.le_refl _)] at h
      rw [← List.append_assoc]
      exact h
set_option maxHeartbeats 4000000 in
theorem listlP (b kb : Nat) (l : List UInt8) (A : Option Addr) (m cap : Nat) (xs : List Px) (W0 w : World) (hW : WL w b l) (hx : PxsAt W0 A xs) (hB : Below W0.heap.size W0 w) (hb : W0.heap.size ≤ b) (hm : xs.length = m) (hlen : m < 65536) (hll : (l ++ PitotImg.manyW (fun x : Px => PitotImg.prtW x.pl) xs).length ≤ 600000)
    (HQ : ∀ i (h : i < xs.length) (l' : List UInt8) (w' : World),w.grownBy w' (some b) → WL w' b l' → l'.length ≤ 600000 → Calls Tryz.prog 71 #[xs[i].val,.pointer (some ⟨kb,0,none⟩)] w' fun e w'' => e = .returned (.tuple #[]) ∧ WL w'' b (l' ++ (fun x : Px => PitotImg.prtW x.pl) xs[i]) ∧ w'.grownBy w'' (some b)) :
    Calls Tryz.prog 70 #[.pointer (some ⟨b,0,none⟩),.slice A m cap,.func (.func 71) #[] #[.pointer (some ⟨kb,0,none⟩)]] w fun e w' => e = .returned (.tuple #[]) ∧ WL w' b (l ++ PitotImg.manyW (fun x : Px => PitotImg.prtW x.pl) xs) ∧ w.grownBy w' (some b) := by
  generalize hE : (fun x : Px => PitotImg.prtW x.pl) = E at HQ hll ⊢
  clear hE
  have HU := Lib.hid (fun (l : List UInt8) (v : Int) (w : World) (h : WL w b l) (hf : PitotImg.fits 2 v) (hll : l.length ≤ 900000) => u16_wl b l v w h hf hll)
  have HW := Lib.hid hW
  have HX := Lib.hid hx
  have HB := Lib.hid hB
  have HM := Lib.hid hm
  have HCL := Lib.hid HQ
  have hf0 : PitotImg.fits 2 (m : Int) := ⟨by omega,by show (m : Int) < 65536;omega⟩
  have HF0 := Lib.hid hf0
  have hmw : PitotImg.manyW E xs = PitotImg.w 2 (m : Int) ++ xs.flatMap E := by rw [PitotImg.manyW,hm]
  rw [hmw] at hll ⊢
  have hln : ∀ k,(l ++ PitotImg.w 2 (m : Int) ++ (xs.take k).flatMap E).length ≤ 600000 := fun k => by
    have h1 : xs.flatMap E = (xs.take k).flatMap E ++ (xs.drop k).flatMap E := by rw [← List.flatMap_append,List.take_append_drop]
    rw [h1] at hll
    simp only [List.length_append] at hll ⊢
    omega
  have hl0 : l.length ≤ 900000 := by rw [List.length_append] at hll;omega
  have HLN := Lib.hid hln
  clear hW hx hB hm hf0 hmw HQ hll hln
  go_enter Tryz.func70,Tryz.ntmps70
  go_wp2_with (go_at_call 61;(with_reducible refine (HU.out l (m : Int) _ HW.out HF0.out hl0).mono ?_);rintro e w1 ⟨rfl,hw1,hg1⟩)
  have HW1 : Hid (WL w1 b (l ++ PitotImg.w 2 (m : Int))) := hw1
  have HG1 := Lib.hid hg1
  clear hw1 hg1 HW
  go_loopw [14] (fun v14 wr => ∃ k : Nat,k ≤ m ∧ v14 = .int .i64 k ∧ Hid (WL wr b (l ++ PitotImg.w 2 (m : Int) ++ (xs.take k).flatMap E)) ∧ Hid (w.grownBy wr (some b))) (fun v14 _ => m - (intOf v14).toNat)
  case atStart => exact ⟨0,Nat.zero_le _,rfl,by have h := HW1.out;show WL _ _ _;simpa using h,HG1⟩
  case round =>
    obtain ⟨k,hk,rfl,ht,hG⟩ := hrel
    by_cases hkm : k < m
    · have hkl : k < xs.length := by rw [HM.out];exact hkm
      have e1 : decide ((k : Int) < (m : Int)) = true := decide_eq_true (by omega)
      have e1' : decide (k < m) = true := decide_eq_true hkm
      obtain ⟨b',off,rfl,hb',hat⟩ := HX.out.get hkl
      have hbl : Below W0.heap.size W0 wr := HB.out.trans (grown_below hG.out hb HB.out.size)
      have hat := hat.below hbl hb'
      have hs : (xs.take (k + 1)).flatMap E = (xs.take k).flatMap E ++ E xs[k] := by
        rw [List.take_succ_eq_append_getElem hkl,List.flatMap_append];simp
      have HS := Lib.hid hs
      have HQ1 := HCL.out k hkl
      clear hs hbl
      generalize xs[k] = x at hat HS HQ1
      have HC := Lib.hid (HQ1 _ (wr.alloc (.cells #[.int .i64 x.id,.int .i64 x.host,.int .i64 x.part,.int .i64 x.kind,.bool x.out,.int .i64 x.vl,.int .i64 x.sub,.int .i64 x.udp,.int .i64 x.size,.int .i64 x.depth,.int .i64 x.fresh] 62)) (Bi.grown_trans hG.out (Bi.grown_alloc _)) (wl_alloc ht.out _) (HLN.out k))
      have HGA : Hid (w.grownBy (wr.alloc (.cells #[.int .i64 x.id,.int .i64 x.host,.int .i64 x.part,.int .i64 x.kind,.bool x.out,.int .i64 x.vl,.int .i64 x.sub,.int .i64 x.udp,.int .i64 x.size,.int .i64 x.depth,.int .i64 x.fresh] 62)) (some b)) := Bi.grown_trans hG.out (Bi.grown_alloc _)
      obtain ⟨a0,a1,a2,a3,a4,a5,a6,a7,a8,a9,a10⟩ := hat
      clear ht HQ1
      go_wp2_with (go_at_call 71;(with_reducible refine (HC.out).mono ?_);rintro e w2 ⟨rfl,hw2,hg2⟩)
      have HW2 : Hid (WL w2 b (l ++ PitotImg.w 2 (m : Int) ++ (xs.take (k + 1)).flatMap E)) := by
        show WL _ _ _
        rw [HS.out,← List.append_assoc];exact hw2
      have HG2 := Lib.hid (Bi.grown_trans HGA.out hg2)
      clear hw2 hg2
      go_roundw
      case rel => exact ⟨k + 1,by omega,by go_num,HW2,HG2⟩
      case measure => simp [intOf];omega
    · have e1 : decide ((k : Int) < (m : Int)) = false := decide_eq_false (by omega)
      have e1' : decide (k < m) = false := decide_eq_false hkm
      obtain rfl : k = m := by omega
      go_wp2
      go_returns
      refine ⟨rfl,?_,hG.out⟩
      have h := ht.out
      rw [List.take_of_length_le (by rw [HM.out];exact Nat.le_refl _)] at h
      rw [← List.append_assoc]
      exact h
end Go.Proofs.YtdgkanamceeheaaGreat.Im
