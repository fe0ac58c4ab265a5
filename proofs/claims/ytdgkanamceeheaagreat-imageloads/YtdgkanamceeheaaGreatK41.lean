/- What is judged of what was read; a text's beginning cut. Contracts of moved (the program's) and Take, Go (the document's). -/
import Derived.Test.YtdgkanamceeheaaGreatK40
import Derived.Test.YtdgkanamceeheaaGreatK29
import Derived.Test.YtdgkanamceeheaaGreatK14
import Derived.Test.YtdgkanamceeheaaGreatK1
import Derived.Test.YtdgkanamceeheaaGreatRows
import Derived.WalkKit
import Derived.WalkSpells
import Derived.WalkLawsBesides
import Derived.BigQuiet
import Derived.Laws.BitsAllLaws
import Derived.Laws.BitsLemmas
import Derived.Deep.QuietTactic
import Derived.Lib.Hide
import Derived.Handy
set_option linter.unusedVariables false
set_option maxRecDepth 100000
set_option linter.unusedVariables false
namespace Go.Proofs.YtdgkanamceeheaaGreat.Im
open Go.RowKit
open PitotImg (St rd)
theorem zero_fault (w : World) : (zeroValue 38).run Tryz.prog w = .ok (.agg #[.int .i64 0,.int .i64 0]) w := by kernel_rfl
set_option maxHeartbeats 4000000 in
theorem judge_err (p r : Nat) (x v : Int) (σ : St) (hosts major : Int) (PA WA VA QA : Option Addr) (pl pcap wl wcap vl vcap ql qcap : Nat) (w : World) (h : PS w p r x σ) (hv : pe x σ = v) (hz : v ≠ 0) : Calls Tryz.prog 18 #[.pointer (some ⟨p,0,none⟩),.agg #[.int .i64 hosts,.slice PA pl pcap,.int .i64 major,.slice WA wl wcap,.slice VA vl vcap,.slice QA ql qcap]] w fun e w' => e = .returned (.int .i64 v) ∧ Below w.heap.size w w' := by
  have HE : Hid (Calls Tryz.prog 50 #[.pointer (some ⟨p,0,none⟩)] (w.alloc (.cells #[.int .i64 hosts,.slice PA pl pcap,.int .i64 major,.slice WA wl wcap,.slice VA vl vcap,.slice QA ql qcap] 28)) fun e w' => e = .returned (.int .i64 v) ∧ w.alloc (.cells #[.int .i64 hosts,.slice PA pl pcap,.int .i64 major,.slice WA wl wcap,.slice VA vl vcap,.slice QA ql qcap] 28) = w') := by
    have := perr_any p r x σ (w.alloc (.cells #[.int .i64 hosts,.slice PA pl pcap,.int .i64 major,.slice WA wl wcap,.slice VA vl vcap,.slice QA ql qcap] 28)) ⟨lies_alloc h.1 _,RS.al h.2 _⟩
    rw [hv] at this
    exact this
  have HB : Hid (Below w.heap.size w (w.alloc (.cells #[.int .i64 hosts,.slice PA pl pcap,.int .i64 major,.slice WA wl wcap,.slice VA vl vcap,.slice QA ql qcap] 28))) := (Below.refl _ w).alloc (Nat.le_refl _) _
  have g1 : (v == 0) = false := by simpa using hz
  have g2 : (v != 0) = true := by simpa using hz
  clear h hv hz
  go_enter Tryz.func18,Tryz.ntmps18
  go_wp2_with (go_at_call 50;(with_reducible refine (HE.out).mono ?_);rintro e w' ⟨rfl,hw⟩;subst hw)
  go_returns
  exact ⟨rfl,HB.out⟩
theorem below_of2 {B : Nat} {w w2 : World} {o : Obj} (h : Below B w w2) (hs : B ≤ w2.heap.size) : Below B w (w2.alloc o) := h.alloc hs o
set_option maxHeartbeats 4000000 in
theorem judge_ok (p r : Nat) (l : List UInt8) (ce : Int) (hosts major : Int) (PA WA VA QA : Option Addr) (pl pcap wl wcap vl vcap ql qcap : Nat) (a1 a2 : Int) (w : World) (h : PS w p r 0 (some l))
    (hck : Calls Tryz.prog 13 #[.agg #[.int .i64 hosts,.slice PA pl pcap,.int .i64 major,.slice WA wl wcap,.slice VA vl vcap,.slice QA ql qcap]] (w.alloc (.cells #[.int .i64 hosts,.slice PA pl pcap,.int .i64 major,.slice WA wl wcap,.slice VA vl vcap,.slice QA ql qcap] 28)) fun e w' => e = .returned (.tuple #[.agg #[.int .i64 a1,.int .i64 a2],.int .i64 ce]) ∧ Below (w.alloc (.cells #[.int .i64 hosts,.slice PA pl pcap,.int .i64 major,.slice WA wl wcap,.slice VA vl vcap,.slice QA ql qcap] 28)).heap.size (w.alloc (.cells #[.int .i64 hosts,.slice PA pl pcap,.int .i64 major,.slice WA wl wcap,.slice VA vl vcap,.slice QA ql qcap] 28)) w') :
    Calls Tryz.prog 18 #[.pointer (some ⟨p,0,none⟩),.agg #[.int .i64 hosts,.slice PA pl pcap,.int .i64 major,.slice WA wl wcap,.slice VA vl vcap,.slice QA ql qcap]] w fun e w' => e = .returned (.int .i64 (if l = [] then ce else 11)) ∧ Below w.heap.size w w' := by
  have HE : Hid (Calls Tryz.prog 50 #[.pointer (some ⟨p,0,none⟩)] (w.alloc (.cells #[.int .i64 hosts,.slice PA pl pcap,.int .i64 major,.slice WA wl wcap,.slice VA vl vcap,.slice QA ql qcap] 28)) fun e w' => e = .returned (.int .i64 0) ∧ w.alloc (.cells #[.int .i64 hosts,.slice PA pl pcap,.int .i64 major,.slice WA wl wcap,.slice VA vl vcap,.slice QA ql qcap] 28) = w') := perr_any p r 0 (some l) (w.alloc (.cells #[.int .i64 hosts,.slice PA pl pcap,.int .i64 major,.slice WA wl wcap,.slice VA vl vcap,.slice QA ql qcap] 28)) ⟨lies_alloc h.1 _,RS.al h.2 _⟩
  have HL : Hid (Calls Tryz.prog 51 #[.pointer (some ⟨r,0,none⟩)] (w.alloc (.cells #[.int .i64 hosts,.slice PA pl pcap,.int .i64 major,.slice WA wl wcap,.slice VA vl vcap,.slice QA ql qcap] 28)) fun e w' => e = .returned (.int .i64 l.length) ∧ w.alloc (.cells #[.int .i64 hosts,.slice PA pl pcap,.int .i64 major,.slice WA wl wcap,.slice VA vl vcap,.slice QA ql qcap] 28) = w') := Bi.left_any r l 0 _ (RS.al h.2 (.cells #[.int .i64 hosts,.slice PA pl pcap,.int .i64 major,.slice WA wl wcap,.slice VA vl vcap,.slice QA ql qcap] 28)).sm.1
  have HB : Hid (Below w.heap.size w (w.alloc (.cells #[.int .i64 hosts,.slice PA pl pcap,.int .i64 major,.slice WA wl wcap,.slice VA vl vcap,.slice QA ql qcap] 28))) := (Below.refl _ w).alloc (Nat.le_refl _) _
  have c0 : (w.alloc (.cells #[.int .i64 hosts,.slice PA pl pcap,.int .i64 major,.slice WA wl wcap,.slice VA vl vcap,.slice QA ql qcap] 28)).cell? ⟨p,0,none⟩ = some (.pointer (some ⟨r,0,none⟩)) := lies_cell (lies_alloc h.1 _) 0
  have HSZ : Hid (w.heap.size ≤ (w.alloc (.cells #[.int .i64 hosts,.slice PA pl pcap,.int .i64 major,.slice WA wl wcap,.slice VA vl vcap,.slice QA ql qcap] 28)).heap.size) := by show _ ≤ _;simp
  have HX : Hid ((w.alloc (.cells #[.int .i64 hosts,.slice PA pl pcap,.int .i64 major,.slice WA wl wcap,.slice VA vl vcap,.slice QA ql qcap] 28)).heap[w.heap.size]? = some (.cells #[.int .i64 hosts,.slice PA pl pcap,.int .i64 major,.slice WA wl wcap,.slice VA vl vcap,.slice QA ql qcap] 28)) := heap_alloc_new w _
  have HCK := Lib.hid hck
  have hzf := zero_fault
  clear h hck
  go_enter Tryz.func18,Tryz.ntmps18
  go_upto_region 1 with (fail)
  obtain ⟨W1,hW1⟩ : ∃ W,w.alloc (.cells #[.int .i64 hosts,.slice PA pl pcap,.int .i64 major,.slice WA wl wcap,.slice VA vl vcap,.slice QA ql qcap] 28) = W := ⟨_,rfl⟩
  rw [hW1] at HE HL HB c0 HSZ HX HCK ⊢
  clear hW1
  obtain ⟨xb,hxb⟩ : ∃ n,w.heap.size = n := ⟨_,rfl⟩
  rw [hxb] at HX HB HSZ ⊢
  have HXB := Lib.hid hxb
  clear hxb
  obtain ⟨x0,x1,x2,x3,x4,x5⟩ := cells_6 HX.out
  by_cases hl : l = []
  · subst hl
    have HL : Hid (Calls Tryz.prog 51 #[.pointer (some ⟨r,0,none⟩)] W1 fun e w' => e = .returned (.int .i64 0) ∧ W1 = w') := HL.out
    go_wp2_with (first
      | (go_at_call 50;(with_reducible refine (HE.out).mono ?_);rintro e w' ⟨rfl,rfl⟩)
      | (go_at_call 51;(with_reducible refine (HL.out).mono ?_);rintro e w' ⟨rfl,rfl⟩)
      | (go_at_call 13;(with_reducible refine (HCK.out).mono ?_);rintro e w2 ⟨rfl,hb2⟩
         (have HB2 := Lib.hid (HB.out.trans (hb2.mono HSZ.out)))
         (have HS2 := Lib.hid (Nat.le_trans HSZ.out hb2.size))
         (clear hb2)))
    go_returns
    rw [HXB.out]
    exact ⟨by simp,below_of2 HB2.out HS2.out⟩
  · have hp : 0 < l.length := by
      cases l with
      | nil => exact absurd rfl hl
      | cons a b => simp
    have e1 : decide ((0 : Int) < (l.length : Int)) = true := decide_eq_true (by omega)
    have e1' : decide (0 < l.length) = true := decide_eq_true hp
    have HLN := Lib.hid hl
    clear hl
    go_wp2_with (first
      | (go_at_call 50;(with_reducible refine (HE.out).mono ?_);rintro e w' ⟨rfl,rfl⟩)
      | (go_at_call 51;(with_reducible refine (HL.out).mono ?_);rintro e w' ⟨rfl,rfl⟩))
    go_returns
    rw [HXB.out]
    exact ⟨by first | rfl | (rw [if_neg HLN.out];rfl),HB.out⟩
set_option maxHeartbeats 4000000 in
theorem judge_ok11 (p r : Nat) (l : List UInt8) (hosts major : Int) (PA WA VA QA : Option Addr) (pl pcap wl wcap vl vcap ql qcap : Nat) (w : World) (h : PS w p r 0 (some l)) (hl : l ≠ []) : Calls Tryz.prog 18 #[.pointer (some ⟨p,0,none⟩),.agg #[.int .i64 hosts,.slice PA pl pcap,.int .i64 major,.slice WA wl wcap,.slice VA vl vcap,.slice QA ql qcap]] w fun e w' => e = .returned (.int .i64 11) ∧ Below w.heap.size w w' := by
  have HE : Hid (Calls Tryz.prog 50 #[.pointer (some ⟨p,0,none⟩)] (w.alloc (.cells #[.int .i64 hosts,.slice PA pl pcap,.int .i64 major,.slice WA wl wcap,.slice VA vl vcap,.slice QA ql qcap] 28)) fun e w' => e = .returned (.int .i64 0) ∧ w.alloc (.cells #[.int .i64 hosts,.slice PA pl pcap,.int .i64 major,.slice WA wl wcap,.slice VA vl vcap,.slice QA ql qcap] 28) = w') := perr_any p r 0 (some l) (w.alloc (.cells #[.int .i64 hosts,.slice PA pl pcap,.int .i64 major,.slice WA wl wcap,.slice VA vl vcap,.slice QA ql qcap] 28)) ⟨lies_alloc h.1 _,RS.al h.2 _⟩
  have HL : Hid (Calls Tryz.prog 51 #[.pointer (some ⟨r,0,none⟩)] (w.alloc (.cells #[.int .i64 hosts,.slice PA pl pcap,.int .i64 major,.slice WA wl wcap,.slice VA vl vcap,.slice QA ql qcap] 28)) fun e w' => e = .returned (.int .i64 l.length) ∧ w.alloc (.cells #[.int .i64 hosts,.slice PA pl pcap,.int .i64 major,.slice WA wl wcap,.slice VA vl vcap,.slice QA ql qcap] 28) = w') := Bi.left_any r l 0 _ (RS.al h.2 (.cells #[.int .i64 hosts,.slice PA pl pcap,.int .i64 major,.slice WA wl wcap,.slice VA vl vcap,.slice QA ql qcap] 28)).sm.1
  have HB : Hid (Below w.heap.size w (w.alloc (.cells #[.int .i64 hosts,.slice PA pl pcap,.int .i64 major,.slice WA wl wcap,.slice VA vl vcap,.slice QA ql qcap] 28))) := (Below.refl _ w).alloc (Nat.le_refl _) _
  have c0 : (w.alloc (.cells #[.int .i64 hosts,.slice PA pl pcap,.int .i64 major,.slice WA wl wcap,.slice VA vl vcap,.slice QA ql qcap] 28)).cell? ⟨p,0,none⟩ = some (.pointer (some ⟨r,0,none⟩)) := lies_cell (lies_alloc h.1 _) 0
  have hp : 0 < l.length := by
    cases l with
    | nil => exact absurd rfl hl
    | cons a b => simp
  have e1 : decide ((0 : Int) < (l.length : Int)) = true := decide_eq_true (by omega)
  have e1' : decide (0 < l.length) = true := decide_eq_true hp
  clear h hl
  go_enter Tryz.func18,Tryz.ntmps18
  go_wp2_with (first
    | (go_at_call 50;(with_reducible refine (HE.out).mono ?_);rintro e w' ⟨rfl,hw⟩;subst hw)
    | (go_at_call 51;(with_reducible refine (HL.out).mono ?_);rintro e w' ⟨rfl,hw⟩;subst hw))
  go_returns
  exact ⟨rfl,HB.out⟩
set_option maxHeartbeats 2000000 in
theorem hasP_any (T M : ByteArray) (m : Nat) (q : Bool) (hm : M.size = m) (h6 : m ≤ T.size) (hT : T.size ≤ 1000000) (hq : ((T.extract 0 m).toList == M.toList) = q) (w : World) : Calls Tryz.prog 83 #[.string T,.string M] w fun e w' => e = .returned (.bool q) ∧ w = w' := by
  obtain ⟨H,hH⟩ : ∃ H,T.extract 0 m = H := ⟨_,rfl⟩
  rw [hH] at hq
  have g1 : (m : Int) ≤ (T.size : Int) := by omega
  have g2 : decide ((T.size : Int) < (m : Int)) = false := decide_eq_false (by omega)
  have g3 : decide ((m : Int) ≤ (T.size : Int)) = true := decide_eq_true (by omega)
  have g3' : decide (m ≤ T.size) = true := decide_eq_true (by omega)
  go_enter Tryz.func83,Tryz.ntmps83
  go_wp2
  go_returns
  exact ⟨rfl,rfl⟩
set_option maxHeartbeats 2000000 in
theorem cutP_any (T M : ByteArray) (m : Nat) (q : Bool) (hm : M.size = m) (h6 : m ≤ T.size) (hT : T.size ≤ 1000000) (hq : ((T.extract 0 m).toList == M.toList) = q) (w : World) : Calls Tryz.prog 15 #[.string T,.string M] w fun e w' => e = .returned (.tuple #[.string (if q = true then T.extract m T.size else T),.bool q]) ∧ w = w' := by
  have HH := Lib.hid (hasP_any T M m q hm h6 hT hq)
  have key : Hid (∀ w,Calls Tryz.prog 37 #[.string T,.string M] w fun e w' => e = .returned (.tuple #[.string (if q = true then T.extract m T.size else T),.bool q]) ∧ w = w') := fun w => by
    obtain ⟨X,hX⟩ : ∃ X,T.extract m T.size = X := ⟨_,rfl⟩
    rw [hX]
    clear hq
    have g1 : (m : Int) ≤ (T.size : Int) := by omega
    cases q
    · go_enter Tryz.func37,Tryz.ntmps37
      go_wp2_with (go_at_call 83;(with_reducible refine (HH.out _).mono ?_);rintro e w' ⟨rfl,rfl⟩)
      go_returns
      exact ⟨rfl,rfl⟩
    · go_enter Tryz.func37,Tryz.ntmps37
      go_wp2_with (go_at_call 83;(with_reducible refine (HH.out _).mono ?_);rintro e w' ⟨rfl,rfl⟩)
      go_returns
      exact ⟨rfl,rfl⟩
  obtain ⟨Y,hY⟩ : ∃ Y,(if q = true then T.extract m T.size else T) = Y := ⟨_,rfl⟩
  rw [hY] at key ⊢
  clear hq hY HH
  go_enter Tryz.func15,Tryz.ntmps15
  go_wp2_with (go_at_call 37;(with_reducible refine (key.out _).mono ?_);rintro e w' ⟨rfl,rfl⟩)
  go_returns
  exact ⟨rfl,rfl⟩
end Go.Proofs.YtdgkanamceeheaaGreat.Im
namespace Go.Proofs.YtdgkanamceeheaaGreat.Cr
open Go.RowKit Go.Proofs.PitotCrc
theorem take_snoc (s : ByteArray) (k : Nat) (h : k < s.size) : s.data.toList.take (k + 1) = s.data.toList.take k ++ [s[k]] := by
  rw [List.take_succ_eq_append_getElem (by simpa using h)];rfl
theorem ret_int {k : IntKind} {a b : Int} (h : a = b) : Ending.returned (.int k a) = .returned (.int k b) := by rw [h]
theorem val_int {k : IntKind} {a b : Int} (h : a = b) : Value.int k a = .int k b := by rw [h]
theorem ret_bool {a b : Bool} (h : a = b) : Ending.returned (.bool a) = .returned (.bool b) := by rw [h]
theorem and_one (c : Nat) (h : c < 4294967296) : bits .and .u32 (c : Int) 1 = ((c % 2 : Nat) : Int) := by
  rw [show (1 : Int) = ((1 : Nat) : Int) from rfl,u32_and_nat c 1 (by omega) (by omega),Nat.and_one_is_mod]
theorem xor_poly (c : Nat) (h : c < 4294967296) : bits .xor .u32 ((c : Int) / 2) 3988292384 = (((c / 2) ^^^ 3988292384 : Nat) : Int) := by
  rw [show (3988292384 : Int) = ((3988292384 : Nat) : Int) from rfl,show (c : Int) / 2 = ((c / 2 : Nat) : Int) by omega,u32_xor_nat (c / 2) 3988292384 (by omega) (by omega)]
theorem st_odd (c : Nat) (h : c < 4294967296) (e : c % 2 = 1) : bits .xor .u32 ((c : Int) / 2) 3988292384 = (st c : Nat) := by
  rw [xor_poly c h];unfold st;rw [if_pos e]
theorem st_ev (c : Nat) (e : ¬ c % 2 = 1) : (c : Int) / 2 = (st c : Nat) := by
  unfold st;rw [if_neg e];omega
set_option maxHeartbeats 400000 in
theorem moved_any (c : Nat) (w : World) (hc : c < 4294967296) :
    Calls Tryz.prog 110 #[.int .u32 c] w fun e w' => e = .returned (.int .u32 (mv c : Nat)) ∧ w = w' := by
  obtain ⟨R,HR⟩ : ∃ R,Hid (R = mv c) := ⟨_,rfl⟩
  rw [← HR.out]
  go_enter Tryz.func110,Tryz.ntmps110
  go_wp2
  go_loop [0,3] (fun n i => ∃ (k : Nat) (x : Nat),k ≤ 8 ∧ i = .int .i64 k ∧ n = .int .u32 x ∧ x < 4294967296 ∧ Hid (x = sts k c)) (fun _ i => 8 - (intOf i).toNat)
  case atStart => exact ⟨0,c,Nat.zero_le _,rfl,rfl,hc,rfl⟩
  case round =>
    obtain ⟨k,x,hk,rfl,rfl,hx,Hx⟩ := hrel
    by_cases hlt : k < 8
    · by_cases ho : x % 2 = 1
      · have h1 : (bits .and .u32 (x : Int) 1 == 1) = true := by rw [and_one x hx,ho];rfl
        go_wp2
        go_round
        case rel => exact ⟨k + 1,st x,by omega,by go_num,val_int (by first | exact st_odd x hx ho),st_lt x hx,by show _ = _;rw [Hx.out];rfl⟩
        case measure => simp [intOf];omega
      · have h1 : (bits .and .u32 (x : Int) 1 == 1) = false := by rw [and_one x hx];simp;omega
        go_wp2
        go_round
        case rel => exact ⟨k + 1,st x,by omega,by go_num,val_int (by first | exact st_ev x ho),st_lt x hx,by show _ = _;rw [Hx.out];rfl⟩
        case measure => simp [intOf];omega
    · go_wp2
      go_returns
      exact ⟨ret_int (by rw [HR.out,Hx.out,show k = 8 by omega];rfl),rfl⟩
set_option maxHeartbeats 400000 in
theorem take_any (c : Nat) (b : UInt8) (w : World) (hc : c < 4294967296) :
    Calls Tryz.prog 127 #[.int .u32 c,.int .u8 b.toNat] w fun e w' => e = .returned (.int .u32 (tk c b : Nat)) ∧ w = w' := by
  have hb := b.toNat_lt
  have e1 : bits .xor .u32 (c : Int) (b.toNat : Int) = ((c ^^^ b.toNat : Nat) : Int) := u32_xor_nat c b.toNat hc (by omega)
  have hd : c ^^^ b.toNat < 4294967296 := Nat.xor_lt_two_pow (n := 32) hc (by omega)
  obtain ⟨R,HR⟩ : ∃ R,Hid (R = tk c b) := ⟨_,rfl⟩
  rw [← HR.out]
  obtain ⟨d,Hd⟩ : ∃ d,Hid (d = c ^^^ b.toNat) := ⟨_,rfl⟩
  rw [← Hd.out] at e1 hd
  go_enter Tryz.func127,Tryz.ntmps127
  go_wp2
  clear e1
  go_loop [0,5] (fun n i => ∃ (k : Nat) (x : Nat),k ≤ 8 ∧ i = .int .i64 k ∧ n = .int .u32 x ∧ x < 4294967296 ∧ Hid (x = sts k d)) (fun _ i => 8 - (intOf i).toNat)
  case atStart => exact ⟨0,d,Nat.zero_le _,rfl,rfl,hd,rfl⟩
  case round =>
    obtain ⟨k,x,hk,rfl,rfl,hx,Hx⟩ := hrel
    by_cases hlt : k < 8
    · by_cases ho : x % 2 = 1
      · have h1 : ((x : Int) % 2 == 1) = true := by simp;omega
        go_wp2
        go_round
        case rel => exact ⟨k + 1,st x,by omega,by go_num,val_int (by first | exact st_odd x hx ho),st_lt x hx,by show _ = _;rw [Hx.out];rfl⟩
        case measure => simp [intOf];omega
      · have h1 : ((x : Int) % 2 == 1) = false := by simp;omega
        go_wp2
        go_round
        case rel => exact ⟨k + 1,st x,by omega,by go_num,val_int (by first | exact st_ev x ho),st_lt x hx,by show _ = _;rw [Hx.out];rfl⟩
        case measure => simp [intOf];omega
    · go_wp2
      go_returns
      exact ⟨ret_int (by rw [HR.out,Hx.out,show k = 8 by omega,Hd.out];rfl),rfl⟩
set_option maxHeartbeats 400000 in
theorem refGo_any (c : Nat) (s : ByteArray) (w : World) (hc : c < 4294967296) (hs : s.size ≤ 100000) :
    Calls Tryz.prog 113 #[.int .u32 c,.string s] w fun e w' => e = .returned (.int .u32 (go c s.data.toList : Nat)) ∧ w = w' := by
  obtain ⟨R,HR⟩ : ∃ R,Hid (R = go c s.data.toList) := ⟨_,rfl⟩
  rw [← HR.out]
  go_enter Tryz.func113,Tryz.ntmps113
  go_wp2
  go_loop [0,5] (fun n i => ∃ (k : Nat) (x : Nat),k ≤ s.size ∧ i = .int .i64 k ∧ n = .int .u32 x ∧ x < 4294967296 ∧ Hid (x = go c (s.data.toList.take k))) (fun _ i => s.size - (intOf i).toNat)
  case atStart => exact ⟨0,c,Nat.zero_le _,rfl,rfl,hc,rfl⟩
  case round =>
    obtain ⟨k,x,hk,rfl,rfl,hx,Hx⟩ := hrel
    by_cases hlt : k < s.size
    · go_wp2_with (go_at_call 127;refine (take_any x s[k] _ hx).mono ?_;rintro e w' ⟨rfl,rfl⟩)
      go_round
      case rel => exact ⟨k + 1,tk x s[k],by omega,by go_num,rfl,tk_lt _ _ hx,by show _ = _;rw [take_snoc s k hlt,go_snoc,Hx.out]⟩
      case measure => simp [intOf];omega
    · go_wp2
      go_returns
      exact ⟨ret_int (by rw [HR.out,Hx.out,List.take_of_length_le (by simp;omega)]),rfl⟩
theorem not_32 (m : Nat) (h : m < 4294967296) : bits .xor .u32 IntKind.u32.max (m : Int) = ((4294967295 ^^^ m : Nat) : Int) := by
  rw [show IntKind.u32.max = ((4294967295 : Nat) : Int) from by decide,u32_xor_nat 4294967295 m (by omega) (by omega)]
set_option maxHeartbeats 400000 in
theorem refSum_any (s : ByteArray) (w : World) (hs : s.size ≤ 100000) :
    Calls Tryz.prog 91 #[.string s] w fun e w' => e = .returned (.int .u32 (sum s.data.toList : Nat)) ∧ w = w' := by
  have hg := go_lt 4294967295 s.data.toList (by decide)
  have hn := not_32 _ hg
  rw [← sum_go] at hn
  have HN := Lib.hid hn;clear hn
  go_enter Tryz.func91,Tryz.ntmps91
  go_wp2_with (go_at_call 113;refine (refGo_any 4294967295 s _ (by decide) hs).mono ?_;rintro e w' ⟨rfl,rfl⟩)
  go_returns
  exact ⟨ret_int HN.out,rfl⟩
end Go.Proofs.YtdgkanamceeheaaGreat.Cr
