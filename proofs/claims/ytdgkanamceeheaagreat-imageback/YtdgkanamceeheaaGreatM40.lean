/- What is judged of what was read; a text's beginning cut. -/
import Derived.Test.YtdgkanamceeheaaGreatM38
import Derived.Test.YtdgkanamceeheaaGreatM39
set_option linter.unusedVariables false
set_option maxRecDepth 100000
set_option linter.unusedVariables false
namespace Go.Proofs.YtdgkanamceeheaaGreat.Im
open Go.RowKit
open PitotImg (St rd)
/-- The code of an answer. -/
def jc (q : Except Int PitotConf.Cf) : Int := match q with
  | .error k => k
  | .ok _ => 0
theorem zero_fault (w : World) : (zeroValue 38).run Tryz.prog w = .ok (.agg #[.int .i64 0, .int .i64 0]) w := by kernel_rfl
set_option maxHeartbeats 4000000 in
/-- An error of the reader's is told. -/
theorem judge_err (p r : Nat) (x v : Int) (σ : St) (hosts major : Int) (PA WA VA QA : Option Addr) (pl pcap wl wcap vl vcap ql qcap : Nat) (w : World) (h : PS w p r x σ) (hv : pe x σ = v) (hz : v ≠ 0) : Calls Tryz.prog 18 #[.pointer (some ⟨p, 0, none⟩), .agg #[.int .i64 hosts, .slice PA pl pcap, .int .i64 major, .slice WA wl wcap, .slice VA vl vcap, .slice QA ql qcap]] w fun e w' => e = .returned (.int .i64 v) ∧ Below w.heap.size w w' := by
  have HE : Hid (Calls Tryz.prog 50 #[.pointer (some ⟨p, 0, none⟩)] (w.alloc (.cells #[.int .i64 hosts, .slice PA pl pcap, .int .i64 major, .slice WA wl wcap, .slice VA vl vcap, .slice QA ql qcap] 28)) fun e w' => e = .returned (.int .i64 v) ∧ w.alloc (.cells #[.int .i64 hosts, .slice PA pl pcap, .int .i64 major, .slice WA wl wcap, .slice VA vl vcap, .slice QA ql qcap] 28) = w') := by
    have := perr_any p r x σ (w.alloc (.cells #[.int .i64 hosts, .slice PA pl pcap, .int .i64 major, .slice WA wl wcap, .slice VA vl vcap, .slice QA ql qcap] 28)) ⟨lies_alloc h.1 _, RS.al h.2 _⟩
    rw [hv] at this
    exact this
  have HB : Hid (Below w.heap.size w (w.alloc (.cells #[.int .i64 hosts, .slice PA pl pcap, .int .i64 major, .slice WA wl wcap, .slice VA vl vcap, .slice QA ql qcap] 28))) := (Below.refl _ w).alloc (Nat.le_refl _) _
  have g1 : (v == 0) = false := by simpa using hz
  have g2 : (v != 0) = true := by simpa using hz
  clear h hv hz
  go_enter Tryz.func18, Tryz.ntmps18
  go_wp2_with (go_at_call 50; (with_reducible refine (HE.out).mono ?_); rintro e w' ⟨rfl, hw⟩; subst hw)
  go_returns
  exact ⟨rfl, HB.out⟩
theorem below_of2 {B : Nat} {w w2 : World} {o : Obj} (h : Below B w w2) (hs : B ≤ w2.heap.size) : Below B w (w2.alloc o) := h.alloc hs o
set_option maxHeartbeats 4000000 in
/-- Bytes that are left are told; else what Check tells. -/
theorem judge_ok (p r : Nat) (l : List UInt8) (ce : Int) (hosts major : Int) (PA WA VA QA : Option Addr) (pl pcap wl wcap vl vcap ql qcap : Nat) (a1 a2 : Int) (w : World) (h : PS w p r 0 (some l))
    (hck : Calls Tryz.prog 13 #[.agg #[.int .i64 hosts, .slice PA pl pcap, .int .i64 major, .slice WA wl wcap, .slice VA vl vcap, .slice QA ql qcap]] (w.alloc (.cells #[.int .i64 hosts, .slice PA pl pcap, .int .i64 major, .slice WA wl wcap, .slice VA vl vcap, .slice QA ql qcap] 28)) fun e w' => e = .returned (.tuple #[.agg #[.int .i64 a1, .int .i64 a2], .int .i64 ce]) ∧ Below (w.alloc (.cells #[.int .i64 hosts, .slice PA pl pcap, .int .i64 major, .slice WA wl wcap, .slice VA vl vcap, .slice QA ql qcap] 28)).heap.size (w.alloc (.cells #[.int .i64 hosts, .slice PA pl pcap, .int .i64 major, .slice WA wl wcap, .slice VA vl vcap, .slice QA ql qcap] 28)) w') :
    Calls Tryz.prog 18 #[.pointer (some ⟨p, 0, none⟩), .agg #[.int .i64 hosts, .slice PA pl pcap, .int .i64 major, .slice WA wl wcap, .slice VA vl vcap, .slice QA ql qcap]] w fun e w' => e = .returned (.int .i64 (if l = [] then ce else 11)) ∧ Below w.heap.size w w' := by
  have HE : Hid (Calls Tryz.prog 50 #[.pointer (some ⟨p, 0, none⟩)] (w.alloc (.cells #[.int .i64 hosts, .slice PA pl pcap, .int .i64 major, .slice WA wl wcap, .slice VA vl vcap, .slice QA ql qcap] 28)) fun e w' => e = .returned (.int .i64 0) ∧ w.alloc (.cells #[.int .i64 hosts, .slice PA pl pcap, .int .i64 major, .slice WA wl wcap, .slice VA vl vcap, .slice QA ql qcap] 28) = w') := perr_any p r 0 (some l) (w.alloc (.cells #[.int .i64 hosts, .slice PA pl pcap, .int .i64 major, .slice WA wl wcap, .slice VA vl vcap, .slice QA ql qcap] 28)) ⟨lies_alloc h.1 _, RS.al h.2 _⟩
  have HL : Hid (Calls Tryz.prog 51 #[.pointer (some ⟨r, 0, none⟩)] (w.alloc (.cells #[.int .i64 hosts, .slice PA pl pcap, .int .i64 major, .slice WA wl wcap, .slice VA vl vcap, .slice QA ql qcap] 28)) fun e w' => e = .returned (.int .i64 l.length) ∧ w.alloc (.cells #[.int .i64 hosts, .slice PA pl pcap, .int .i64 major, .slice WA wl wcap, .slice VA vl vcap, .slice QA ql qcap] 28) = w') := Bi.left_any r l 0 _ (RS.al h.2 (.cells #[.int .i64 hosts, .slice PA pl pcap, .int .i64 major, .slice WA wl wcap, .slice VA vl vcap, .slice QA ql qcap] 28)).sm.1
  have HB : Hid (Below w.heap.size w (w.alloc (.cells #[.int .i64 hosts, .slice PA pl pcap, .int .i64 major, .slice WA wl wcap, .slice VA vl vcap, .slice QA ql qcap] 28))) := (Below.refl _ w).alloc (Nat.le_refl _) _
  have c0 : (w.alloc (.cells #[.int .i64 hosts, .slice PA pl pcap, .int .i64 major, .slice WA wl wcap, .slice VA vl vcap, .slice QA ql qcap] 28)).cell? ⟨p, 0, none⟩ = some (.pointer (some ⟨r, 0, none⟩)) := lies_cell (lies_alloc h.1 _) 0
  have HSZ : Hid (w.heap.size ≤ (w.alloc (.cells #[.int .i64 hosts, .slice PA pl pcap, .int .i64 major, .slice WA wl wcap, .slice VA vl vcap, .slice QA ql qcap] 28)).heap.size) := by show _ ≤ _; simp
  have HX : Hid ((w.alloc (.cells #[.int .i64 hosts, .slice PA pl pcap, .int .i64 major, .slice WA wl wcap, .slice VA vl vcap, .slice QA ql qcap] 28)).heap[w.heap.size]? = some (.cells #[.int .i64 hosts, .slice PA pl pcap, .int .i64 major, .slice WA wl wcap, .slice VA vl vcap, .slice QA ql qcap] 28)) := heap_alloc_new w _
  have HCK := Lib.hid hck
  have hzf := zero_fault
  clear h hck
  go_enter Tryz.func18, Tryz.ntmps18
  go_upto_region 1 with (fail)
  obtain ⟨W1, hW1⟩ : ∃ W, w.alloc (.cells #[.int .i64 hosts, .slice PA pl pcap, .int .i64 major, .slice WA wl wcap, .slice VA vl vcap, .slice QA ql qcap] 28) = W := ⟨_, rfl⟩
  rw [hW1] at HE HL HB c0 HSZ HX HCK ⊢
  clear hW1
  obtain ⟨xb, hxb⟩ : ∃ n, w.heap.size = n := ⟨_, rfl⟩
  rw [hxb] at HX HB HSZ ⊢
  have HXB := Lib.hid hxb
  clear hxb
  obtain ⟨x0, x1, x2, x3, x4, x5⟩ := cells_6 HX.out
  by_cases hl : l = []
  · subst hl
    have HL : Hid (Calls Tryz.prog 51 #[.pointer (some ⟨r, 0, none⟩)] W1 fun e w' => e = .returned (.int .i64 0) ∧ W1 = w') := HL.out
    go_wp2_with (first
      | (go_at_call 50; (with_reducible refine (HE.out).mono ?_); rintro e w' ⟨rfl, rfl⟩)
      | (go_at_call 51; (with_reducible refine (HL.out).mono ?_); rintro e w' ⟨rfl, rfl⟩)
      | (go_at_call 13; (with_reducible refine (HCK.out).mono ?_); rintro e w2 ⟨rfl, hb2⟩
         (have HB2 := Lib.hid (HB.out.trans (hb2.mono HSZ.out)))
         (have HS2 := Lib.hid (Nat.le_trans HSZ.out hb2.size))
         (clear hb2)))
    go_returns
    rw [HXB.out]
    exact ⟨by simp, below_of2 HB2.out HS2.out⟩
  · have hp : 0 < l.length := by
      cases l with
      | nil => exact absurd rfl hl
      | cons a b => simp
    have e1 : decide ((0 : Int) < (l.length : Int)) = true := decide_eq_true (by omega)
    have e1' : decide (0 < l.length) = true := decide_eq_true hp
    have HLN := Lib.hid hl
    clear hl
    go_wp2_with (first
      | (go_at_call 50; (with_reducible refine (HE.out).mono ?_); rintro e w' ⟨rfl, rfl⟩)
      | (go_at_call 51; (with_reducible refine (HL.out).mono ?_); rintro e w' ⟨rfl, rfl⟩))
    go_returns
    rw [HXB.out]
    exact ⟨by first | rfl | (rw [if_neg HLN.out]; rfl), HB.out⟩
set_option maxHeartbeats 4000000 in
theorem judge_ok11 (p r : Nat) (l : List UInt8) (hosts major : Int) (PA WA VA QA : Option Addr) (pl pcap wl wcap vl vcap ql qcap : Nat) (w : World) (h : PS w p r 0 (some l)) (hl : l ≠ []) : Calls Tryz.prog 18 #[.pointer (some ⟨p, 0, none⟩), .agg #[.int .i64 hosts, .slice PA pl pcap, .int .i64 major, .slice WA wl wcap, .slice VA vl vcap, .slice QA ql qcap]] w fun e w' => e = .returned (.int .i64 11) ∧ Below w.heap.size w w' := by
  have HE : Hid (Calls Tryz.prog 50 #[.pointer (some ⟨p, 0, none⟩)] (w.alloc (.cells #[.int .i64 hosts, .slice PA pl pcap, .int .i64 major, .slice WA wl wcap, .slice VA vl vcap, .slice QA ql qcap] 28)) fun e w' => e = .returned (.int .i64 0) ∧ w.alloc (.cells #[.int .i64 hosts, .slice PA pl pcap, .int .i64 major, .slice WA wl wcap, .slice VA vl vcap, .slice QA ql qcap] 28) = w') := perr_any p r 0 (some l) (w.alloc (.cells #[.int .i64 hosts, .slice PA pl pcap, .int .i64 major, .slice WA wl wcap, .slice VA vl vcap, .slice QA ql qcap] 28)) ⟨lies_alloc h.1 _, RS.al h.2 _⟩
  have HL : Hid (Calls Tryz.prog 51 #[.pointer (some ⟨r, 0, none⟩)] (w.alloc (.cells #[.int .i64 hosts, .slice PA pl pcap, .int .i64 major, .slice WA wl wcap, .slice VA vl vcap, .slice QA ql qcap] 28)) fun e w' => e = .returned (.int .i64 l.length) ∧ w.alloc (.cells #[.int .i64 hosts, .slice PA pl pcap, .int .i64 major, .slice WA wl wcap, .slice VA vl vcap, .slice QA ql qcap] 28) = w') := Bi.left_any r l 0 _ (RS.al h.2 (.cells #[.int .i64 hosts, .slice PA pl pcap, .int .i64 major, .slice WA wl wcap, .slice VA vl vcap, .slice QA ql qcap] 28)).sm.1
  have HB : Hid (Below w.heap.size w (w.alloc (.cells #[.int .i64 hosts, .slice PA pl pcap, .int .i64 major, .slice WA wl wcap, .slice VA vl vcap, .slice QA ql qcap] 28))) := (Below.refl _ w).alloc (Nat.le_refl _) _
  have c0 : (w.alloc (.cells #[.int .i64 hosts, .slice PA pl pcap, .int .i64 major, .slice WA wl wcap, .slice VA vl vcap, .slice QA ql qcap] 28)).cell? ⟨p, 0, none⟩ = some (.pointer (some ⟨r, 0, none⟩)) := lies_cell (lies_alloc h.1 _) 0
  have hp : 0 < l.length := by
    cases l with
    | nil => exact absurd rfl hl
    | cons a b => simp
  have e1 : decide ((0 : Int) < (l.length : Int)) = true := decide_eq_true (by omega)
  have e1' : decide (0 < l.length) = true := decide_eq_true hp
  clear h hl
  go_enter Tryz.func18, Tryz.ntmps18
  go_wp2_with (first
    | (go_at_call 50; (with_reducible refine (HE.out).mono ?_); rintro e w' ⟨rfl, hw⟩; subst hw)
    | (go_at_call 51; (with_reducible refine (HL.out).mono ?_); rintro e w' ⟨rfl, hw⟩; subst hw))
  go_returns
  exact ⟨rfl, HB.out⟩
set_option maxHeartbeats 2000000 in
theorem hasP_any (T M : ByteArray) (m : Nat) (q : Bool) (hm : M.size = m) (h6 : m ≤ T.size) (hT : T.size ≤ 1000000) (hq : ((T.extract 0 m).toList == M.toList) = q) (w : World) : Calls Tryz.prog 83 #[.string T, .string M] w fun e w' => e = .returned (.bool q) ∧ w = w' := by
  obtain ⟨H, hH⟩ : ∃ H, T.extract 0 m = H := ⟨_, rfl⟩
  rw [hH] at hq
  have g1 : (m : Int) ≤ (T.size : Int) := by omega
  have g2 : decide ((T.size : Int) < (m : Int)) = false := decide_eq_false (by omega)
  have g3 : decide ((m : Int) ≤ (T.size : Int)) = true := decide_eq_true (by omega)
  have g3' : decide (m ≤ T.size) = true := decide_eq_true (by omega)
  go_enter Tryz.func83, Tryz.ntmps83
  go_wp2
  go_returns
  exact ⟨rfl, rfl⟩
set_option maxHeartbeats 2000000 in
theorem cutP_any (T M : ByteArray) (m : Nat) (q : Bool) (hm : M.size = m) (h6 : m ≤ T.size) (hT : T.size ≤ 1000000) (hq : ((T.extract 0 m).toList == M.toList) = q) (w : World) : Calls Tryz.prog 15 #[.string T, .string M] w fun e w' => e = .returned (.tuple #[.string (if q = true then T.extract m T.size else T), .bool q]) ∧ w = w' := by
  have HH := Lib.hid (hasP_any T M m q hm h6 hT hq)
  have key : Hid (∀ w, Calls Tryz.prog 37 #[.string T, .string M] w fun e w' => e = .returned (.tuple #[.string (if q = true then T.extract m T.size else T), .bool q]) ∧ w = w') := fun w => by
    obtain ⟨X, hX⟩ : ∃ X, T.extract m T.size = X := ⟨_, rfl⟩
    rw [hX]
    clear hq
    have g1 : (m : Int) ≤ (T.size : Int) := by omega
    cases q
    · go_enter Tryz.func37, Tryz.ntmps37
      go_wp2_with (go_at_call 83; (with_reducible refine (HH.out _).mono ?_); rintro e w' ⟨rfl, rfl⟩)
      go_returns
      exact ⟨rfl, rfl⟩
    · go_enter Tryz.func37, Tryz.ntmps37
      go_wp2_with (go_at_call 83; (with_reducible refine (HH.out _).mono ?_); rintro e w' ⟨rfl, rfl⟩)
      go_returns
      exact ⟨rfl, rfl⟩
  obtain ⟨Y, hY⟩ : ∃ Y, (if q = true then T.extract m T.size else T) = Y := ⟨_, rfl⟩
  rw [hY] at key ⊢
  clear hq hY HH
  go_enter Tryz.func15, Tryz.ntmps15
  go_wp2_with (go_at_call 37; (with_reducible refine (key.out _).mono ?_); rintro e w' ⟨rfl, rfl⟩)
  go_returns
  exact ⟨rfl, rfl⟩
end Go.Proofs.YtdgkanamceeheaaGreat.Im
