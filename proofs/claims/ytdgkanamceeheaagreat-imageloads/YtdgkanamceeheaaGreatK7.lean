/- Contracts of the program's Reader: Read, Err, Left, Text, Rest, gather, U8, U16, U32. Readers: what is read, and what is left. -/
import Derived.Test.YtdgkanamceeheaaGreatK3
import Derived.Test.YtdgkanamceeheaaGreatK5
import Derived.Test.YtdgkanamceeheaaGreatK6
import Derived.Handy
set_option linter.unusedVariables false
namespace Go.Proofs.YtdgkanamceeheaaGreat.Bi
open Go.RowKit Go.Proofs.PitotMath
def RdAt (w : World) (r : Nat) (l : List UInt8) (e : Int) : Prop := w.heap[r]? = some (.cells #[.string ⟨l.toArray⟩,.int .i64 e] 82)
set_option maxHeartbeats 400000 in
theorem read_any (l : List UInt8) (w : World) : Calls Tryz.prog 16 #[.string ⟨l.toArray⟩] w fun e w' => e = .returned (.pointer (some ⟨w.heap.size,0,none⟩)) ∧ w' = w.alloc (.cells #[.string ⟨l.toArray⟩,.int .i64 0] 82) := by
  go_enter Tryz.func16,Tryz.ntmps16
  go_wp2
  go_returns
  exact ⟨rfl,rfl⟩
set_option maxHeartbeats 400000 in
theorem err_any (r : Nat) (l : List UInt8) (x : Int) (w : World) (h : RdAt w r l x) : Calls Tryz.prog 90 #[.pointer (some ⟨r,0,none⟩)] w fun e w' => e = .returned (.int .i64 x) ∧ w = w' := by
  have c1 : w.cell? ⟨r,1,none⟩ = some (.int .i64 x) := lies_cell h 1
  clear h
  go_enter Tryz.func90,Tryz.ntmps90
  go_wp2
  go_returns
  exact ⟨rfl,rfl⟩
theorem size_list (l : List UInt8) : (⟨l.toArray⟩ : ByteArray).size = l.length := by show l.toArray.size = _;simp
set_option maxHeartbeats 400000 in
theorem left_any (r : Nat) (l : List UInt8) (x : Int) (w : World) (h : RdAt w r l x) : Calls Tryz.prog 51 #[.pointer (some ⟨r,0,none⟩)] w fun e w' => e = .returned (.int .i64 l.length) ∧ w = w' := by
  obtain ⟨s,Hs⟩ : ∃ s : ByteArray,Hid (s = ⟨l.toArray⟩) := ⟨_,rfl⟩
  have c0 : w.cell? ⟨r,0,none⟩ = some (.string s) := by rw [Hs.out];exact lies_cell h 0
  clear h
  go_enter Tryz.func51,Tryz.ntmps51
  go_wp2
  go_returns
  exact ⟨ret_int (by rw [Hs.out,size_list]),rfl⟩
set_option maxHeartbeats 400000 in
theorem rtext_err (r : Nat) (l : List UInt8) (x n : Int) (w : World) (h : RdAt w r l x) (hx : x ≠ 0) : Calls Tryz.prog 85 #[.pointer (some ⟨r,0,none⟩),.int .i64 n] w fun e w' => e = .returned (.string ⟨#[]⟩) ∧ w = w' := by
  have hx' : (x != 0) = true := by simpa using hx
  clear hx
  go_enter Tryz.func85,Tryz.ntmps85
  go_wp2_with (go_at_call 90;refine (err_any r l x _ h).mono ?_;rintro e w' ⟨rfl,rfl⟩)
  go_returns
  exact ⟨rfl,rfl⟩
theorem rd_set {w : World} {r : Nat} {l : List UInt8} {x : Int} (h : RdAt w r l x) (y : Int) : RdAt (w.setCell ⟨r,1,none⟩ (.int .i64 y)) r l y := lies_set h 1 _
theorem rd_cut {w : World} {r : Nat} {l : List UInt8} {x : Int} (h : RdAt w r l x) (m : List UInt8) : RdAt (w.setCell ⟨r,0,none⟩ (.string ⟨m.toArray⟩)) r m x := lies_set h 0 _
set_option maxHeartbeats 400000 in
theorem rtext_short (r : Nat) (l : List UInt8) (n : Int) (w : World) (h : RdAt w r l 0) (hn : (l.length : Int) < n) : Calls Tryz.prog 85 #[.pointer (some ⟨r,0,none⟩),.int .i64 n] w fun e w' => e = .returned (.string ⟨#[]⟩) ∧ RdAt w' r l 10 ∧ w.grownBy w' (some r) := by
  obtain ⟨s,Hs⟩ : ∃ s : ByteArray,Hid (s = ⟨l.toArray⟩) := ⟨_,rfl⟩
  have hsz : s.size = l.length := by rw [Hs.out,size_list]
  have hn' : (s.size : Int) < n := by rw [hsz];exact hn
  clear hsz
  have c0 : w.cell? ⟨r,0,none⟩ = some (.string s) := by rw [Hs.out];exact lies_cell h 0
  have c1 : w.cell? ⟨r,1,none⟩ = some (.int .i64 0) := lies_cell h 1
  have f1 : w.frozen? ⟨r,1,none⟩ = false := lies_frozen h 1
  go_enter Tryz.func85,Tryz.ntmps85
  go_wp2_with (go_at_call 90;refine (err_any r l 0 _ h).mono ?_;rintro e w' ⟨rfl,rfl⟩)
  go_returns
  exact ⟨rfl,rd_set h 10,grown_set r 1 _⟩
set_option maxHeartbeats 400000 in
theorem rtext_ok (r : Nat) (a b : List UInt8) (n : Nat) (w : World) (h : RdAt w r (a ++ b) 0) (hn : n = a.length) (hl : (a ++ b).length ≤ 100000000) : Calls Tryz.prog 85 #[.pointer (some ⟨r,0,none⟩),.int .i64 n] w fun e w' => e = .returned (.string ⟨a.toArray⟩) ∧ RdAt w' r b 0 ∧ w.grownBy w' (some r) := by
  obtain ⟨s,Hs⟩ : ∃ s : ByteArray,Hid (s = ⟨(a ++ b).toArray⟩) := ⟨_,rfl⟩
  have hsz : s.size = (a ++ b).length := by rw [Hs.out,size_list]
  have hn' : n ≤ s.size := by rw [hsz,hn];simp
  have hl' : s.size ≤ 100000000 := by rw [hsz];exact hl
  have H1 : Hid (s.extract 0 n = ⟨a.toArray⟩) := by
    show _ = _
    rw [Hs.out,hn]
    apply ByteArray.ext
    simp
  have H2 : Hid (s.extract n s.size = ⟨b.toArray⟩) := by
    show _ = _
    rw [hsz,Hs.out,hn]
    apply ByteArray.ext
    simp
  have HN := Lib.hid hn
  clear hsz hn hl
  have c0 : w.cell? ⟨r,0,none⟩ = some (.string s) := by rw [Hs.out];exact lies_cell h 0
  have c1 : w.cell? ⟨r,1,none⟩ = some (.int .i64 0) := lies_cell h 1
  have f0 : w.frozen? ⟨r,0,none⟩ = false := lies_frozen h 0
  go_enter Tryz.func85,Tryz.ntmps85
  go_wp2_with (go_at_call 90;refine (err_any r (a ++ b) 0 _ h).mono ?_;rintro e w' ⟨rfl,rfl⟩)
  go_returns
  refine ⟨?_,?_,grown_set r 0 _⟩
  · show Ending.returned (.string (s.extract 0 n)) = _
    rw [H1.out]
  · rw [H2.out];exact rd_cut h b
theorem num_take (s : ByteArray) (k : Nat) (h : k < s.size) : num (s.data.toList.take (k + 1)) = 256 * num (s.data.toList.take k) + s[k].toNat := by
  rw [take_snoc s k h,num_snoc]
theorem num_bd (s : ByteArray) (k : Nat) : num (s.data.toList.take k) < 256 ^ k := by
  have h := num_lt (s.data.toList.take k)
  have h2 : 256 ^ (s.data.toList.take k).length ≤ 256 ^ k := Nat.pow_le_pow_right (by omega) (by simp;omega)
  omega
theorem gather_step (s : ByteArray) (k : Nat) (h : k < s.size) (hs : s.size ≤ 4) :
    bits .or .u32 (IntKind.u32.wrap ((num (s.data.toList.take k) : Nat) * 256)) (IntKind.u32.wrap s[k].toNat) = (num (s.data.toList.take (k + 1)) : Nat) := by
  have h1 := num_take s k h
  have h2 := num_bd s k
  have h3 := s[k].toNat_lt
  have h4 : 256 ^ k ≤ 256 ^ 3 := Nat.pow_le_pow_right (by omega) (by omega)
  generalize num (s.data.toList.take k) = x at h1 h2 ⊢
  rw [h1]
  have e : ((x : Int) * 256) = ((x * 256 : Nat) : Int) := by simp
  rw [e,IntWalk.u32_in _ (by omega),IntWalk.u32_in _ (by omega),u32_or_nat _ _ (by omega) (by omega)]
  have := Nat.two_pow_add_eq_or_of_lt (i := 8) (b := s[k].toNat) (by omega) x
  rw [show x * 256 = 2 ^ 8 * x by omega,← this]
set_option maxHeartbeats 400000 in
theorem gather_any (s : ByteArray) (w : World) (hs : s.size ≤ 4) :
    Calls Tryz.prog 84 #[.string s] w fun e w' => e = .returned (.int .u32 (num s.data.toList : Nat)) ∧ w = w' := by
  go_enter Tryz.func84,Tryz.ntmps84
  go_wp2
  go_loop [3,4] (fun n i => ∃ k : Nat,k ≤ s.size ∧ i = .int .i64 k ∧ n = .int .u32 (num (s.data.toList.take k) : Nat)) (fun _ i => s.size - (intOf i).toNat)
  case atStart => exact ⟨0,Nat.zero_le _,rfl,rfl⟩
  case round =>
    obtain ⟨k,hk,rfl,rfl⟩ := hrel
    by_cases hlt : k < s.size
    · go_wp2
      go_round
      case rel => exact ⟨k + 1,by omega,by go_num,val_int (gather_step s k hlt hs)⟩
      case measure => simp [intOf];omega
    · go_wp2
      go_returns
      exact ⟨ret_int (by rw [List.take_of_length_le (by simp;omega)]),rfl⟩
theorem gather_list (l : List UInt8) (w : World) (hs : l.length ≤ 4) :
    Calls Tryz.prog 84 #[.string ⟨l.toArray⟩] w fun e w' => e = .returned (.int .u32 (num l : Nat)) ∧ w = w' :=
  (gather_any ⟨l.toArray⟩ w (by rw [size_list];exact hs)).mono fun e w' ⟨he,hw⟩ => ⟨by simpa using he,hw⟩
theorem gather_none (w : World) : Calls Tryz.prog 84 #[.string ⟨#[]⟩] w fun e w' => e = .returned (.int .u32 0) ∧ w = w' := gather_list [] w (by simp)
theorem num_4 (l : List UInt8) (h : l.length ≤ 4) : num l < 4294967296 := by
  have h1 := num_lt l
  have h2 : 256 ^ l.length ≤ 256 ^ 4 := Nat.pow_le_pow_right (by omega) h
  omega
end Go.Proofs.YtdgkanamceeheaaGreat.Bi
set_option maxRecDepth 100000
set_option linter.unusedVariables false
namespace Go.Proofs.YtdgkanamceeheaaGreat.Im
open Go.RowKit
open PitotImg (St rd)
def ec (σ : St) : Int := match σ with
  | some _ => 0
  | none => 10
def RS (T : TypeId) (w : World) (r : Nat) (σ : St) : Prop := ∃ l : List UInt8,w.heap[r]? = some (.cells #[.string ⟨l.toArray⟩,.int .i64 (ec σ)] T) ∧ l.length ≤ 100000 ∧ ∀ l',σ = some l' → l = l'
theorem RS.sm {T : TypeId} {w : World} {r : Nat} {l : List UInt8} (h : RS T w r (some l)) : w.heap[r]? = some (.cells #[.string ⟨l.toArray⟩,.int .i64 0] T) ∧ l.length ≤ 100000 := by
  obtain ⟨l',h1,h2,h3⟩ := h
  obtain rfl := h3 l rfl
  exact ⟨h1,h2⟩
theorem RS.lt {T : TypeId} {w : World} {r : Nat} {σ : St} (h : RS T w r σ) : r < w.heap.size := by
  obtain ⟨l',h1,_⟩ := h
  exact lies_lt h1
theorem RS.keep {T : TypeId} {w w' : World} {r : Nat} {σ : St} (h : RS T w r σ) (hk : w'.heap[r]? = w.heap[r]?) : RS T w' r σ := by
  obtain ⟨l',h1,h2⟩ := h
  exact ⟨l',hk.trans h1,h2⟩
theorem RS.er {T : TypeId} {w : World} {r : Nat} {σ : St} (h : RS T w r σ) : w.cell? ⟨r,1,none⟩ = some (.int .i64 (ec σ)) := by
  obtain ⟨l',h1,_⟩ := h
  exact lies_cell h1 1
def tk (k : Nat) (σ : St) : List UInt8 := match σ with
  | some l => if k ≤ l.length then l.take k else []
  | none => []
theorem rd_tk (k : Nat) (σ : St) : (rd k σ).1 = ((PitotMath.num (tk k σ) : Nat) : Int) := by
  unfold rd tk
  match σ with
  | none => rfl
  | some l =>
    simp only
    by_cases h : k ≤ l.length
    · rw [if_pos h,if_pos h]
    · rw [if_neg h,if_neg h];rfl
theorem tk_len (k : Nat) (σ : St) : (tk k σ).length ≤ k := by
  unfold tk
  match σ with
  | none => simp
  | some l =>
    simp only
    by_cases h : k ≤ l.length
    · rw [if_pos h,List.length_take];omega
    · rw [if_neg h];simp
set_option maxHeartbeats 2000000 in
theorem qtext_any (r k : Nat) (σ : St) (w : World) (h : RS 55 w r σ) (hk : k ≤ 1000) : Calls Tryz.prog 53 #[.pointer (some ⟨r,0,none⟩),.int .i64 (k : Int)] w fun e w' => e = .returned (.string ⟨(tk k σ).toArray⟩) ∧ RS 55 w' r (rd k σ).2 ∧ w.grownBy w' (some r) := by
  cases σ with
  | none =>
    have c1 := h.er
    have c1 : w.cell? ⟨r,1,none⟩ = some (.int .i64 10) := c1
    have H := Lib.hid h
    clear h
    go_enter Tryz.func53,Tryz.ntmps53
    go_wp2
    go_returns
    exact ⟨rfl,H.out,World.grownBy.refl w _⟩
  | some l =>
    obtain ⟨hb,hl⟩ := h.sm
    obtain ⟨s,Hs⟩ : ∃ s : ByteArray,Hid (s = ⟨l.toArray⟩) := ⟨_,Lib.hid rfl⟩
    have hsz : s.size = l.length := by rw [Hs.out,Bi.size_list]
    have c0 : w.cell? ⟨r,0,none⟩ = some (.string s) := by rw [Hs.out];exact lies_cell hb 0
    have c1 : w.cell? ⟨r,1,none⟩ = some (.int .i64 0) := lies_cell hb 1
    have f0 : w.frozen? ⟨r,0,none⟩ = false := lies_frozen hb 0
    have f1 : w.frozen? ⟨r,1,none⟩ = false := lies_frozen hb 1
    have HB := Lib.hid hb
    clear hb h
    by_cases hc : k ≤ l.length
    · have hn' : k ≤ s.size := by rw [hsz];exact hc
      have hl' : s.size ≤ 100000 := by rw [hsz];exact hl
      have g0 : decide ((k : Int) < 0) = false := decide_eq_false (by omega)
      have g1 : decide ((s.size : Int) < (k : Int)) = false := decide_eq_false (by omega)
      have g1' : decide (s.size < k) = false := decide_eq_false (by omega)
      have H1 : Hid (s.extract 0 k = ⟨(l.take k).toArray⟩) := by
        show _ = _
        rw [Hs.out]
        apply ByteArray.ext
        simp
      have H2 : Hid (s.extract k s.size = ⟨(l.drop k).toArray⟩) := by
        show _ = _
        rw [hsz,Hs.out]
        apply ByteArray.ext
        simp
        exact List.take_of_length_le (by simp)
      have HT : Hid (tk k (some l) = l.take k) := by show _ = _;unfold tk;simp only [if_pos hc]
      have HR : Hid (rd k (some l) = ((PitotMath.num (l.take k) : Int),some (l.drop k))) := PitotImg.rd_ok hc
      have HL : Hid (l.length ≤ 100000) := hl
      clear hsz hc hl
      go_enter Tryz.func53,Tryz.ntmps53
      go_wp2
      go_returns
      refine ⟨?_,?_,Bi.grown_set r 0 _⟩
      · show Ending.returned (.string (s.extract 0 k)) = _
        rw [H1.out,HT.out]
      · rw [HR.out,H2.out]
        exact ⟨l.drop k,lies_set HB.out 0 _,by rw [List.length_drop];have := HL.out;omega,fun l' e => by injection e⟩
    · have g0 : decide ((k : Int) < 0) = false := decide_eq_false (by omega)
      have g1 : decide ((s.size : Int) < (k : Int)) = true := decide_eq_true (by omega)
      have g1' : decide (s.size < k) = true := decide_eq_true (by omega)
      have HT : Hid (tk k (some l) = []) := by show _ = _;unfold tk;simp only [if_neg hc]
      have HR : Hid (rd k (some l) = (0,none)) := PitotImg.rd_bad hc
      have HL : Hid (l.length ≤ 100000) := hl
      clear hsz hc hl
      go_enter Tryz.func53,Tryz.ntmps53
      go_wp2
      go_returns
      refine ⟨by rw [HT.out];rfl,?_,Bi.grown_set r 1 _⟩
      rw [HR.out]
      exact ⟨l,lies_set HB.out 1 _,HL.out,fun l' e => by cases e⟩
set_option maxHeartbeats 2000000 in
theorem qnum_any (r k : Nat) (σ : St) (w : World) (h : RS 55 w r σ) (hk : k ≤ 4) : Calls Tryz.prog 20 #[.pointer (some ⟨r,0,none⟩),.int .i64 (k : Int)] w fun e w' => e = .returned (.int .i64 (rd k σ).1) ∧ RS 55 w' r (rd k σ).2 ∧ w.grownBy w' (some r) := by
  have HT := Lib.hid (qtext_any r k σ w h (by omega))
  rw [rd_tk]
  have hln := tk_len k σ
  obtain ⟨s,Hs⟩ : ∃ s : ByteArray,Hid (s = ⟨(tk k σ).toArray⟩) := ⟨_,Lib.hid rfl⟩
  have hsz : s.size = (tk k σ).length := by rw [Hs.out,Bi.size_list]
  have hs4 : s.size ≤ 4 := by omega
  have HN : Hid (PitotMath.num (tk k σ) = PitotMath.num s.data.toList) := by show _ = _;rw [Hs.out]
  rw [HN.out]
  rw [← Hs.out] at HT
  clear hln hsz h HN Hs
  generalize (rd k σ).2 = σ' at HT ⊢
  go_enter Tryz.func20,Tryz.ntmps20
  go_wp2_with (go_at_call 53;(with_reducible refine (HT.out).mono ?_);rintro e w2 ⟨rfl,hw2,hg2⟩)
  have HW2 := Lib.hid hw2
  have HG2 := Lib.hid hg2
  clear hw2 hg2
  go_loop [6,7] (fun n i => ∃ k : Nat,k ≤ s.size ∧ i = .int .i64 k ∧ n = .int .i64 (PitotMath.num (s.data.toList.take k) : Nat)) (fun _ i => s.size - (intOf i).toNat)
  case atStart => exact ⟨0,Nat.zero_le _,rfl,rfl⟩
  case round =>
    obtain ⟨k,hk,rfl,rfl⟩ := hrel
    by_cases hlt : k < s.size
    · have h1 := Bi.num_take s k hlt
      have h2 := Bi.num_bd s k
      have h3 := s[k].toNat_lt
      have h4 : 256 ^ k ≤ 256 ^ 3 := Nat.pow_le_pow_right (by omega) (by omega)
      have w1 : IntKind.i64.wrap (256 * (PitotMath.num (s.data.toList.take k) : Int)) = 256 * (PitotMath.num (s.data.toList.take k) : Int) := IntWalk.i64_in _ (by omega)
      have w2' : IntKind.i64.wrap (256 * (PitotMath.num (s.data.toList.take k) : Int) + (s[k].toNat : Int)) = 256 * (PitotMath.num (s.data.toList.take k) : Int) + (s[k].toNat : Int) := IntWalk.i64_in _ (by omega)
      go_wp2
      go_round
      case rel => exact ⟨k + 1,by omega,by go_num,by first | (rw [h1];push_cast;rfl) | (refine Bi.val_int ?_;rw [h1];push_cast;omega)⟩
      case measure => simp [intOf];omega
    · go_wp2
      go_returns
      exact ⟨by rw [List.take_of_length_le (by simp;omega)];rfl,HW2.out,HG2.out⟩
set_option maxHeartbeats 2000000 in
theorem ptext_any (r k : Nat) (σ : St) (w : World) (h : RS 82 w r σ) (hk : k ≤ 1000) : Calls Tryz.prog 85 #[.pointer (some ⟨r,0,none⟩),.int .i64 (k : Int)] w fun e w' => e = .returned (.string ⟨(tk k σ).toArray⟩) ∧ RS 82 w' r (rd k σ).2 ∧ w.grownBy w' (some r) := by
  cases σ with
  | none =>
    obtain ⟨l,h1,h2,h3⟩ := h
    refine (Bi.rtext_err r l 10 k w h1 (by decide)).mono fun e w' ⟨he,hw⟩ => ?_
    subst hw
    exact ⟨he,⟨l,h1,h2,h3⟩,World.grownBy.refl w _⟩
  | some l =>
    obtain ⟨hb,hl⟩ := h.sm
    by_cases hc : k ≤ l.length
    · have hb' : Bi.RdAt w r (l.take k ++ l.drop k) 0 := by rw [List.take_append_drop];exact hb
      refine (Bi.rtext_ok r (l.take k) (l.drop k) k w hb' (by rw [List.length_take];omega) (by rw [List.take_append_drop];omega)).mono fun e w' ⟨he,hw,hg⟩ => ?_
      refine ⟨by rw [he];unfold tk;simp only [if_pos hc],?_,hg⟩
      rw [PitotImg.rd_ok hc]
      exact ⟨l.drop k,hw,by rw [List.length_drop];omega,fun l' e => by injection e⟩
    · refine (Bi.rtext_short r l k w hb (by omega)).mono fun e w' ⟨he,hw,hg⟩ => ?_
      refine ⟨by rw [he];unfold tk;simp only [if_neg hc],?_,hg⟩
      rw [PitotImg.rd_bad hc]
      exact ⟨l,hw,hl,fun l' e => by cases e⟩
set_option maxHeartbeats 1000000 in
theorem pU16_any (r : Nat) (σ : St) (w : World) (h : RS 82 w r σ) : Calls Tryz.prog 38 #[.pointer (some ⟨r,0,none⟩)] w fun e w' => e = .returned (.int .i64 (rd 2 σ).1) ∧ RS 82 w' r (rd 2 σ).2 ∧ w.grownBy w' (some r) := by
  have HT : Hid (Calls Tryz.prog 85 #[.pointer (some ⟨r,0,none⟩),.int .i64 2] w fun e w' => e = .returned (.string ⟨(tk 2 σ).toArray⟩) ∧ RS 82 w' r (rd 2 σ).2 ∧ w.grownBy w' (some r)) := ptext_any r 2 σ w h (by omega)
  rw [rd_tk]
  have hln := tk_len 2 σ
  have h4 := Bi.num_4 (tk 2 σ) (by omega)
  have HGA := Lib.hid (fun w => Bi.gather_list (tk 2 σ) w (by omega))
  clear h hln
  generalize (rd 2 σ).2 = σ' at HT ⊢
  generalize tk 2 σ = l at HT HGA h4 ⊢
  generalize PitotMath.num l = q at HGA h4 ⊢
  go_enter Tryz.func38,Tryz.ntmps38
  go_wp2_with (first
    | (go_at_call 85;(with_reducible refine (HT.out).mono ?_);rintro e w2 ⟨rfl,hw2,hg2⟩)
    | (go_at_call 84;(with_reducible refine (HGA.out _).mono ?_);rintro e w3 ⟨rfl,rfl⟩))
  go_returns
  exact ⟨Bi.ret_int (by first | rfl | (rw [IntWalk.wrap64_in _ (by omega)])),hw2,hg2⟩
set_option maxHeartbeats 1000000 in
theorem pU32_any (r : Nat) (σ : St) (w : World) (h : RS 82 w r σ) : Calls Tryz.prog 40 #[.pointer (some ⟨r,0,none⟩)] w fun e w' => e = .returned (.int .i64 (rd 4 σ).1) ∧ RS 82 w' r (rd 4 σ).2 ∧ w.grownBy w' (some r) := by
  have HT : Hid (Calls Tryz.prog 85 #[.pointer (some ⟨r,0,none⟩),.int .i64 4] w fun e w' => e = .returned (.string ⟨(tk 4 σ).toArray⟩) ∧ RS 82 w' r (rd 4 σ).2 ∧ w.grownBy w' (some r)) := ptext_any r 4 σ w h (by omega)
  rw [rd_tk]
  have hln := tk_len 4 σ
  have h4 := Bi.num_4 (tk 4 σ) (by omega)
  have HGA := Lib.hid (fun w => Bi.gather_list (tk 4 σ) w (by omega))
  clear h hln
  generalize (rd 4 σ).2 = σ' at HT ⊢
  generalize tk 4 σ = l at HT HGA h4 ⊢
  generalize PitotMath.num l = q at HGA h4 ⊢
  go_enter Tryz.func40,Tryz.ntmps40
  go_wp2_with (first
    | (go_at_call 85;(with_reducible refine (HT.out).mono ?_);rintro e w2 ⟨rfl,hw2,hg2⟩)
    | (go_at_call 84;(with_reducible refine (HGA.out _).mono ?_);rintro e w3 ⟨rfl,rfl⟩))
  go_returns
  exact ⟨Bi.ret_int (by first | rfl | (rw [IntWalk.wrap64_in _ (by omega)])),hw2,hg2⟩
end Go.Proofs.YtdgkanamceeheaaGreat.Im
