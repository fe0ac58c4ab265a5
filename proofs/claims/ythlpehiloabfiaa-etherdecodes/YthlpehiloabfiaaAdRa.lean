/- Contracts of Num, Link, Source, Part, Group: the document's; text, short (the law's). -/
import Derived.Test.YthlpehiloabfiaaAdLa
namespace Go.Proofs.Ythlpehiloabfiaa.Ad
open Go.RowKit Go.Proofs.PitotAddr

def be : Nat → Nat → List UInt8
  | 0, _ => []
  | m + 1, n => be m (n / 256) ++ [UInt8.ofNat (n % 256)]
theorem be_length : ∀ (m n : Nat), (be m n).length = m
  | 0, _ => rfl
  | m + 1, n => by simp [be, be_length m]
theorem be_cons : ∀ (k n : Nat), be (k + 1) n = UInt8.ofNat (n / 256 ^ k % 256) :: be k n
  | 0, n => by simp [be]
  | k + 1, n => by
    have h := be_cons k (n / 256)
    rw [be, h, be]
    have e : n / 256 / 256 ^ k = n / 256 ^ (k + 1) := by rw [Nat.pow_succ, Nat.mul_comm, Nat.div_div_eq_div_mul]
    rw [e]
    rfl
theorem be2 (n : Nat) : be 2 n = [hi n, lo n] := rfl
theorem be1 (n : Nat) : be 1 n = [lo n] := rfl

theorem cat_one (c : UInt8) (l : List UInt8) : (⟨#[c]⟩ : ByteArray) ++ (⟨l.toArray⟩ : ByteArray) = ⟨(c :: l).toArray⟩ := by
  apply ByteArray.ext; simp

/-- A row of bytes that was just made is a text. -/
theorem conv_bytes (w : World) (l : List UInt8) (cs : Array Value) (n : Nat) (hn : n = l.length) (hcs : cs = (l.map fun c => Value.int .u8 c.toNat).toArray) :
    (convert 36 9 (.slice (some ⟨w.heap.size, 0, none⟩) n n)).run Try.prog (w.alloc (.cells cs 5)) = .ok (.string ⟨l.toArray⟩) (w.alloc (.cells cs 5)) := by
  subst hn hcs
  refine run_convert_bytes_back (P := Try.prog) _ 36 9 5 ⟨w.heap.size, 0, none⟩ l.length l Try.underlying36 Try.underlying5 Try.underlying9 (fun j hj => ?_)
  have e : (⟨w.heap.size, 0, none⟩ : Addr).add j = ⟨w.heap.size, j, none⟩ := by unfold Addr.add; split <;> simp_all
  rw [e, World.cell?_alloc_mark w _ 5 (0, 0) j]
  simp [hj]

theorem conv_one (w : World) (b : UInt8) (x : Int) (hx : x = b.toNat) :
    (convert 36 9 (.slice (some ⟨w.heap.size, 0, none⟩) 1 1)).run Try.prog (w.alloc (.cells #[.int .u8 x] 5)) = .ok (.string ⟨#[b]⟩) (w.alloc (.cells #[.int .u8 x] 5)) :=
  conv_bytes w [b] _ 1 rfl (by simp [hx])

set_option maxHeartbeats 400000 in
theorem num_any (n m : Nat) (w : World) (hm : m ≤ 4) (hn : n ≤ 4294967296) :
    Calls Try.prog 29 #[.int .i64 n, .int .i64 m] w fun e w' => e = .returned (.string ⟨(be m n).toArray⟩) ∧ Below w.heap.size w w' := by
  go_enter Try.func29, Try.ntmps29
  go_wp2
  go_loopw [0, 5, 6] (fun v0 v5 v6 wr => ∃ (k j : Nat) (s : ByteArray), k ≤ m ∧ v6 = .int .i64 k ∧ v0 = .int .i64 j ∧ j ≤ n ∧ Hid (j = n / 256 ^ k) ∧ v5 = .string s ∧ s.size ≤ 4 ∧ Hid (s = ⟨(be k n).toArray⟩) ∧ Below w.heap.size w wr) (fun _ _ v6 _ => m - (intOf v6).toNat)
  case atStart => exact ⟨0, n, ⟨#[]⟩, Nat.zero_le _, rfl, rfl, Nat.le_refl _, by show n = n / 256 ^ 0; simp, rfl, by decide, rfl, Below.refl _ _⟩
  case round =>
    obtain ⟨k, j, s, hk, rfl, rfl, hj, Hj, rfl, hs, Hs, hb⟩ := hrel
    by_cases hlt : k < m
    · have hc := conv_one wr (UInt8.ofNat (j % 256)) ((j : Int) % 256) (by simp)
      have hsz : s.size + 1 ≤ 4 := by rw [Hs.out]; show (be k n).toArray.size + 1 ≤ 4; simp [be_length]; omega
      go_wp2
      go_roundw
      case rel =>
        refine ⟨k + 1, j / 256, (⟨#[UInt8.ofNat (j % 256)]⟩ : ByteArray) ++ s, by omega, by go_num, by go_num, by omega, ?_, rfl, ?_, ?_, ?_⟩
        · show _ = _
          rw [Hj.out, Nat.pow_succ, Nat.div_div_eq_div_mul]
        · rw [ByteArray.size_append]; show 1 + s.size ≤ 4; omega
        · show _ = _
          rw [Hs.out, cat_one, be_cons, Hj.out]
        · exact hb.alloc hb.size _
      case measure => simp [intOf]; omega
    · go_wp2
      go_returns
      refine ⟨?_, hb⟩
      show Ending.returned (.string s) = _
      rw [Hs.out, show k = m by omega]

theorem num2 (n : Nat) (w : World) (hn : n ≤ 65535) :
    Calls Try.prog 29 #[.int .i64 n, .int .i64 2] w fun e w' => e = .returned (.string ⟨#[hi n, lo n]⟩) ∧ Below w.heap.size w w' := num_any n 2 w (by omega) (by omega)
theorem num1 (n : Nat) (w : World) (hn : n ≤ 65535) :
    Calls Try.prog 29 #[.int .i64 n, .int .i64 1] w fun e w' => e = .returned (.string ⟨#[lo n]⟩) ∧ Below w.heap.size w w' := num_any n 1 w (by omega) (by omega)

theorem refLink_bad (v : Int) (w : World) (hv : ¬ (1 ≤ v ∧ v ≤ 65535)) :
    Calls Try.prog 26 #[.int .i64 v] w fun e w' => e = .returned (.tuple #[.string ⟨#[]⟩, .int .i64 1]) ∧ w = w' := by
  by_cases h : v < 1
  · clear hv
    go_enter Try.func26, Try.ntmps26
    go_wp2
    go_returns
    exact ⟨rfl, rfl⟩
  · have h2 : 65535 < v := by omega
    clear hv
    go_enter Try.func26, Try.ntmps26
    go_wp2
    go_returns
    exact ⟨rfl, rfl⟩

theorem refLink_ok (n : Nat) (w : World) (h1 : 1 ≤ n) (h2 : n ≤ 65535) :
    Calls Try.prog 26 #[.int .i64 n] w fun e w' => e = .returned (.tuple #[.string ⟨#[3, 0, 0, 0, hi n, lo n]⟩, .int .i64 0]) ∧ Below w.heap.size w w' := by
  have hs : ({ data := #[hi n, lo n] } : ByteArray).size = 2 := rfl
  go_enter Try.func26, Try.ntmps26
  go_wp2_with (go_at_call 29; (with_reducible refine (num2 n _ h2).mono ?_); rintro e w1 ⟨rfl, hb1⟩)
  go_returns
  exact ⟨rfl, hb1⟩

theorem lo_small (p : Nat) : (lo p) = UInt8.ofNat (p % 256) := rfl

set_option maxHeartbeats 400000 in
theorem refSource_bad (v p : Int) (w : World) (hv : ¬ (0 ≤ v ∧ v ≤ 4095 ∧ 0 ≤ p ∧ p ≤ 1)) :
    Calls Try.prog 27 #[.int .i64 v, .int .i64 p] w fun e w' => e = .returned (.tuple #[.string ⟨#[]⟩, .int .i64 1]) ∧ w = w' := by
  have : v < 0 ∨ (0 ≤ v ∧ 4095 < v) ∨ (0 ≤ v ∧ v ≤ 4095 ∧ p < 0) ∨ (0 ≤ v ∧ v ≤ 4095 ∧ 0 ≤ p ∧ 1 < p) := by omega
  clear hv
  rcases this with h | ⟨h, h'⟩ | ⟨h, h', h''⟩ | ⟨h, h', h'', h3⟩
  all_goals
    go_enter Try.func27, Try.ntmps27
    go_wp2
    go_returns
    exact ⟨rfl, rfl⟩

set_option maxHeartbeats 400000 in
theorem refSource_ok (n p : Nat) (w : World) (h1 : n ≤ 4095) (h2 : p ≤ 1) :
    Calls Try.prog 27 #[.int .i64 n, .int .i64 p] w fun e w' => e = .returned (.tuple #[.string ⟨#[2, 0, 0, hi n, lo n, lo (32 * (p + 1))]⟩, .int .i64 0]) ∧ Below w.heap.size w w' := by
  have hs : ({ data := #[hi n, lo n] } : ByteArray).size = 2 := rfl
  have hs1 : ({ data := #[lo (32 * (p + 1))] } : ByteArray).size = 1 := rfl
  have H := fun w => num1 (32 * (p + 1)) w (by omega)
  have e : ((32 * (p + 1) : Nat) : Int) = 32 * ((p : Int) + 1) := by omega
  rw [e] at H
  have H1 := Lib.hid H; clear H e
  go_enter Try.func27, Try.ntmps27
  go_wp2_with (first
    | (go_at_call 29; (with_reducible refine (num2 n _ (by omega)).mono ?_); rintro e w1 ⟨rfl, hb1⟩)
    | (go_at_call 29; (with_reducible refine (H1.out _).mono ?_); rintro e w2 ⟨rfl, hb2⟩))
  go_returns
  exact ⟨rfl, hb1.trans (hb2.mono hb1.size)⟩

/-- .. behind one block. -/
theorem conv_behind (w : World) (o : Obj) (l : List UInt8) (cs : Array Value) (n : Nat) (hn : n = l.length) (hcs : cs = (l.map fun c => Value.int .u8 c.toNat).toArray) :
    (convert 36 9 (.slice (some ⟨w.heap.size + 1, 0, none⟩) n n)).run Try.prog ((w.alloc o).alloc (.cells cs 5)) = .ok (.string ⟨l.toArray⟩) ((w.alloc o).alloc (.cells cs 5)) := by
  have h := conv_bytes (w.alloc o) l cs n hn hcs
  rwa [show (w.alloc o).heap.size = w.heap.size + 1 by simp] at h

end Go.Proofs.Ythlpehiloabfiaa.Ad
