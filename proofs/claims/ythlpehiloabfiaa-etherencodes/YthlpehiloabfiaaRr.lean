/- The Reader's U8 and U16; the parts of a text that is opened. -/
import Derived.Test.YthlpehiloabfiaaEc
import Derived.Test.YthlpehiloabfiaaEn
import Derived.Test.YthlpehiloabfiaaBiRd
import Derived.IntWalk
namespace Go.Proofs.Ythlpehiloabfiaa
open Go.RowKit Go.Proofs.PitotAddr Go.Proofs.PitotEther
open Go.Proofs.Ythlpehiloabfiaa.Bi (RdAt rtext_ok gather_list num_4)

set_option maxHeartbeats 400000 in
theorem ru8_ok (r : Nat) (a b : List UInt8) (w : World) (h : RdAt w r (a ++ b) 0) (hn : a.length = 1) (hl : (a ++ b).length ≤ 100000000) :
    Calls Try.prog 36 #[.pointer (some ⟨r, 0, none⟩)] w fun e w' => e = .returned (.int .i64 (PitotMath.num a : Nat)) ∧ RdAt w' r b 0 ∧ w.grownBy w' (some r) := by
  have h4 := num_4 a (by omega)
  have HN := Lib.hid hn; clear hn
  obtain ⟨q, Hq⟩ : ∃ q, Hid (q = PitotMath.num a) := ⟨_, rfl⟩
  rw [← Hq.out] at h4 ⊢
  go_enter Try.func36, Try.ntmps36
  go_wp2_with (first
    | (go_at_call 34; refine (rtext_ok r a b 1 _ h HN.out.symm hl).mono ?_; rintro e w1 ⟨rfl, h1, hg1⟩)
    | (go_at_call 53; refine (gather_list a w1 (by rw [HN.out]; omega)).mono ?_; rintro e w' ⟨rfl, rfl⟩; rw [← Hq.out]))
  go_returns
  exact ⟨ret_int (by first | rfl | (rw [IntWalk.wrap64_in _ (by omega)])), h1, hg1⟩

set_option maxHeartbeats 400000 in
theorem ru16_ok (r : Nat) (a b : List UInt8) (w : World) (h : RdAt w r (a ++ b) 0) (hn : a.length = 2) (hl : (a ++ b).length ≤ 100000000) :
    Calls Try.prog 33 #[.pointer (some ⟨r, 0, none⟩)] w fun e w' => e = .returned (.int .i64 (PitotMath.num a : Nat)) ∧ RdAt w' r b 0 ∧ w.grownBy w' (some r) := by
  have h4 := num_4 a (by omega)
  have HN := Lib.hid hn; clear hn
  obtain ⟨q, Hq⟩ : ∃ q, Hid (q = PitotMath.num a) := ⟨_, rfl⟩
  rw [← Hq.out] at h4 ⊢
  go_enter Try.func33, Try.ntmps33
  go_wp2_with (first
    | (go_at_call 34; refine (rtext_ok r a b 2 _ h HN.out.symm hl).mono ?_; rintro e w1 ⟨rfl, h1, hg1⟩)
    | (go_at_call 53; refine (gather_list a w1 (by rw [HN.out]; omega)).mono ?_; rintro e w' ⟨rfl, rfl⟩; rw [← Hq.out]))
  go_returns
  exact ⟨ret_int (by first | rfl | (rw [IntWalk.wrap64_in _ (by omega)])), h1, hg1⟩

/-- The parts of a text of sixty bytes or more: two addresses, two bytes, what is carried, one byte. -/
structure Pt where
  a : M6
  b : M6
  x : UInt8
  y : UInt8
  d : List UInt8
  q : UInt8

def Pt.behind (p : Pt) : List UInt8 := p.x :: p.y :: (p.d ++ [p.q])
def Pt.list (p : Pt) : List UInt8 := p.a.bytes ++ p.b.bytes ++ p.behind
def Pt.txt (p : Pt) : ByteArray := ⟨p.list.toArray⟩

theorem Pt.list_length (p : Pt) : p.list.length = p.d.length + 15 := by simp [Pt.list, Pt.behind, M6.bytes]
theorem Pt.txt_size (p : Pt) : p.txt.size = p.d.length + 15 := by
  show p.list.toArray.size = _
  simp [Pt.list_length]
theorem Pt.txt_list (p : Pt) : p.txt.data.toList = p.list := by simp [Pt.txt]

theorem split12 (l : List UInt8) (h : 12 ≤ l.length) : ∃ (a b : M6) (t : List UInt8), l = a.bytes ++ b.bytes ++ t := by
  match l, h with
  | x0 :: x1 :: x2 :: x3 :: x4 :: x5 :: x6 :: x7 :: x8 :: x9 :: x10 :: x11 :: t, _ =>
    exact ⟨⟨x0, x1, x2, x3, x4, x5⟩, ⟨x6, x7, x8, x9, x10, x11⟩, t, rfl⟩

theorem Pt.of (l : List UInt8) (h : 60 ≤ l.length) : ∃ p : Pt, l = p.list := by
  obtain ⟨a, b, t, rfl⟩ := split12 l (by omega)
  have ht : 48 ≤ t.length := by simp [M6.bytes] at h; omega
  match t, ht with
  | x :: y :: r, hr =>
    have hr' : r ≠ [] := by intro e; subst e; simp at hr
    exact ⟨⟨a, b, x, y, r.dropLast, r.getLast hr'⟩, by simp [Pt.list, Pt.behind, List.dropLast_concat_getLast]⟩

theorem ba_ext {s : ByteArray} {l : List UInt8} (h : s.data.toList = l) : s = ⟨l.toArray⟩ := by
  apply ByteArray.ext
  rw [← Array.toList_inj, h]

/-- A text's first twelve bytes. -/
theorem front12 (s : ByteArray) (a b : M6) (t : List UInt8) (h : s.data.toList = a.bytes ++ b.bytes ++ t) : s.extract 0 12 = ⟨(a.bytes ++ b.bytes).toArray⟩ := by
  apply ba_ext
  rw [Cr.extract_list, h, List.drop_zero]
  simp [M6.bytes]

theorem Pt.front (p : Pt) : p.txt.extract 0 12 = ⟨(p.a.bytes ++ p.b.bytes).toArray⟩ := front12 _ _ _ p.behind p.txt_list
theorem Pt.back (p : Pt) : p.txt.extract 12 p.txt.size = ⟨p.behind.toArray⟩ := by
  apply ba_ext
  rw [Cr.extract_list, Pt.txt_list, List.take_of_length_le (by rw [Pt.txt_size, Pt.list_length]; exact Nat.le_refl _)]
  simp [Pt.list, M6.bytes]

/-- What has an address of a link and of an end system. -/
def Pt.net (p : Pt) : Nat := if p.b.isEnd 0 = true then 0 else 1

end Go.Proofs.Ythlpehiloabfiaa
