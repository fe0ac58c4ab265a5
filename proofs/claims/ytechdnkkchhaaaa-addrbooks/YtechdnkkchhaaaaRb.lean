/- The document's book in memory; contract of its Get. -/
import Derived.Test.YtechdnkkchhaaaaAl
import Derived.Test.YtechdnkkchhaaaaOo
import Derived.Deep.AppendLies
set_option maxRecDepth 100000
namespace Go.Proofs.Ytechdnkkchhaaaa
open Go.RowKit Go.Proofs.PitotAddr Go.Maps

/-- An address as a text. -/
abbrev _root_.Go.Proofs.PitotAddr.M6.txt (m : M6) : ByteArray := ⟨#[m.a, m.b, m.c, m.d, m.e, m.f]⟩
/-- A row's two cells. -/
def encR (r : M6 × Int) : List Value := [.string r.1.txt, .int .i64 r.2]
def flatR (rs : List (M6 × Int)) : List Value := rs.flatMap encR
theorem flatR_length : ∀ rs : List (M6 × Int), (flatR rs).length = rs.length * 2
  | [] => rfl
  | x :: r => by
    show (encR x ++ flatR r).length = _
    rw [List.length_append, flatR_length r]; simp [encR]; omega
theorem flatR_snoc (rs : List (M6 × Int)) (r : M6 × Int) : flatR (rs ++ [r]) = flatR rs ++ encR r := by simp [flatR]
theorem flatR_get : ∀ (rs : List (M6 × Int)) (i : Nat) (h : i < rs.length), (flatR rs)[i * 2]? = some (.string rs[i].1.txt) ∧ (flatR rs)[i * 2 + 1]? = some (.int .i64 rs[i].2)
  | [], i, h => by simp at h
  | x :: r, 0, h => ⟨rfl, rfl⟩
  | x :: r, i + 1, h => by
    have := flatR_get r i (by simpa using h)
    show (encR x ++ flatR r)[(i + 1) * 2]? = _ ∧ (encR x ++ flatR r)[(i + 1) * 2 + 1]? = _
    rw [show (i + 1) * 2 = i * 2 + 2 by omega, List.getElem?_append_right (by simp [encR]), List.getElem?_append_right (by simp [encR])]
    simpa [encR] using this

/-- The document's book at block p: its rows. -/
def RefAt (base : Nat) (w : World) (p : Nat) (rs : List (M6 × Int)) : Prop :=
  base ≤ p ∧ ∃ v, w.heap[p]? = some (.cells #[v] 67) ∧ w.ownsRow base 79 2 v rs.length (flatR rs)

theorem txt_eq (x y : M6) : (x.txt.toList == y.txt.toList) = decide (x = y) := by
  rw [ByteArray.toList_eq, ByteArray.toList_eq]
  rw [Bool.eq_iff_iff, beq_iff_eq, decide_eq_true_iff]
  exact ⟨fun h => M6.bytes_inj h, fun h => by rw [h]⟩

/-- What is noted. -/
def rget (rs : List (M6 × Int)) (m : M6) : Option Int := (rs.find? fun r => decide (r.1 = m)).map (·.2)

set_option maxHeartbeats 2000000 in
theorem refGet_any {base : Nat} {w : World} {p : Nat} {rs : List (M6 × Int)} (h : RefAt base w p rs) (hl : rs.length ≤ 1000) (m : M6) :
    Calls Try.prog 35 #[.pointer (some ⟨p, 0, none⟩), .string m.txt] w fun r w' => r = .returned (.tuple #[.int .i64 ((rget rs m).getD 0), .bool (rget rs m).isSome]) ∧ w = w' := by
  obtain ⟨_, v, hp, hown⟩ := h
  have hc : w.cell? ⟨p, 0, none⟩ = some v := lies_cell hp 0
  obtain ⟨T, HT⟩ : ∃ T, Hid (T = m.txt) := ⟨_, rfl⟩
  rw [← HT.out]
  obtain ⟨R, HR⟩ : ∃ R, Hid (R = Value.tuple #[.int .i64 ((rget rs m).getD 0), .bool (rget rs m).isSome]) := ⟨_, rfl⟩
  rw [← HR.out]
  have Hown := Lib.hid hown
  -- what the slice is
  obtain ⟨A, cap, rfl⟩ : ∃ A cap, v = .slice A rs.length cap := by
    rcases hown.2 with ⟨rfl, h0⟩ | ⟨g, cap, cur, rfl, _⟩
    · exact ⟨none, 0, by rw [h0]⟩
    · exact ⟨_, cap, rfl⟩
  clear hown hp
  go_enter Try.func35, Try.ntmps35
  go_wp2
  go_loop [6] (fun v6 => ∃ k : Nat, k ≤ rs.length ∧ v6 = .int .i64 k ∧ Hid (∀ i (hi : i < rs.length), i < k → rs[i].1 ≠ m)) (fun v6 => rs.length - (intOf v6).toNat)
  case atStart => exact ⟨0, Nat.zero_le _, rfl, fun i hi h => by omega⟩
  case round =>
    obtain ⟨k, hk, rfl, Hno⟩ := hrel
    by_cases hlt : k < rs.length
    · obtain ⟨g, cap', e, hbg, hgl⟩ := Hown.out.form (by omega)
      obtain ⟨rfl, rfl⟩ : A = some ⟨g, 0, none⟩ ∧ cap = cap' := by simpa using e
      clear e
      obtain ⟨g0, g1⟩ := flatR_get rs k hlt
      have c0 : w.cell? ⟨g, k * 2, none⟩ = some (.string rs[k].1.txt) := (Hown.out.cellAt _ (by omega)).trans g0
      have c1 : w.cell? ⟨g, k * 2 + 1, none⟩ = some (.int .i64 rs[k].2) := (Hown.out.cellAt _ (by omega)).trans g1
      clear g0 g1
      obtain ⟨x, Hx⟩ : ∃ x, Hid (x = rs[k].1) := ⟨rs[k].1, rfl⟩
      obtain ⟨y, Hy⟩ : ∃ y, Hid (y = rs[k].2) := ⟨rs[k].2, rfl⟩
      obtain ⟨X, HX⟩ : ∃ X, Hid (X = x.txt) := ⟨_, rfl⟩
      rw [← Hx.out, ← HX.out] at c0
      rw [← Hy.out] at c1
      have heq : (X.toList == T.toList) = decide (x = m) := by rw [HX.out, HT.out, txt_eq]
      by_cases he : x = m
      · rw [decide_eq_true he] at heq
        have He := Lib.hid he; clear he
        have hfin : Hid (rget rs m = some y) := by
          show _ = _
          unfold rget
          have : rs.find? (fun r => decide (r.1 = m)) = some rs[k] := by
            rw [List.find?_eq_some_iff_getElem]
            refine ⟨by simp [← Hx.out, He.out], k, hlt, rfl, fun j hj => ?_⟩
            simp [Hno.out j (by omega) hj]
          rw [this, Hy.out]; rfl
        go_wp2
        go_returns
        refine ⟨?_, rfl⟩
        rw [HR.out, hfin.out]
        rfl
      · rw [decide_eq_false he] at heq
        have He := Lib.hid he; clear he
        go_wp2
        go_round
        case rel =>
          refine ⟨k + 1, by omega, by go_num, fun i hi h => ?_⟩
          by_cases e : i = k
          · subst e; rw [← Hx.out]; exact He.out
          · exact Hno.out i hi (by omega)
        case measure => simp [intOf]; omega
    · have hfin : Hid (rget rs m = none) := by
        show _ = _
        unfold rget
        rw [List.find?_eq_none.2 (fun r hr => by
          obtain ⟨i, hi, rfl⟩ := List.getElem_of_mem hr
          simp [Hno.out i hi (by omega)])]
        rfl
      go_wp2
      go_returns
      refine ⟨?_, rfl⟩
      rw [HR.out, hfin.out]
      rfl
end Go.Proofs.Ytechdnkkchhaaaa
