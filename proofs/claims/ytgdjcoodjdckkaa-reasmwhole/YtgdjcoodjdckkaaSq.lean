/- What the parts are that Split makes. -/
import Derived.Test.YtgdjcoodjdckkaaSp
import Derived.Test.YtgdjcoodjdckkaaEq
set_option maxRecDepth 100000
namespace Go.Proofs.Ytgdjcoodjdckkaa
open Go.RowKit Go.Proofs.PitotFrag Go.Proofs.PitotIp
open Go.Proofs.Ytgdjcoodjdckkaa.Bi (lies_lt lies_cell lies_frozen lies_alloc lies_set)

theorem row_get {w : World} {base g n cap : Nat} {l : List Pk} (h : w.ownsRow base 34 14 (.slice (some ⟨g, 0, none⟩) n cap) n (flatP l)) (i : Nat) (hi : i < l.length) : PkAt w g (i * 14) l[i] := by
  have hc : ∀ j (hj : j < 14), w.cell? ⟨g, i * 14 + j, none⟩ = some (l[i].enc[j]'(by rw [Pk.enc_length]; exact hj)) := fun j hj => by
    have := h.cells (g := g) rfl (i * 14 + j) (l[i].enc[j]'(by rw [Pk.enc_length]; exact hj)) (by rw [flatP_get l i hi j hj]; exact List.getElem?_eq_getElem _)
    rwa [show (⟨g, 0, none⟩ : Addr).add (i * 14 + j) = ⟨g, i * 14 + j, none⟩ by unfold Addr.add; split <;> simp_all] at this
  exact ⟨hc 0 (by omega), hc 1 (by omega), hc 2 (by omega), hc 3 (by omega), hc 4 (by omega), hc 5 (by omega), hc 6 (by omega), hc 7 (by omega), hc 8 (by omega), hc 9 (by omega), hc 10 (by omega), hc 11 (by omega), hc 12 (by omega), hc 13 (by omega)⟩

theorem spl_part (p : Pk) (m k : Nat) (hk : k < cnt p.s.size m (m / 8 * 8)) (h : k < (spl p m).length) : (spl p m)[k] = partAt p (m / 8 * 8) k := by
  simp only [spl, cutP]
  rw [List.getElem_append_left (by simpa using hk)]
  simp
theorem spl_last (p : Pk) (m : Nat) (h : cnt p.s.size m (m / 8 * 8) < (spl p m).length) : (spl p m)[cnt p.s.size m (m / 8 * 8)] = restAt p (m / 8 * 8) (cnt p.s.size m (m / 8 * 8)) := by
  simp only [spl, cutP]
  rw [List.getElem_append_right (by simp)]
  simp
theorem size_list (s : ByteArray) : s.data.toList.length = s.size := by show s.data.toList.length = s.data.size; simp
theorem part_size (p : Pk) (m k : Nat) (hm : 25 ≤ m) (hk : k < cnt p.s.size m (m / 8 * 8)) : (partAt p (m / 8 * 8) k).s.size = m / 8 * 8 := by
  show (bl _).size = _
  rw [bl_size]
  rw [← size_list] at hk
  exact piece_length _ (by omega) (by omega) hk
theorem rest_size (p : Pk) (m : Nat) (hm : 25 ≤ m) : (restAt p (m / 8 * 8) (cnt p.s.size m (m / 8 * 8))).s.size ≤ m := by
  show (bl _).size ≤ _
  rw [bl_size, ← size_list]
  exact last_le _ (by omega)
theorem rest_two (p : Pk) (m n : Nat) (hm : 25 ≤ m) (hn : cnt p.s.size m (m / 8 * 8) = n + 1) : m < m / 8 * 8 + (restAt p (m / 8 * 8) (n + 1)).s.size := by
  show _ < _ + (bl _).size
  rw [bl_size]
  rw [← size_list] at hn
  exact last_two _ (by omega) hn

/-- A packet that one frame carries is its only part. -/
theorem spl_small (p : Pk) (m : Nat) (h1 : 25 ≤ m) (hs : p.s.size ≤ m) (ho : p.off = 0) : spl p m = [p] := by
  obtain ⟨id, mo, off, ttl, pr, a, b, s⟩ := p
  simp only at ho hs
  subst ho
  simp [spl, cutP, cnt_zero (show 0 < m / 8 * 8 by omega) hs, restAt, bl]
theorem cn_small {l m : Nat} (h1 : 25 ≤ m) (hs : l ≤ m) : cn l m = 1 := by simp [cn, cnt_zero (show 0 < m / 8 * 8 by omega) hs]
theorem cn_two {m : Nat} (h1 : 25 ≤ m) : cn (m + 1) m = 2 := by
  rw [cn, cnt_step (by omega) (by omega), cnt_zero (by omega) (by omega)]
end Go.Proofs.Ytgdjcoodjdckkaa
