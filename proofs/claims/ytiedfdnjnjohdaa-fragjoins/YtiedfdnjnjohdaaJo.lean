/- Contracts of common, measure, together. -/
import Derived.Test.YtiedfdnjnjohdaaSq
import Derived.Test.YtiedfdnjnjohdaaBiShelf
set_option maxRecDepth 100000
namespace Go.Proofs.Ytiedfdnjnjohdaa
open Go.RowKit Go.Proofs.PitotFrag Go.Proofs.PitotIp
open Go.Proofs.Ytiedfdnjnjohdaa.Bi (lies_lt lies_cell lies_frozen lies_alloc lies_set)

/-- What all parts of a packet have. -/
def com (p : Pk) : Pk := ⟨p.id, false, 0, p.ttl, p.pr, p.a, p.b, ⟨#[]⟩⟩

set_option maxHeartbeats 1000000 in
theorem common_any (p : Pk) (w : World) : Calls Try.prog 26 #[p.val] w fun e w' => e = .returned (com p).val ∧ Below w.heap.size w w' := by
  obtain ⟨id, m, off, ttl, pr, a, b, s⟩ := p
  have kb : Hid (Below w.heap.size w ((w.alloc (pkC id false 0 ttl pr a b ⟨#[]⟩)).alloc (pkC id false 0 ttl pr a b ⟨#[]⟩))) := by
    have k1 := (Below.refl w.heap.size w).alloc (Nat.le_refl _) (pkC id false 0 ttl pr a b ⟨#[]⟩)
    exact k1.alloc k1.size _
  go_enter Try.func26, Try.ntmps26
  go_wp2
  (try simp only [Exit.inBlock, Exit.then])
  trace_state
  refine bodyPost_ret (by simp [results, Try.results26, go_sem]; try rfl) rfl ?_
  exact ⟨rfl, kb.out⟩

/-- How many bytes parts have in all, or what is wrong. -/
def ms : List Pk → Nat → Int × Int
  | [], h => ((h : Int), 0)
  | p :: r, h => if jd p h r.isEmpty = 0 then ms r (h + p.s.size) else (0, jd p h r.isEmpty)
theorem ms_cons {l : List Pk} {k : Nat} (hk : k < l.length) (h : Nat) : ms (l.drop k) h = if jd l[k] h (decide (k + 1 = l.length)) = 0 then ms (l.drop (k + 1)) (h + l[k].s.size) else (0, jd l[k] h (decide (k + 1 = l.length))) := by
  rw [List.drop_eq_getElem_cons hk, ms]
  have : (l.drop (k + 1)).isEmpty = decide (k + 1 = l.length) := by
    by_cases h : k + 1 = l.length
    · rw [List.drop_of_length_le (by omega)]; simp [h]
    · rw [decide_eq_false h]
      rw [List.drop_eq_getElem_cons (by omega)]; rfl
  rw [this]

set_option maxHeartbeats 2000000 in
theorem measure_any (A : Option Addr) (cap : Nat) (l : List Pk) (w : World) (hx : PksAt w A l) (hl : l.length ≤ 70000) (hz : ∀ p ∈ l, p.s.size ≤ 10000) (n : Nat) (hn : n = l.length) :
    Calls Try.prog 27 #[.slice A n cap] w fun e w' => e = .returned (.tuple #[.int .i64 (ms l 0).1, .int .i64 (ms l 0).2]) ∧ Below w.heap.size w w' := by
  obtain ⟨M, HM⟩ : ∃ M, Hid (M = ms l 0) := ⟨_, rfl⟩
  rw [← HM.out]
  have Hn := Lib.hid hn
  rw [← hn] at hl
  clear hn
  have HX := Lib.hid hx; clear hx
  have HZ := Lib.hid hz; clear hz
  go_enter Try.func27, Try.ntmps27
  go_wp2
  go_loopw [4, 10] (fun v4 v10 wr => ∃ (k h : Nat), k ≤ n ∧ v10 = .int .i64 k ∧ v4 = .int .i64 h ∧ h ≤ k * 10000 ∧ Hid (ms (l.drop k) h = M) ∧ Below w.heap.size w wr) (fun _ v10 _ => n - (intOf v10).toNat)
  case atStart => exact ⟨0, 0, Nat.zero_le _, rfl, rfl, Nat.zero_le _, HM.out.symm, Below.refl _ _⟩
  case round =>
    obtain ⟨k, h, hk, rfl, rfl, hh, ht, hb⟩ := hrel
    by_cases hlt : k < n
    · have hlt' : k < l.length := by rw [← Hn.out]; exact hlt
      obtain ⟨b, off, rfl, hbl, hc⟩ := HX.out.get hlt'
      have hc := hc.below hb hbl
      have hcs := ms_cons hlt' h
      rw [← Hn.out] at hcs
      have hsz := HZ.out l[k] (List.getElem_mem hlt')
      generalize l[k] = p at hc hcs hsz
      have HJ := judge_any p h (decide (k + 1 = n)) (by omega) (by omega)
      obtain ⟨J, hJ⟩ : ∃ J, J = jd p h (decide (k + 1 = n)) := ⟨_, rfl⟩
      rw [← hJ] at hcs HJ
      obtain ⟨id, m, of, ttl, pr, a, b', s⟩ := p
      obtain ⟨c0, c1, c2, c3, c4, c5, c6, c7, c8, c9, c10, c11, c12, c13⟩ := hc
      simp only at c0 c1 c2 c3 c4 c5 c6 c7 c8 c9 c10 c11 c12 c13 hsz hcs
      have hbs := hb.size
      clear hJ
      obtain ⟨B, hB⟩ : ∃ B, Hid (B = decide (k + 1 = n)) := ⟨_, rfl⟩
      rw [← hB.out] at HJ
      have HJ := Lib.hid HJ
      have e1 : ((k : Int) == (n : Int) - 1) = B := by rw [hB.out]; by_cases e : k + 1 = n <;> simp [e] <;> omega
      have kb : Hid (Below w.heap.size w (wr.alloc (pkC id m of ttl pr a b' s))) := hb.alloc hbs _
      by_cases hj : J = 0
      · subst hj
        rw [if_pos rfl] at hcs
        have HC := Lib.hid (hcs.symm.trans ht.out)
        clear hcs
        go_wp2_with (go_at_call 32; (with_reducible refine (HJ.out _).mono ?_); rintro r w2 ⟨rfl, hb2⟩
                     (have L2 := lies_below (heap_alloc_new wr (pkC id m of ttl pr a b' s)) hb2 (by simp))
                     (have c13 : w2.cell? ⟨wr.heap.size, 13, none⟩ = some (.string s) := lies_cell L2 13)
                     (clear L2))
        go_roundw
        case rel => exact ⟨k + 1, h + s.size, by omega, by go_num, by go_num, by omega, HC.out, kb.out.trans (hb2.mono kb.out.size)⟩
        case measure => simp [intOf]; omega
      · have hj0 : (J != 0) = true := by simpa using hj
        rw [if_neg hj] at hcs
        have HC := Lib.hid (hcs.symm.trans ht.out)
        clear hcs
        go_wp2_with (go_at_call 32; (with_reducible refine (HJ.out _).mono ?_); rintro r w2 ⟨rfl, hb2⟩)
        go_returns
        rw [← HC.out]
        exact ⟨rfl, kb.out.trans (hb2.mono kb.out.size)⟩
    · have HC : Hid (((h : Int), (0 : Int)) = M) := by
        show _ = _
        rw [← ht.out, List.drop_of_length_le (by rw [← Hn.out]; omega)]; rfl
      go_wp2
      go_returns
      rw [← HC.out]
      exact ⟨rfl, hb⟩
end Go.Proofs.Ytiedfdnjnjohdaa
