/- The walk of the law BitsWrites. -/
import Derived.Test.YtbdhneoicfciiaaIt
namespace Go.Proofs.Ytbdhneoicfciiaa
open Go.RowKit Go.Proofs.PitotMath

theorem Chain.keepOther {w w' : World} {b r : Nat} {cs : Array Value} (hg : w.grownBy w' (some r)) (hr : w.heap[r]? = some (.cells cs 31)) : ∀ {ts : List ByteArray} {p : Option Addr}, Chain w b p ts → Chain w' b p ts
  | [], _, h => h
  | _ :: _, _, ⟨c, q, h1, h2, h3, h4⟩ => ⟨c, q, h1, h2, (hg.block c (lies_lt h3) (fun e => by cases e; rw [hr] at h3; cases h3)).trans h3, Chain.keepOther hg hr h4⟩

theorem WrAt.keepOther {w w' : World} {b n r : Nat} {st : Option (List UInt8)} {cs : Array Value} (h : WrAt w b n st) (hg : w.grownBy w' (some r)) (hr : w.heap[r]? = some (.cells cs 31)) : WrAt w' b n st := by
  match st, h with
  | none, h => exact (hg.block b (lies_lt (w := w) h) (fun e => by cases e; unfold WrAt at h; rw [hr] at h; cases h)).trans h
  | some l, ⟨p, last, ts, hb, hc, hn, hl⟩ => exact ⟨p, last, ts, (hg.block b (lies_lt hb) (fun e => by cases e; rw [hr] at hb; cases hb)).trans hb, Chain.keepOther hg hr hc, hn, hl⟩

theorem PlAt.lies {w : World} {r : Nat} {st : Option (List UInt8)} (h : PlAt w r st) : ∃ cs, w.heap[r]? = some (.cells cs 31) := by
  match st, h with
  | none, ⟨s, h⟩ => exact ⟨_, h⟩
  | some l, h => exact ⟨_, h⟩

theorem PlAt.grown {w w' : World} {r b : Nat} {st : Option (List UInt8)} (h : PlAt w r st) (hg : w.grownBy w' (some b)) (hne : r ≠ b) : PlAt w' r st := by
  match st, h with
  | none, ⟨s, h⟩ => exact ⟨s, (hg.block r (lies_lt h) (by simpa using hne)).trans h⟩
  | some l, h => exact (hg.block r (lies_lt (w := w) h) (by simpa using hne)).trans h

theorem bits_len {xs ns : List Int} {l : List UInt8} (h : bitsOf xs ns = some l) : l.length ≤ 4 := by
  unfold bitsOf at h
  split at h
  · next hc =>
    obtain ⟨tot, m, _, _, hm3, hr⟩ := tog_ok hc.1
    rw [hr] at h
    cases hp : packGo xs ns 0 with
    | none => rw [hp] at h; cases h
    | some a =>
      rw [hp] at h
      simp at h
      rw [← h, be_length]
      omega
  · cases h

theorem itStep_len {st : Option (List UInt8)} {t : It} {l : List UInt8} {k : Nat} (hs : t.s.size ≤ 500) (hl : ∀ l, st = some l → l.length ≤ 500 * k) (h : itStep st t = some l) : l.length ≤ 500 * (k + 1) := by
  have put : ∀ m v, m ≤ 4 → putStep st m v = some l → l.length ≤ 500 * (k + 1) := by
    intro m v hm h
    unfold putStep at h
    split at h
    · cases hst : st with
      | none => rw [hst] at h; cases h
      | some l0 => rw [hst] at h; simp at h; have := hl l0 hst; rw [← h]; simp [be_length]; omega
    · cases h
  unfold itStep at h
  split at h
  · exact put 1 _ (by omega) h
  · split at h
    · exact put 2 _ (by omega) h
    · split at h
      · exact put 4 _ (by omega) h
      · split at h
        · cases hst : st with
          | none => rw [hst] at h; cases h
          | some l0 =>
            rw [hst] at h; simp at h; have := hl l0 hst; rw [← h]
            have e : t.s.data.size = t.s.size := rfl
            simp; omega
        · split at h
          · cases hst : st with
            | none => rw [hst] at h; cases h
            | some l0 =>
              rw [hst] at h
              unfold bitsStep at h
              cases hb : bitsOf t.xs t.ys with
              | none => rw [hb] at h; cases h
              | some lb => rw [hb] at h; simp at h; have := hl l0 hst; have := bits_len hb; rw [← h]; simp; omega
          · have := hl l h; omega

theorem write_at (b n : Nat) (st : Option (List UInt8)) (t : It) (w : World) (h : WrAt w b n st) (hll : ∀ l, st = some l → l.length ≤ 900000) (hA : IntsAt w t.A t.xs) (hB : IntsAt w t.B t.ys) (hs : t.s.size ≤ 1000000) (hxl : t.xs.length ≤ 1000000) :
    Calls Try.prog 11 #[.pointer (some ⟨b, 0, none⟩), .agg #[.int .i64 t.ask, .int .i64 t.n, .string t.s, .slice t.A t.xs.length t.ca, .slice t.B t.ys.length t.cb]] w fun e w' => e = .returned (.tuple #[]) ∧ WrAt w' b (n + 1) (itStep st t) ∧ w.grownBy w' (some b) :=
  write_any b n st t w h hll hA hB hs hxl

theorem plain_at (r : Nat) (st : Option (List UInt8)) (t : It) (w : World) (h : PlAt w r st) (hll : ∀ l, st = some l → l.length ≤ 900000) (hA : IntsAt w t.A t.xs) (hB : IntsAt w t.B t.ys) (hs : t.s.size ≤ 1000000) (hxl : t.xs.length ≤ 1000000) :
    Calls Try.prog 12 #[.pointer (some ⟨r, 0, none⟩), .agg #[.int .i64 t.ask, .int .i64 t.n, .string t.s, .slice t.A t.xs.length t.ca, .slice t.B t.ys.length t.cb]] w fun e w' => e = .returned (.tuple #[]) ∧ PlAt w' r (itStep st t) ∧ w.grownBy w' (some r) :=
  plain_any r st t w h hll hA hB hs hxl

theorem few_at {l : List It} (h : fewB l = true) {k : Nat} (hk : k < l.length) : l[k].s.size ≤ 500 ∧ l[k].xs.length ≤ 40 ∧ l[k].ys.length ≤ 40 := by
  unfold fewB at h
  rw [Bool.and_eq_true] at h
  exact of_decide_eq_true (List.all_eq_true.1 h.2 l[k] (List.getElem_mem hk))

theorem few_len {l : List It} (h : fewB l = true) : l.length ≤ 40 := by
  unfold fewB at h
  rw [Bool.and_eq_true] at h
  exact of_decide_eq_true h.1

set_option maxHeartbeats 2000000 in
theorem writes_walk (Ad : Option Addr) (cap : Nat) (l : List It) (w : World) (hi : ItemsAt w Ad l) (hlen : l.length ≤ 9223372036854775807) :
    Calls Try.prog 3 #[.slice Ad l.length cap] w fun e w' => e = .returned (.bool true) ∧ Below w.heap.size w w' := by
  obtain ⟨n, HN⟩ : ∃ n, Hid (n = l.length) := ⟨_, rfl⟩
  have hfew := few_any Ad cap l w hi n HN.out (by rw [HN.out]; exact hlen)
  have HF := Lib.hid hfew; clear hfew
  rw [← HN.out] at hlen ⊢
  cases hf : fewB l with
  | false =>
    go_enter Try.func3, Try.ntmps3
    go_wp2_with (first
      | (go_at_call 9; refine HF.out.mono ?_; rintro e w' ⟨rfl, rfl⟩; rw [hf])
      | (go_at_call 10; refine (awake_any _).mono ?_; rintro e w1 ⟨rfl, hb1⟩))
    go_returns
    exact ⟨rfl, hb1⟩
  | true =>
    have hn40 : n ≤ 40 := by rw [HN.out]; exact few_len hf
    go_enter Try.func3, Try.ntmps3
    go_wp2_with (go_at_call 9; refine HF.out.mono ?_; rintro e w' ⟨rfl, rfl⟩; rw [hf])
    have hw0 : WrAt ((w.alloc (.cells #[.pointer none, .string ⟨#[]⟩, .bool false] 28)).alloc (.cells #[.string ⟨#[]⟩, .bool false] 31)) w.heap.size 0 (some []) := wr_zero (lies_alloc (heap_alloc_new w _) _)
    have hp0 : PlAt ((w.alloc (.cells #[.pointer none, .string ⟨#[]⟩, .bool false] 28)).alloc (.cells #[.string ⟨#[]⟩, .bool false] 31)) (w.heap.size + 1) (some []) := by
      have := heap_alloc_new (w.alloc (.cells #[.pointer none, .string ⟨#[]⟩, .bool false] 28)) (.cells #[.string ⟨#[]⟩, .bool false] 31)
      rw [World.size_alloc] at this
      exact this
    have hb0 : Below w.heap.size w ((w.alloc (.cells #[.pointer none, .string ⟨#[]⟩, .bool false] 28)).alloc (.cells #[.string ⟨#[]⟩, .bool false] 31)) := ((Below.refl _ _).alloc (Nat.le_refl _) _).alloc (by simp) _
    go_loopw [5] (fun v5 wr => ∃ (k : Nat) (st : Option (List UInt8)), k ≤ n ∧ v5 = .int .i64 k ∧ WrAt wr w.heap.size k st ∧ PlAt wr (w.heap.size + 1) st ∧ Below w.heap.size w wr ∧ Hid (∀ l, st = some l → l.length ≤ 500 * k)) (fun v5 _ => n - (intOf v5).toNat)
    case atStart => exact ⟨0, some [], Nat.zero_le _, rfl, hw0, hp0, hb0, fun l e => by cases e; simp⟩
    case round =>
      obtain ⟨k, st, hk, rfl, hwr, hpl, hbw, hsl⟩ := hrel
      clear hw0 hp0 hb0
      by_cases hlt : k < n
      · have hlt' : k < l.length := by rw [← HN.out]; exact hlt
        obtain ⟨b, off, rfl, hb, hit⟩ := hi.get hlt'
        obtain ⟨t, Ht⟩ : ∃ t, Hid (t = l[k]) := ⟨l[k], rfl⟩
        have hsz := few_at hf hlt'
        rw [← Ht.out] at hit hsz
        obtain ⟨z1, z2, z3⟩ := hsz
        have hst9 : ∀ l, st = some l → l.length ≤ 900000 := fun l e => by have := hsl.out l e; omega
        have HST := Lib.hid hst9; clear hst9
        have hlen' : ∀ l, itStep st t = some l → l.length ≤ 500 * (k + 1) := fun l e => itStep_len z1 hsl.out e
        have HL' := Lib.hid hlen'; clear hlen'
        obtain ⟨a0, a1, a2, a3, a4, a5, a6⟩ := hit.below hb hbw
        have HIT := Lib.hid hit; clear hit
        cases hst : itStep st t with
        | none =>
          go_wp2_with (first
            | (go_at_call 11; refine (write_at w.heap.size k st t wr hwr HST.out a5 a6 (by omega) (by omega)).mono ?_; rintro e w1 ⟨rfl, h1, hg1⟩; have hb1 := hbw.grown hg1 hbw.size (fun k hk => by cases hk; exact Nat.le_refl _); obtain ⟨a0', a1', a2', a3', a4', a5', a6'⟩ := HIT.out.below hb hb1; have hp1 := hpl.grown hg1 (by omega))
            | (go_at_call 12; refine (plain_at (w.heap.size + 1) st t w1 hp1 HST.out a5' a6' (by omega) (by omega)).mono ?_; rintro e w2 ⟨rfl, h2, hg2⟩; obtain ⟨cs, hcs⟩ := hp1.lies; have h3 := h1.keepOther hg2 hcs; rw [hst] at h2 h3; clear hcs)
            | (go_at_call 13; refine (bytes_wrong w.heap.size (k + 1) w2 h3).mono ?_; rintro e w3 ⟨rfl, rfl⟩)
            | (go_at_call 14; refine (pbytes_none (w.heap.size + 1) w2 h2).mono ?_; rintro e w4 ⟨rfl, rfl⟩))
          go_roundw
          case rel => exact ⟨k + 1, none, by omega, by go_num, h3, h2, hb1.grown hg2 hb1.size (fun k hk => by cases hk; omega), fun l e => by cases e⟩
          case measure => simp [intOf]; omega
        | some l' =>
          have hl1 := HL'.out l' hst
          go_wp2_with (first
            | (go_at_call 11; refine (write_at w.heap.size k st t wr hwr HST.out a5 a6 (by omega) (by omega)).mono ?_; rintro e w1 ⟨rfl, h1, hg1⟩; have hb1 := hbw.grown hg1 hbw.size (fun k hk => by cases hk; exact Nat.le_refl _); obtain ⟨a0', a1', a2', a3', a4', a5', a6'⟩ := HIT.out.below hb hb1; have hp1 := hpl.grown hg1 (by omega))
            | (go_at_call 12; refine (plain_at (w.heap.size + 1) st t w1 hp1 HST.out a5' a6' (by omega) (by omega)).mono ?_; rintro e w2 ⟨rfl, h2, hg2⟩; obtain ⟨cs, hcs⟩ := hp1.lies; have h3 := h1.keepOther hg2 hcs; rw [hst] at h2 h3; clear hcs)
            | (go_at_call 13; refine (bytes_any w.heap.size (k + 1) l' w2 h3 (by omega) (by omega)).mono ?_; rintro e w3 ⟨rfl, hb3⟩; have h2' := h2.below hb3)
            | (go_at_call 14; refine (pbytes_some (w.heap.size + 1) l' w3 h2').mono ?_; rintro e w4 ⟨rfl, rfl⟩))
          go_roundw
          case rel =>
            have hb2 := hb1.grown hg2 hb1.size (fun k hk => by cases hk; omega)
            exact ⟨k + 1, some l', by omega, by go_num, h3.below hb3, h2', hb2.trans (hb3.mono hb2.size), fun l e => by cases e; exact hl1⟩
          case measure => simp [intOf]; omega
      · go_wp2_with (go_at_call 10; refine (awake_any wr).mono ?_; rintro e w1 ⟨rfl, hb1⟩)
        go_returns
        exact ⟨rfl, hbw.trans (hb1.mono hbw.size)⟩
end Go.Proofs.Ytbdhneoicfciiaa
