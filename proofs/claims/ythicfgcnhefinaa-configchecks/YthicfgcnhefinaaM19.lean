/- Merged: Cl, Ro, Cf, Pq. -/
import Derived.Test.YthicfgcnhefinaaM4
import Derived.Test.YthicfgcnhefinaaM17
import Derived.Test.YthicfgcnhefinaaM18
import Derived.Test.YthicfgcnhefinaaM7
import Derived.Test.YthicfgcnhefinaaM16
set_option linter.unusedVariables false
/- The document's link: the first condition (trial). -/
set_option maxRecDepth 100000
namespace Go.Proofs.Ythicfgcnhefinaa
open Go.RowKit

set_option maxHeartbeats 4000000 in
theorem link_bad (c : Cx) (i : Nat) (x : Vx) (w : World) (hc : c.Held w) (hi : i < c.vls.length) (hx : c.vls[i] = x)
    (h : 256 ≤ i ∨ x.id < 1 ∨ 65535 < x.id ∨ PitotConf.isHost c.hosts x.host = false ∨ x.bag < 0 ∨ 7 < x.bag ∨ x.smax < 64 ∨ 1518 < x.smax ∨ x.subs < 1 ∨ 4 < x.subs ∨ x.skew < 0 ∨ 1073741824 < x.skew ∨ x.to = []) : Calls Try.prog 34 #[c.val, .int .i64 i] w fun e w' => e = .returned (.int .i64 1) ∧ Below w.heap.size w w' := by
  obtain ⟨hosts, pA, pc, parts, major, wA, wk, wins, vA, vc, vls, qA, qc, ports⟩ := c
  obtain ⟨n, Hn⟩ : ∃ n, Hid (vls.length = n) := ⟨_, rfl⟩
  simp only at hc hi hx h ⊢
  have HV : Hid (VxsAt w vA vls) := hc.2.2.1
  clear hc
  show Calls Try.prog 34 #[.agg #[.int .i64 hosts, .slice pA parts.length pc, .int .i64 major, .slice wA wins.length wk, .slice vA vls.length vc, .slice qA ports.length qc], .int .i64 i] w _
  rw [Hn.out] at hi ⊢
  have hil : i < vls.length := by rw [Hn.out]; exact hi
  obtain ⟨b, off, rfl, hb, hat, hxh⟩ := HV.out.get hil
  rw [hx] at hat hxh
  have HXH := Lib.hid hxh; clear hxh
  have HXI := Lib.hid hx; clear hx
  have k1 : Below w.heap.size w (w.alloc (.cells #[.int .i64 hosts, .slice pA parts.length pc, .int .i64 major, .slice wA wins.length wk, .slice (some ⟨b, off, none⟩) n vc, .slice qA ports.length qc] 27)) := (Below.refl _ w).alloc (Nat.le_refl _) _
  have hat := hat.below k1 hb
  obtain ⟨tl, Htl⟩ : ∃ tl, Hid (x.to.length = tl) := ⟨_, rfl⟩
  unfold VxAt at hat
  rw [Htl.out] at hat
  obtain ⟨a0, a1, a2, a3, a4, a5, a6, a7⟩ := hat
  have hiI : (i : Int) < (n : Int) := by omega
  have hH := fun w => host_any ⟨hosts, pA, pc, parts, major, wA, wk, wins, some ⟨b, off, none⟩, vc, vls, qA, qc, ports⟩ x.host w
  obtain ⟨P, HPP⟩ : ∃ P, Hid (PitotConf.isHost hosts x.host = P) := ⟨_, rfl⟩
  have hP : ∀ w, Calls Try.prog 32 #[.agg #[.int .i64 hosts, .slice pA parts.length pc, .int .i64 major, .slice wA wins.length wk, .slice (some ⟨b, off, none⟩) n vc, .slice qA ports.length qc], .int .i64 x.host] w fun e w' => e = .returned (.bool P) ∧ Below w.heap.size w w' := fun w => by
    have := hH w
    rw [show PitotConf.isHost hosts x.host = P from HPP.out] at this
    rw [← Hn.out]
    exact this
  have HP := Lib.hid hP
  clear hP hH
  rw [show PitotConf.isHost hosts x.host = P from HPP.out] at h
  have h := Lib.hid h
  go_enter Try.func34, Try.ntmps34
  go_upto_region 2 with (fail)
  have CB : Hid (((w.alloc (.cells #[.int .i64 hosts, .slice pA parts.length pc, .int .i64 major, .slice wA wins.length wk, .slice (some ⟨b, off, none⟩) n vc, .slice qA ports.length qc] 27)).alloc (.cells #[.int .i64 x.id, .int .i64 x.host, .int .i64 x.bag, .int .i64 x.smax, .bool x.high, .int .i64 x.subs, .int .i64 x.skew, .slice x.toA tl x.toc] 38)).heap[w.heap.size]? = some (.cells #[.int .i64 hosts, .slice pA parts.length pc, .int .i64 major, .slice wA wins.length wk, .slice (some ⟨b, off, none⟩) n vc, .slice qA ports.length qc] 27)) := lies_alloc (heap_alloc_new w _) _
  have XB : Hid (((w.alloc (.cells #[.int .i64 hosts, .slice pA parts.length pc, .int .i64 major, .slice wA wins.length wk, .slice (some ⟨b, off, none⟩) n vc, .slice qA ports.length qc] 27)).alloc (.cells #[.int .i64 x.id, .int .i64 x.host, .int .i64 x.bag, .int .i64 x.smax, .bool x.high, .int .i64 x.subs, .int .i64 x.skew, .slice x.toA tl x.toc] 38)).heap[w.heap.size + 1]? = some (.cells #[.int .i64 x.id, .int .i64 x.host, .int .i64 x.bag, .int .i64 x.smax, .bool x.high, .int .i64 x.subs, .int .i64 x.skew, .slice x.toA tl x.toc] 38)) := by
    have := heap_alloc_new (w.alloc (.cells #[.int .i64 hosts, .slice pA parts.length pc, .int .i64 major, .slice wA wins.length wk, .slice (some ⟨b, off, none⟩) n vc, .slice qA ports.length qc] 27)) (.cells #[.int .i64 x.id, .int .i64 x.host, .int .i64 x.bag, .int .i64 x.smax, .bool x.high, .int .i64 x.subs, .int .i64 x.skew, .slice x.toA tl x.toc] 38)
    rw [World.size_alloc] at this
    exact this
  have BB : Hid (Below w.heap.size w ((w.alloc (.cells #[.int .i64 hosts, .slice pA parts.length pc, .int .i64 major, .slice wA wins.length wk, .slice (some ⟨b, off, none⟩) n vc, .slice qA ports.length qc] 27)).alloc (.cells #[.int .i64 x.id, .int .i64 x.host, .int .i64 x.bag, .int .i64 x.smax, .bool x.high, .int .i64 x.subs, .int .i64 x.skew, .slice x.toA tl x.toc] 38))) := k1.alloc k1.size _
  clear a0 a1 a2 a3 a4 a5 a6 a7 k1
  generalize (w.alloc (.cells #[.int .i64 hosts, .slice pA parts.length pc, .int .i64 major, .slice wA wins.length wk, .slice (some ⟨b, off, none⟩) n vc, .slice qA ports.length qc] 27)).alloc (.cells #[.int .i64 x.id, .int .i64 x.host, .int .i64 x.bag, .int .i64 x.smax, .bool x.high, .int .i64 x.subs, .int .i64 x.skew, .slice x.toA tl x.toc] 38) = W1 at CB XB BB ⊢
  obtain ⟨c0, c1, c2, c3, c4, c5⟩ := cells_6 CB.out
  obtain ⟨x0, x1, x2, x3, x4, x5, x6, x7⟩ := cells_8 XB.out
  by_cases g0 : 256 ≤ i
  · have f0 : decide (256 ≤ (i : Int)) = true := decide_eq_true (by omega)
    have f0' : decide (256 ≤ i) = true := decide_eq_true g0
    go_wp2
    go_returns
    exact ⟨rfl, BB.out⟩
  · have f0 : decide (256 ≤ (i : Int)) = false := decide_eq_false (by omega)
    have f0' : decide (256 ≤ i) = false := decide_eq_false g0
    by_cases g1 : x.id < 1
    · have f1 : decide (x.id < 1) = true := decide_eq_true g1
      go_wp2
      go_returns
      exact ⟨rfl, BB.out⟩
    · have f1 : decide (x.id < 1) = false := decide_eq_false g1
      by_cases g2 : 65535 < x.id
      · have f2 : decide (65535 < x.id) = true := decide_eq_true g2
        go_wp2
        go_returns
        exact ⟨rfl, BB.out⟩
      · have f2 : decide (65535 < x.id) = false := decide_eq_false g2
        cases P
        · go_wp2_with (first
            | (go_at_call 32; (with_reducible refine (HP.out _).mono ?_); rintro e w2 ⟨rfl, hb2⟩
               (have C2 := Lib.hid (lies_below CB.out hb2 (lies_lt CB.out)))
               (have X2 := Lib.hid (lies_below XB.out hb2 (lies_lt XB.out)))
               (have B2 := Lib.hid (BB.out.trans (hb2.mono BB.out.size)))
               (clear hb2 c0 c1 c2 c3 c4 c5 x0 x1 x2 x3 x4 x5 x6 x7)
               (obtain ⟨c0, c1, c2, c3, c4, c5⟩ := cells_6 C2.out)
               (obtain ⟨x0, x1, x2, x3, x4, x5, x6, x7⟩ := cells_8 X2.out)))
          go_returns
          exact ⟨rfl, B2.out⟩
        · skip
          by_cases g4 : x.bag < 0
          · have f4 : decide (x.bag < 0) = true := decide_eq_true g4
            go_wp2_with (first
              | (go_at_call 32; (with_reducible refine (HP.out _).mono ?_); rintro e w2 ⟨rfl, hb2⟩
                 (have C2 := Lib.hid (lies_below CB.out hb2 (lies_lt CB.out)))
                 (have X2 := Lib.hid (lies_below XB.out hb2 (lies_lt XB.out)))
                 (have B2 := Lib.hid (BB.out.trans (hb2.mono BB.out.size)))
                 (clear hb2 c0 c1 c2 c3 c4 c5 x0 x1 x2 x3 x4 x5 x6 x7)
                 (obtain ⟨c0, c1, c2, c3, c4, c5⟩ := cells_6 C2.out)
                 (obtain ⟨x0, x1, x2, x3, x4, x5, x6, x7⟩ := cells_8 X2.out)))
            go_returns
            exact ⟨rfl, B2.out⟩
          · have f4 : decide (x.bag < 0) = false := decide_eq_false g4
            by_cases g5 : 7 < x.bag
            · have f5 : decide (7 < x.bag) = true := decide_eq_true g5
              go_wp2_with (first
                | (go_at_call 32; (with_reducible refine (HP.out _).mono ?_); rintro e w2 ⟨rfl, hb2⟩
                   (have C2 := Lib.hid (lies_below CB.out hb2 (lies_lt CB.out)))
                   (have X2 := Lib.hid (lies_below XB.out hb2 (lies_lt XB.out)))
                   (have B2 := Lib.hid (BB.out.trans (hb2.mono BB.out.size)))
                   (clear hb2 c0 c1 c2 c3 c4 c5 x0 x1 x2 x3 x4 x5 x6 x7)
                   (obtain ⟨c0, c1, c2, c3, c4, c5⟩ := cells_6 C2.out)
                   (obtain ⟨x0, x1, x2, x3, x4, x5, x6, x7⟩ := cells_8 X2.out)))
              go_returns
              exact ⟨rfl, B2.out⟩
            · have f5 : decide (7 < x.bag) = false := decide_eq_false g5
              by_cases g6 : x.smax < 64
              · have f6 : decide (x.smax < 64) = true := decide_eq_true g6
                go_wp2_with (first
                  | (go_at_call 32; (with_reducible refine (HP.out _).mono ?_); rintro e w2 ⟨rfl, hb2⟩
                     (have C2 := Lib.hid (lies_below CB.out hb2 (lies_lt CB.out)))
                     (have X2 := Lib.hid (lies_below XB.out hb2 (lies_lt XB.out)))
                     (have B2 := Lib.hid (BB.out.trans (hb2.mono BB.out.size)))
                     (clear hb2 c0 c1 c2 c3 c4 c5 x0 x1 x2 x3 x4 x5 x6 x7)
                     (obtain ⟨c0, c1, c2, c3, c4, c5⟩ := cells_6 C2.out)
                     (obtain ⟨x0, x1, x2, x3, x4, x5, x6, x7⟩ := cells_8 X2.out)))
                go_returns
                exact ⟨rfl, B2.out⟩
              · have f6 : decide (x.smax < 64) = false := decide_eq_false g6
                by_cases g7 : 1518 < x.smax
                · have f7 : decide (1518 < x.smax) = true := decide_eq_true g7
                  go_wp2_with (first
                    | (go_at_call 32; (with_reducible refine (HP.out _).mono ?_); rintro e w2 ⟨rfl, hb2⟩
                       (have C2 := Lib.hid (lies_below CB.out hb2 (lies_lt CB.out)))
                       (have X2 := Lib.hid (lies_below XB.out hb2 (lies_lt XB.out)))
                       (have B2 := Lib.hid (BB.out.trans (hb2.mono BB.out.size)))
                       (clear hb2 c0 c1 c2 c3 c4 c5 x0 x1 x2 x3 x4 x5 x6 x7)
                       (obtain ⟨c0, c1, c2, c3, c4, c5⟩ := cells_6 C2.out)
                       (obtain ⟨x0, x1, x2, x3, x4, x5, x6, x7⟩ := cells_8 X2.out)))
                  go_returns
                  exact ⟨rfl, B2.out⟩
                · have f7 : decide (1518 < x.smax) = false := decide_eq_false g7
                  by_cases g8 : x.subs < 1
                  · have f8 : decide (x.subs < 1) = true := decide_eq_true g8
                    go_wp2_with (first
                      | (go_at_call 32; (with_reducible refine (HP.out _).mono ?_); rintro e w2 ⟨rfl, hb2⟩
                         (have C2 := Lib.hid (lies_below CB.out hb2 (lies_lt CB.out)))
                         (have X2 := Lib.hid (lies_below XB.out hb2 (lies_lt XB.out)))
                         (have B2 := Lib.hid (BB.out.trans (hb2.mono BB.out.size)))
                         (clear hb2 c0 c1 c2 c3 c4 c5 x0 x1 x2 x3 x4 x5 x6 x7)
                         (obtain ⟨c0, c1, c2, c3, c4, c5⟩ := cells_6 C2.out)
                         (obtain ⟨x0, x1, x2, x3, x4, x5, x6, x7⟩ := cells_8 X2.out)))
                    go_returns
                    exact ⟨rfl, B2.out⟩
                  · have f8 : decide (x.subs < 1) = false := decide_eq_false g8
                    by_cases g9 : 4 < x.subs
                    · have f9 : decide (4 < x.subs) = true := decide_eq_true g9
                      go_wp2_with (first
                        | (go_at_call 32; (with_reducible refine (HP.out _).mono ?_); rintro e w2 ⟨rfl, hb2⟩
                           (have C2 := Lib.hid (lies_below CB.out hb2 (lies_lt CB.out)))
                           (have X2 := Lib.hid (lies_below XB.out hb2 (lies_lt XB.out)))
                           (have B2 := Lib.hid (BB.out.trans (hb2.mono BB.out.size)))
                           (clear hb2 c0 c1 c2 c3 c4 c5 x0 x1 x2 x3 x4 x5 x6 x7)
                           (obtain ⟨c0, c1, c2, c3, c4, c5⟩ := cells_6 C2.out)
                           (obtain ⟨x0, x1, x2, x3, x4, x5, x6, x7⟩ := cells_8 X2.out)))
                      go_returns
                      exact ⟨rfl, B2.out⟩
                    · have f9 : decide (4 < x.subs) = false := decide_eq_false g9
                      by_cases g10 : x.skew < 0
                      · have f10 : decide (x.skew < 0) = true := decide_eq_true g10
                        go_wp2_with (first
                          | (go_at_call 32; (with_reducible refine (HP.out _).mono ?_); rintro e w2 ⟨rfl, hb2⟩
                             (have C2 := Lib.hid (lies_below CB.out hb2 (lies_lt CB.out)))
                             (have X2 := Lib.hid (lies_below XB.out hb2 (lies_lt XB.out)))
                             (have B2 := Lib.hid (BB.out.trans (hb2.mono BB.out.size)))
                             (clear hb2 c0 c1 c2 c3 c4 c5 x0 x1 x2 x3 x4 x5 x6 x7)
                             (obtain ⟨c0, c1, c2, c3, c4, c5⟩ := cells_6 C2.out)
                             (obtain ⟨x0, x1, x2, x3, x4, x5, x6, x7⟩ := cells_8 X2.out)))
                        go_returns
                        exact ⟨rfl, B2.out⟩
                      · have f10 : decide (x.skew < 0) = false := decide_eq_false g10
                        by_cases g11 : 1073741824 < x.skew
                        · have f11 : decide (1073741824 < x.skew) = true := decide_eq_true g11
                          go_wp2_with (first
                            | (go_at_call 32; (with_reducible refine (HP.out _).mono ?_); rintro e w2 ⟨rfl, hb2⟩
                               (have C2 := Lib.hid (lies_below CB.out hb2 (lies_lt CB.out)))
                               (have X2 := Lib.hid (lies_below XB.out hb2 (lies_lt XB.out)))
                               (have B2 := Lib.hid (BB.out.trans (hb2.mono BB.out.size)))
                               (clear hb2 c0 c1 c2 c3 c4 c5 x0 x1 x2 x3 x4 x5 x6 x7)
                               (obtain ⟨c0, c1, c2, c3, c4, c5⟩ := cells_6 C2.out)
                               (obtain ⟨x0, x1, x2, x3, x4, x5, x6, x7⟩ := cells_8 X2.out)))
                          go_returns
                          exact ⟨rfl, B2.out⟩
                        · have f11 : decide (1073741824 < x.skew) = false := decide_eq_false g11
                          have ht0 : tl = 0 := by
                            rcases h.out with h | h | h | h | h | h | h | h | h | h | h | h | h <;> first | omega | (cases h) | (rw [← Htl.out, h]; rfl)
                          subst ht0
                          go_wp2_with (first
                            | (go_at_call 32; (with_reducible refine (HP.out _).mono ?_); rintro e w2 ⟨rfl, hb2⟩
                               (have C2 := Lib.hid (lies_below CB.out hb2 (lies_lt CB.out)))
                               (have X2 := Lib.hid (lies_below XB.out hb2 (lies_lt XB.out)))
                               (have B2 := Lib.hid (BB.out.trans (hb2.mono BB.out.size)))
                               (clear hb2 c0 c1 c2 c3 c4 c5 x0 x1 x2 x3 x4 x5 x6 x7)
                               (obtain ⟨c0, c1, c2, c3, c4, c5⟩ := cells_6 C2.out)
                               (obtain ⟨x0, x1, x2, x3, x4, x5, x6, x7⟩ := cells_8 X2.out)))
                          go_returns
                          exact ⟨rfl, B2.out⟩
end Go.Proofs.Ythicfgcnhefinaa
/- The document's Check. -/
set_option maxRecDepth 100000
namespace Go.Proofs.Ythicfgcnhefinaa
open Go.RowKit

/-- What a list's judge tells at a place. -/
def at_ {α : Type} (J : List α → α → Int) (l : List α) (k : Nat) : Int := if h : k < l.length then J (l.take k) l[k] else 0
theorem at_eq {α : Type} (J : List α → α → Int) (l : List α) (k : Nat) (h : k < l.length) : at_ J l k = J (l.take k) l[k] := dif_pos h
theorem at_hit {α : Type} {J : List α → α → Int} {l : List α} {k : Nat} (hk : k < l.length) (hp : ∀ q, q < k → at_ J l q = 0) (h : at_ J l k ≠ 0) : told (PitotConf.scan J [] l) = ((k : Int), at_ J l k) := by
  have : PitotConf.scan J [] l = some (k, at_ J l k) := by
    rw [PitotConf.scan_some]
    refine ⟨k, hk, by simp, by rw [at_eq J l k hk]; rfl, h, fun q hq => ?_⟩
    have := hp q hq
    rw [at_eq J l q (by omega)] at this
    exact this
  rw [this]; rfl
theorem at_none {α : Type} {J : List α → α → Int} {l : List α} (hp : ∀ q, q < l.length → at_ J l q = 0) : (told (PitotConf.scan J [] l)).2 = 0 := by
  have : PitotConf.scan J [] l = none := by
    rw [PitotConf.scan_none]
    intro i hi
    have := hp i hi
    rw [at_eq J l i hi] at this
    exact this
  rw [this]; rfl
theorem isPart_nohost {parts : List Int} {a : Int} : isPart parts a = false ↔ PitotConf.hostOf parts a = none := by
  unfold isPart PitotConf.hostOf
  by_cases h : 0 ≤ a
  · rw [if_pos h, List.getElem?_eq_none_iff, decide_eq_true h, Bool.true_and, decide_eq_false_iff_not]; omega
  · rw [if_neg h, decide_eq_false h, Bool.false_and]; simp
set_option maxHeartbeats 2000000 in
theorem refWin_all (c : Cx) (k : Nat) (w : World) (hc : c.Held w) (hk : k < c.wins.length) (hmaj : c.major ≤ 1073741824) (hpl : c.parts.length ≤ maxLen) (hwl : c.wins.length ≤ maxLen) (hp : ∀ q, q < k → at_ (PitotConf.winJ c.parts c.major) (c.wins.map Wn.pl) q = 0) : Calls Try.prog 33 #[c.val, .int .i64 k] w fun e w' => e = .returned (.int .i64 (at_ (PitotConf.winJ c.parts c.major) (c.wins.map Wn.pl) k)) ∧ Below w.heap.size w w' := by
  have hk2 : k < (c.wins.map Wn.pl).length := by simpa using hk
  have hlen : ((c.wins.map Wn.pl).take k).length = k := by simp; omega
  have hprev : ∀ q (hq : q < k), isPart c.parts (c.wins[q]'(by omega)).part = true ∧ 0 ≤ (c.wins[q]'(by omega)).beg ∧ 1 ≤ (c.wins[q]'(by omega)).long ∧ (c.wins[q]'(by omega)).beg + (c.wins[q]'(by omega)).long ≤ 1073741824 := fun q hq => by
    have h := hp q hq
    rw [at_eq _ _ q (by simp; omega), PitotConf.winJ] at h
    have hb := (PitotConf.ite0 (by decide) h).1
    simp only [not_or, List.getElem_map] at hb
    obtain ⟨_, h1, h2, h3, h4⟩ := hb
    refine ⟨?_, by omega, by omega, by omega⟩
    cases hh : isPart c.parts (c.wins[q]'(by omega)).part with
    | true => rfl
    | false => exact absurd (isPart_nohost.1 hh) h1
  rw [at_eq _ _ k hk2, PitotConf.winJ, hlen, List.getElem_map]
  by_cases hb : 256 ≤ k ∨ PitotConf.hostOf c.parts c.wins[k].pl.part = none ∨ c.wins[k].pl.beg < 0 ∨ c.wins[k].pl.long < 1 ∨ c.major < c.wins[k].pl.beg + c.wins[k].pl.long
  · rw [if_pos hb]
    refine win_bad c k c.wins[k] w hc hk rfl hmaj hpl ?_
    rcases hb with h | h | h | h | h
    · exact Or.inl h
    · exact Or.inr (Or.inl (isPart_nohost.2 h))
    · exact Or.inr (Or.inr (Or.inl h))
    · exact Or.inr (Or.inr (Or.inr (Or.inl h)))
    · have h : c.major < c.wins[k].beg + c.wins[k].long := h
      exact Or.inr (Or.inr (Or.inr (Or.inr (Or.inr (by omega)))))
  · rw [if_neg hb]
    simp only [not_or] at hb
    obtain ⟨h1, h2, h3, h4, h5⟩ := hb
    have hpt : isPart c.parts c.wins[k].part = true := by
      cases hh : isPart c.parts c.wins[k].part with
      | true => rfl
      | false => exact absurd (isPart_nohost.1 hh) h2
    have := win_good c k c.wins[k] w hc hk rfl hmaj hpl hwl (by omega) hpt (by omega) (by omega) (by omega) hprev
    rw [List.map_take] at this
    exact this
theorem mayV_bad {hosts : Int} {x : Vx} (h : mayV hosts x.id x.host x.bag x.smax x.subs x.skew x.to.length = false) : x.id < 1 ∨ 65535 < x.id ∨ PitotConf.isHost hosts x.host = false ∨ x.bag < 0 ∨ 7 < x.bag ∨ x.smax < 64 ∨ 1518 < x.smax ∨ x.subs < 1 ∨ 4 < x.subs ∨ x.skew < 0 ∨ 1073741824 < x.skew ∨ x.to = [] := by
  apply Classical.byContradiction
  intro hh
  have : mayV hosts x.id x.host x.bag x.smax x.subs x.skew x.to.length = true := by
    rw [mayV_id]
    simp only [not_or] at hh
    obtain ⟨a, b, c, d, e, f, g, h, i, j, n, o⟩ := hh
    exact ⟨by omega, by omega, by simpa using c, by omega, by omega, by omega, by omega, by omega, by omega, by omega, by omega, List.length_pos_iff.2 o⟩
  rw [this] at h; cases h
theorem refLink_all (c : Cx) (k : Nat) (w : World) (hc : c.Held w) (hk : k < c.vls.length) (htl : ∀ v ∈ c.vls, v.to.length ≤ 1000) : Calls Try.prog 34 #[c.val, .int .i64 k] w fun e w' => e = .returned (.int .i64 (at_ (PitotConf.linkJ c.hosts) (c.vls.map Vx.pl) k)) ∧ Below w.heap.size w w' := by
  have hk2 : k < (c.vls.map Vx.pl).length := by simpa using hk
  rw [at_eq _ _ k hk2, linkJ_eq c.hosts c.vls k hk]
  by_cases h256 : 256 ≤ k
  · rw [if_pos h256]
    exact link_bad c k c.vls[k] w hc hk rfl (Or.inl h256)
  rw [if_neg h256, linkP]
  by_cases hM : mayV c.hosts c.vls[k].id c.vls[k].host c.vls[k].bag c.vls[k].smax c.vls[k].subs c.vls[k].skew c.vls[k].to.length = false
  · rw [if_pos hM]
    exact link_bad c k c.vls[k] w hc hk rfl (Or.inr (mayV_bad hM))
  rw [if_neg hM]
  have hM : mayV c.hosts c.vls[k].id c.vls[k].host c.vls[k].bag c.vls[k].smax c.vls[k].subs c.vls[k].skew c.vls[k].to.length = true := by simpa using hM
  rw [mayV_id] at hM
  have hid := hM.1
  have hg := link_good c k c.vls[k] (aheadV (c.vls.take k)) w hc hk rfl (by omega) hM (by have := htl _ (List.getElem_mem hk); unfold maxLen; omega) (fun j hj => by subst hj; rw [aheadV_take c.vls j (by omega)])
  have e : linkR c.hosts (aheadV (c.vls.take k)) k c.vls[k] = (if decide (c.vls[k].id ≤ aheadV (c.vls.take k)) = true then 25 else if PitotConf.rises c.vls[k].to = false then 25 else if c.vls[k].to.any (fun n => !PitotConf.isHost c.hosts n || decide (n = c.vls[k].host)) = true then 20 else 0) := by
    rw [linkR]
    by_cases hk0 : 0 < k
    · rw [decide_eq_true hk0, Bool.true_and]
    · have hz : k = 0 := by omega
      have ha : aheadV (c.vls.take k) = 0 := by subst hz; rfl
      rw [decide_eq_false hk0, Bool.false_and, ha, if_neg (show ¬ (false = true) by decide), decide_eq_false (show ¬ (c.vls[k].id ≤ 0) by omega), if_neg (show ¬ (false = true) by decide)]
  rw [e] at hg
  exact hg
theorem refPort_all (c : Cx) (k : Nat) (w : World) (hc : c.Held w) (hk : k < c.ports.length) (hql : c.ports.length ≤ 1000) (hpl : c.parts.length ≤ maxLen) (hvl : c.vls.length ≤ maxLen) (hz : Sized c.vls) : Calls Try.prog 35 #[c.val, .int .i64 k] w fun e w' => e = .returned (.int .i64 (at_ (PitotConf.portJ c.parts (c.vls.map Vx.pl)) (c.ports.map Px.pl) k)) ∧ Below w.heap.size w w' := by
  rw [at_eq _ _ k (by simpa using hk)]
  exact refPort_any c k w hc hk hql hpl hvl hz
set_option maxHeartbeats 2000000 in
theorem refCheck_any (c : Cx) (hs : Sm c) (w : World) (hc : c.Held w) : Calls Try.prog 12 #[c.val] w fun e w' => e = .returned (.tuple #[.int .i64 (PitotConf.check c.pl).1, .int .i64 (PitotConf.check c.pl).2.1, .int .i64 (PitotConf.check c.pl).2.2]) ∧ Below w.heap.size w w' := by
  rw [check_eq]
  have hpl : c.parts.length ≤ maxLen := by have := hs.parts; unfold maxLen; omega
  have hvl : c.vls.length ≤ maxLen := by have := hs.vls; unfold maxLen; omega
  have hwl : c.wins.length ≤ maxLen := by have := hs.wins; unfold maxLen; omega
  have b1 := hs.parts
  have b2 := hs.wins
  have b3 := hs.vls
  have b4 := hs.ports
  have HV5 : (jd c 5).2 = 0 → ∀ v ∈ c.vls, 64 ≤ v.smax ∧ v.smax ≤ 1518 ∧ 1 ≤ v.subs ∧ v.subs ≤ 4 := fun h => by
    have hn := told_zero h
    rw [PitotConf.scan_none] at hn
    intro x hx
    obtain ⟨i, hi, rfl⟩ := List.mem_iff_getElem.1 hx
    have := hn i (by simpa using hi)
    rw [List.getElem_map] at this
    unfold PitotConf.linkJ at this
    have hb := (PitotConf.ite0 (by decide) this).1
    simp only [not_or] at hb
    obtain ⟨_, _, _, _, _, _, a, b, d, e, _⟩ := hb
    exact ⟨by omega, by omega, by omega, by omega⟩
  have HM3 : (jd c 3).2 = 0 → c.major ≤ 1073741824 := fun h => by
    by_cases h2 : c.major < 1 ∨ 1073741824 < c.major
    · have h3 : (jd c 3).2 = 1 := if_pos h2
      rw [h3] at h; omega
    · omega
  refine refCheck_core c.hosts c.major c.partsA c.winsA c.vlsA c.portsA c.parts.length c.partsc c.wins.length c.winsc c.vls.length c.vlsc c.ports.length c.portsc w c.parts (jd c)
    (at_ (PitotConf.partJ c.hosts) c.parts) (at_ (PitotConf.winJ c.parts c.major) (c.wins.map Wn.pl)) (at_ (PitotConf.linkJ c.hosts) (c.vls.map Vx.pl)) (at_ (PitotConf.portJ c.parts (c.vls.map Vx.pl)) (c.ports.map Px.pl)) (PitotConf.jitter (c.vls.map Vx.pl))
    hc.1 rfl (by omega) (by omega) (by omega) (by omega) rfl rfl
    (fun k hk hp h => at_hit hk hp h) (fun h => at_none h) (fun k hk => by rw [at_eq _ _ k hk, PitotConf.partJ, List.length_take, Nat.min_eq_left (by omega)])
    (fun k hk hp h => at_hit (by simpa using hk) hp h) (fun h => at_none (by simpa using h))
    (fun k hk hp h => at_hit (by simpa using hk) hp h) (fun h => at_none (by simpa using h))
    (fun k hk hp h => at_hit (by simpa using hk) hp h) (fun h => at_none (by simpa using h))
    (fun k hk hp h => ?_) (fun h => ?_) (fun n w => host_any c n w)
    (fun hprev k hk hp w' hb => refWin_all c k w' (hc.below hb) hk (HM3 (hprev 3 (by omega) (by omega))) hpl hwl hp)
    (fun hprev k hk hp w' hb => refLink_all c k w' (hc.below hb) hk hs.tol)
    (fun hprev k hk hp w' hb => refPort_all c k w' (hc.below hb) hk hs.ports hpl hvl (fun v hv => by have := HV5 (hprev 5 (by omega) (by omega)) v hv; exact ⟨hs.tol v hv, by omega, by omega, by omega, by omega⟩))
    (fun hprev k w' hb => jitter_any c k w' (hc.below hb) hs.vls (fun v hv => by have := HV5 (hprev 5 (by omega) (by omega)) v hv; omega))
  · show toldJ (PitotConf.jitF (c.vls.map Vx.pl) c.hosts) = _
    rw [jitF_some hk h hp]; rfl
  · show (toldJ (PitotConf.jitF (c.vls.map Vx.pl) c.hosts)).2 = 0
    rw [PitotConf.jitF_none.2 h]; rfl
end Go.Proofs.Ythicfgcnhefinaa
/- The law's Few: a network that is not too great (trial). -/
set_option maxRecDepth 100000
namespace Go.Proofs.Ythicfgcnhefinaa
open Go.RowKit

/-- Not too great for what the laws ask. -/
def few (c : Cx) : Bool := decide (c.parts.length ≤ 70) && decide (c.wins.length ≤ 260) && decide (c.vls.length ≤ 260) && decide (c.ports.length ≤ 520) && c.vls.all (fun v => decide (v.to.length ≤ 70))
theorem few_iff (c : Cx) : few c = true ↔ c.parts.length ≤ 70 ∧ c.wins.length ≤ 260 ∧ c.vls.length ≤ 260 ∧ c.ports.length ≤ 520 ∧ ∀ q (h : q < c.vls.length), c.vls[q].to.length ≤ 70 := by
  unfold few
  simp only [Bool.and_eq_true, decide_eq_true_eq, List.all_eq_true, and_assoc]
  constructor
  · rintro ⟨h1, h2, h3, h4, h5⟩; exact ⟨h1, h2, h3, h4, fun q h => h5 _ (List.getElem_mem _)⟩
  · rintro ⟨h1, h2, h3, h4, h5⟩
    refine ⟨h1, h2, h3, h4, fun v hv => ?_⟩
    obtain ⟨q, hq, rfl⟩ := List.mem_iff_getElem.1 hv
    exact h5 q hq
set_option maxHeartbeats 4000000 in
theorem few_any (c : Cx) (w : World) (hc : c.Held w) (hl : c.parts.length ≤ maxLen ∧ c.wins.length ≤ maxLen ∧ c.vls.length ≤ maxLen ∧ c.ports.length ≤ maxLen) : Calls Try.prog 9 #[c.val] w fun e w' => e = .returned (.bool (few c)) ∧ Below w.heap.size w w' := by
  unfold maxLen at hl
  have hfi := few_iff c
  obtain ⟨R, HR⟩ : ∃ R, Hid (few c = R) := ⟨_, rfl⟩
  rw [HR.out] at hfi ⊢
  have HV : Hid (VxsAt w c.vlsA c.vls) := hc.2.2.1
  clear hc
  obtain ⟨hosts, pA, pc, parts, major, wA, wk, wins, vA, vc, vls, qA, qc, ports⟩ := c
  simp only at HV hfi hl HR ⊢
  obtain ⟨np, Hnp⟩ : ∃ n, Hid (parts.length = n) := ⟨_, rfl⟩
  obtain ⟨nw, Hnw⟩ : ∃ n, Hid (wins.length = n) := ⟨_, rfl⟩
  obtain ⟨nv, Hnv⟩ : ∃ n, Hid (vls.length = n) := ⟨_, rfl⟩
  obtain ⟨nq, Hnq⟩ : ∃ n, Hid (ports.length = n) := ⟨_, rfl⟩
  show Calls Try.prog 9 #[.agg #[.int .i64 hosts, .slice pA parts.length pc, .int .i64 major, .slice wA wins.length wk, .slice vA vls.length vc, .slice qA ports.length qc]] w _
  have HF : Hid (70 < np ∨ 260 < nw ∨ 260 < nv ∨ 520 < nq → R = false) := by
    show _ → _
    intro h
    cases hR : R with
    | false => rfl
    | true =>
      obtain ⟨a1, a2, a3, a4, _⟩ := hfi.1 hR
      rw [Hnp.out] at a1; rw [Hnw.out] at a2; rw [Hnv.out] at a3; rw [Hnq.out] at a4
      omega
  have HG : Hid ((∃ q, ∃ h : q < vls.length, 70 < vls[q].to.length) → R = false) := by
    show _ → _
    rintro ⟨q, h, h2⟩
    cases hR : R with
    | false => rfl
    | true =>
      have := (hfi.1 hR).2.2.2.2 q h
      omega
  have HY : Hid (np ≤ 70 ∧ nw ≤ 260 ∧ nv ≤ 260 ∧ nq ≤ 520 ∧ (∀ q (h : q < vls.length), vls[q].to.length ≤ 70) → R = true) := by
    show _ → _
    rintro ⟨h1, h2, h3, h4, h5⟩
    exact hfi.2 ⟨by rw [Hnp.out]; exact h1, by rw [Hnw.out]; exact h2, by rw [Hnv.out]; exact h3, by rw [Hnq.out]; exact h4, h5⟩
  clear hfi
  rw [Hnp.out, Hnw.out, Hnv.out, Hnq.out] at hl ⊢
  have kb : Hid (Below w.heap.size w (w.alloc (.cells #[.int .i64 hosts, .slice pA np pc, .int .i64 major, .slice wA nw wk, .slice vA nv vc, .slice qA nq qc] 27))) := (Below.refl _ w).alloc (Nat.le_refl _) _
  obtain ⟨l1, l2, l3, l4⟩ := hl
  go_enter Try.func9, Try.ntmps9
  by_cases g0 : 70 < np
  · have f0 : decide (70 < (np : Int)) = true := decide_eq_true (by omega)
    have f0' : decide (70 < np) = true := decide_eq_true g0
    have HT : Hid (R = false) := HF.out (by omega)
    go_wp2
    go_returns
    rw [HT.out]
    exact ⟨rfl, kb.out⟩
  · have f0 : decide (70 < (np : Int)) = false := decide_eq_false (by omega)
    have f0' : decide (70 < np) = false := decide_eq_false g0
    by_cases g1 : 260 < nw
    · have f1 : decide (260 < (nw : Int)) = true := decide_eq_true (by omega)
      have f1' : decide (260 < nw) = true := decide_eq_true g1
      have HT : Hid (R = false) := HF.out (by omega)
      go_wp2
      go_returns
      rw [HT.out]
      exact ⟨rfl, kb.out⟩
    · have f1 : decide (260 < (nw : Int)) = false := decide_eq_false (by omega)
      have f1' : decide (260 < nw) = false := decide_eq_false g1
      by_cases g2 : 260 < nv
      · have f2 : decide (260 < (nv : Int)) = true := decide_eq_true (by omega)
        have f2' : decide (260 < nv) = true := decide_eq_true g2
        have HT : Hid (R = false) := HF.out (by omega)
        go_wp2
        go_returns
        rw [HT.out]
        exact ⟨rfl, kb.out⟩
      · have f2 : decide (260 < (nv : Int)) = false := decide_eq_false (by omega)
        have f2' : decide (260 < nv) = false := decide_eq_false g2
        by_cases g3 : 520 < nq
        · have f3 : decide (520 < (nq : Int)) = true := decide_eq_true (by omega)
          have f3' : decide (520 < nq) = true := decide_eq_true g3
          have HT : Hid (R = false) := HF.out (by omega)
          go_wp2
          go_returns
          rw [HT.out]
          exact ⟨rfl, kb.out⟩
        · have f3 : decide (520 < (nq : Int)) = false := decide_eq_false (by omega)
          have f3' : decide (520 < nq) = false := decide_eq_false g3
          go_wp2
          go_loop [3] (fun v3 => ∃ k : Nat, k ≤ nv ∧ v3 = .int .i64 k ∧ Hid (∀ q (h : q < vls.length), q < k → vls[q].to.length ≤ 70)) (fun v3 => nv - (intOf v3).toNat)
          case atStart => exact ⟨0, Nat.zero_le _, rfl, fun q h hq => by omega⟩
          case round =>
            obtain ⟨k, hk, rfl, hq⟩ := hrel
            by_cases hkn : k < nv
            · have hkl : k < vls.length := by rw [Hnv.out]; exact hkn
              have e1 : decide ((k : Int) < (nv : Int)) = true := decide_eq_true (by omega)
              have e1' : decide (k < nv) = true := decide_eq_true hkn
              obtain ⟨b, off, rfl, hb, hat, _⟩ := HV.out.get hkl
              have hat := hat.below kb.out hb
              obtain ⟨tl, Htl⟩ : ∃ tl, Hid (vls[k].to.length = tl) := ⟨vls[k].to.length, Lib.hid rfl⟩
              unfold VxAt at hat
              rw [Htl.out] at hat
              obtain ⟨a0, a1, a2, a3, a4, a5, a6, a7⟩ := hat
              by_cases ht : 70 < tl
              · have e2 : decide (70 < (tl : Int)) = true := decide_eq_true (by omega)
                have e2' : decide (70 < tl) = true := decide_eq_true ht
                have HT : Hid (R = false) := HG.out ⟨k, hkl, by rw [Htl.out]; exact ht⟩
                go_wp2
                go_returns
                rw [HT.out]
                exact ⟨rfl, kb.out⟩
              · have e2 : decide (70 < (tl : Int)) = false := decide_eq_false (by omega)
                have e2' : decide (70 < tl) = false := decide_eq_false ht
                have HN : Hid (∀ q (h : q < vls.length), q < k + 1 → vls[q].to.length ≤ 70) := by
                  show ∀ q (h : q < vls.length), q < k + 1 → vls[q].to.length ≤ 70
                  intro q h h2
                  by_cases e : q = k
                  · subst e; rw [Htl.out]; omega
                  · exact hq.out q h (by omega)
                go_wp2
                go_round
                case rel => exact ⟨k + 1, by omega, by go_num, HN⟩
                case measure => simp [intOf]; omega
            · have e1 : decide ((k : Int) < (nv : Int)) = false := decide_eq_false (by omega)
              have e1' : decide (k < nv) = false := decide_eq_false hkn
              have HT : Hid (R = true) := HY.out ⟨by omega, by omega, by omega, by omega, fun q h => hq.out q h (by rw [Hnv.out] at h; omega)⟩
              go_wp2
              go_returns
              rw [HT.out]
              exact ⟨rfl, kb.out⟩
end Go.Proofs.Ythicfgcnhefinaa
/- The chapter's examples; a network that comes in; what a law asks of it. -/
set_option maxRecDepth 100000
namespace Go.Proofs.Ythicfgcnhefinaa
open Go.RowKit Go.ChangeShapes Go.WideShapes Go.Deep

section
variable {H : Type} {enc : TypeId × Value → H} {W : World} {b0 : Nat} {spare : Nat → Bool} {held : Bool} {w : World} {r : Reach} {base : Nat}
theorem slice_cap {t e : TypeId} {fuel : Nat} {A : Option Addr} {len cap : Nat} {x : DataW H × List MemPlace} (ht : Try.prog.underlying t = some (.slice e)) (h : DataW.trod enc Try.prog W b0 spare held fuel t [.slice A len cap] = some x) : len ≤ cap := by
  rcases open_slice ht h with ⟨hcs, _⟩ | ⟨a, len', cap', m, n, D, Pl, hcs, _, hl, _⟩
  · simp only [List.cons.injEq, Value.slice.injEq, and_true] at hcs
    omega
  · simp only [List.cons.injEq, Value.slice.injEq, and_true] at hcs
    omega
/-- No slice is longer than its room. -/
def Cx.Caps (c : Cx) : Prop := c.parts.length ≤ c.partsc ∧ c.wins.length ≤ c.winsc ∧ c.vls.length ≤ c.vlsc ∧ c.ports.length ≤ c.portsc
theorem Cx_caps {fuel : Nat} {c : Cx} {x : DataW H × List MemPlace} (h : DataW.trod enc Try.prog W b0 spare held fuel 27 c.enc = some x) : c.Caps := by
  have c3 : Try.prog.cellsOf 3 = 1 := by kernel_rfl
  have c22 : Try.prog.cellsOf 22 = 1 := by kernel_rfl
  have c23 : Try.prog.cellsOf 23 = 1 := by kernel_rfl
  have c24 : Try.prog.cellsOf 24 = 1 := by kernel_rfl
  have c25 : Try.prog.cellsOf 25 = 1 := by kernel_rfl
  obtain ⟨ys, n', _, _, hlen, hyl, hf⟩ := DataW.trod_struct Try.underlying27 h
  match ys, hyl with
  | [y0, y1, y2, y3, y4, y5], _ =>
    have f1 : DataW.trod enc Try.prog W b0 spare held n' 22 ((c.enc.drop 1).take (Try.prog.cellsOf 22)) = some y1 := hf 1 _ rfl
    rw [c22] at f1
    have f3 : DataW.trod enc Try.prog W b0 spare held n' 23 ((c.enc.drop 3).take (Try.prog.cellsOf 23)) = some y3 := hf 3 _ rfl
    rw [c23] at f3
    have f4 : DataW.trod enc Try.prog W b0 spare held n' 24 ((c.enc.drop 4).take (Try.prog.cellsOf 24)) = some y4 := hf 4 _ rfl
    rw [c24] at f4
    have f5 : DataW.trod enc Try.prog W b0 spare held n' 25 ((c.enc.drop 5).take (Try.prog.cellsOf 25)) = some y5 := hf 5 _ rfl
    rw [c25] at f5
    exact ⟨slice_cap Try.underlying22 f1, slice_cap Try.underlying23 f3, slice_cap Try.underlying24 f4, slice_cap Try.underlying25 f5⟩
theorem Cx_open2 {fuel : Nat} {v : Value} {x : DataW H × List MemPlace} (hok : Value.okWide Try.prog w r base 27 v) (h : DataW.trod enc Try.prog W b0 spare held fuel 27 v.cells.toList = some x) :
    ∃ o : Cx, ∃ (_ : o.Ok) (_ : o.Held W) (_ : o.Caps), v = o.val := by
  obtain ⟨o, rfl, h2, h3⟩ := Cx_open hok h
  exact ⟨o, h2, h3, Cx_caps (c := o) (by simpa [Value.cells] using h), rfl⟩
end
theorem few_sm {c : Cx} (co : c.Ok) (h : few c = true) : Sm c := by
  obtain ⟨h1, h2, h3, h4, h5⟩ := (few_iff c).1 h
  refine ⟨co, by omega, by omega, by omega, by omega, fun v hv => ?_⟩
  obtain ⟨i, hi, rfl⟩ := List.mem_iff_getElem.1 hv
  have := h5 i hi
  omega
abbrev cz : Cx := ⟨0, none, 0, [], 0, none, 0, [], none, 0, [], none, 0, []⟩
theorem sm_cz : Sm cz := ⟨⟨by decide, by simp, fun n h => by simp at h, by decide, by simp, fun n h => by simp at h, by simp, fun n h => by simp at h, by simp, fun n h => by simp at h⟩, by simp, by simp, by simp, by simp, fun v h => by simp at h⟩
theorem held_cz (w : World) : cz.Held w := ⟨fun h => absurd rfl h, fun h => absurd rfl h, fun h => absurd rfl h, fun h => absurd rfl h⟩
theorem zero27 (w : World) : (zeroValue 27).run Try.prog w = .ok (.agg #[.int .i64 0, .slice none 0 0, .int .i64 0, .slice none 0 0, .slice none 0 0, .slice none 0 0]) w := by kernel_rfl
set_option maxHeartbeats 2000000 in
theorem awake_any (w : World) : Calls Try.prog 10 #[] w fun e w' => e = .returned (.bool true) ∧ Below w.heap.size w w' := by
  have HC : Hid (∀ w, Calls Try.prog 11 #[.agg #[.int .i64 0, .slice none 0 0, .int .i64 0, .slice none 0 0, .slice none 0 0, .slice none 0 0]] w fun e w' => e = .returned (.tuple #[.agg #[.int .i64 1, .int .i64 0], .int .i64 1]) ∧ Below w.heap.size w w') := fun w => Check_any cz sm_cz w (held_cz w)
  have HL := Lib.hid (fun w => largest_any 64 w (by decide) (by decide))
  have hz := zero27
  go_enter Try.func10, Try.ntmps10
  go_wp2_with (first
    | (go_at_call 11; (with_reducible refine (HC.out _).mono ?_); rintro e w2 ⟨rfl, hb2⟩)
    | (go_at_call 24; (with_reducible refine (HL.out _).mono ?_); rintro e w3 ⟨rfl, rfl⟩))
  go_returns
  exact ⟨rfl, hb2.alloc hb2.size _⟩
end Go.Proofs.Ythicfgcnhefinaa
