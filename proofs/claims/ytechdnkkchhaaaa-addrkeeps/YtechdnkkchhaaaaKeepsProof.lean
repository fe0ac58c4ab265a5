/- For every address, number and list of calls the law AddrKeeps answers true: what was noted for an address stays, whatever is noted for others, and is gone when it is forgotten. No conditions. -/
import Derived.Test.YtechdnkkchhaaaaRows
import Derived.Test.YtechdnkkchhaaaaAw
import Derived.Test.YtechdnkkchhaaaaAl
import Derived.Test.YtechdnkkchhaaaaOo
import Derived.Deep.Cut
import Derived.Deep.RegionHeld3
import Derived.WalkKit
import Derived.ProofKit
import Derived.OpenShut
import Derived.ShutString
import Derived.ChangeOld
import Derived.Below
namespace Go.Proofs.Ytechdnkkchhaaaa
open Go.ChangeShapes Go.WideShapes Go.ChangeAt Go.RowKit
open Go.ChangeMaps (open_string shut_string)
set_option linter.unusedVariables false

theorem addrKeeps_own : ownKnob Try.prog.godebug = none := by kernel_rfl
theorem addrKeeps_laid : laidOutB Try.prog = true := by kernel_rfl

open Go.Proofs.PitotAddr in
theorem macs_nodup {ls : List M6} (h : ls.Pairwise (fun x y => x.bytes < y.bytes)) : ls.Nodup :=
  h.imp fun {x y} h e => by subst e; exact List.lt_irrefl _ h

open Go.Proofs.PitotAddr in
theorem one_less {ls ls' : List M6} {m : M6} (h : ls.Nodup) (h' : ls'.Nodup) (hm : m ∈ ls) (hs : ∀ x, x ∈ ls' ↔ x ∈ ls ∧ x ≠ m) : (ls'.length : Int) = (ls.length : Int) - 1 := by
  have hp : ls'.Perm (ls.erase m) := (List.perm_ext_iff_of_nodup h' (h.erase m)).2 fun x => by rw [hs x, h.mem_erase_iff]; exact ⟨fun ⟨a, b⟩ => ⟨b, a⟩, fun ⟨a, b⟩ => ⟨b, a⟩⟩
  have := hp.length_eq
  rw [List.length_erase_of_mem hm] at this
  have : 0 < ls.length := List.length_pos_of_mem hm
  omega

theorem box_keep {w w' : World} {g : Nat} {cs : Array Value} (h : w.heap[g]? = some (.cells cs 23)) (hk : Kind63 w w') : w'.heap[g]? = some (.cells cs 23) := hk g cs 23 (0, 0) (by decide) h

open Go.Proofs.PitotAddr in
set_option maxRecDepth 100000 in
set_option maxHeartbeats 8000000 in
theorem addrKeeps_walk (a b c d e f : UInt8) (n : Int) (hn : (Lit.int .i64 n).wf = true) (Ad : Option Addr) (cap : Nat) (l : List Cal) {w0 : World} (hcs : CalsAt w0 Ad l) (hl : l.length ≤ maxLen) (w : World) (hw : w = w0) :
    Calls Try.prog 9 #[mac a b c d e f, .int .i64 n, .slice Ad l.length cap] w fun e w' => e = .returned (.bool true) ∧ Below w.heap.size w w' := by
  subst hw
  have Hcs := Lib.hid hcs; clear hcs
  unfold maxLen at hl
  have hB0 : BookAt w.heap.size ((w.alloc (.cells #[.int .u8 a.toNat, .int .u8 b.toNat, .int .u8 c.toNat, .int .u8 d.toNat, .int .u8 e.toNat, .int .u8 f.toNat] 23)).alloc (.cells #[.map none] 63)) (w.heap.size + 1) 0 (fun _ => none) := ⟨by omega, .inl ⟨new2 w _ _, fun _ => rfl⟩⟩
  have hput := put_any hB0 (by unfold maxLen; omega) ⟨a, b, c, d, e, f⟩ n hn
  have HP := Lib.hid hput; clear hput
  have hbx : ((w.alloc (.cells #[.int .u8 a.toNat, .int .u8 b.toNat, .int .u8 c.toNat, .int .u8 d.toNat, .int .u8 e.toNat, .int .u8 f.toNat] 23)).alloc (.cells #[.map none] 63)).heap[w.heap.size]? = some (.cells #[.int .u8 a.toNat, .int .u8 b.toNat, .int .u8 c.toNat, .int .u8 d.toNat, .int .u8 e.toNat, .int .u8 f.toNat] 23) := lies_alloc (heap_alloc_new w _) _
  have Hbx := Lib.hid hbx; clear hbx hB0
  go_enter Try.func9, Try.ntmps9
  go_wp2_with (first
    | (go_at_call 32; (with_reducible refine (HP.out).mono ?_); rintro r w1 ⟨rfl, hB1, hb1, hk1⟩))
  have HB1 : Below w.heap.size w w1 := (((Below.refl _ w).alloc (Nat.le_refl _) _).alloc (by simp) _).trans hb1
  have L1 := box_keep Hbx.out hk1
  clear hb1 hk1 HP Hbx
  go_loopw [8] (fun v wr => ∃ (k : Nat) (g : M6 → Option Int), k ≤ 60 ∧ v = .int .i64 k ∧ Hid (BookAt w.heap.size wr (w.heap.size + 1) (k + 1) g) ∧ Hid (g ⟨a, b, c, d, e, f⟩ = some n) ∧ Hid (wr.heap[w.heap.size]? = some (.cells #[.int .u8 a.toNat, .int .u8 b.toNat, .int .u8 c.toNat, .int .u8 d.toNat, .int .u8 e.toNat, .int .u8 f.toNat] 23)) ∧ Below w.heap.size w wr) (fun v _ => 60 - (intOf v).toNat)
  case atStart => exact ⟨0, _, by omega, rfl, hB1, by show upd _ _ _ _ = _; unfold upd; rw [if_pos rfl], L1, HB1⟩
  case round =>
    obtain ⟨k, g, hk, rfl, hB, hg, hbx, hb⟩ := hrel
    clear hB1 L1 HB1
    obtain ⟨i0, i1, i2, i3, i4, i5⟩ := six hbx.out
    by_cases hlt : k < l.length ∧ k < 60
    · obtain ⟨hk1, hk2⟩ := hlt
      obtain ⟨bb, off, rfl, hbl, hall⟩ := Hcs.out (by intro e; rw [e] at hk1; simp at hk1)
      have hcal := (hall k hk1).keep (w' := wr) (fun i => hb.cell (p := ⟨bb, i, none⟩) hbl)
      obtain ⟨t, Ht⟩ : ∃ t, Hid (t = l[k]) := ⟨l[k], rfl⟩
      rw [← Ht.out] at hcal
      obtain ⟨ask, ⟨ta, tb, tc, td, te, tf⟩, tn⟩ := t
      obtain ⟨c0, c1, c2, c3, c4, c5, c6, c7, c8⟩ := hcal
      dsimp only at c0 c1 c2 c3 c4 c5 c6 c7 c8
      have HH := Lib.hid hall; clear hall
      obtain ⟨E, HE⟩ : ∃ E : Bool, Hid (E = decide ((⟨ta, tb, tc, td, te, tf⟩ : M6) = ⟨a, b, c, d, e, f⟩)) := ⟨_, rfl⟩
      have heq : ∀ w, (Go.Op.equalIn 10000 23 (mac ta tb tc td te tf) (mac a b c d e f)).run Try.prog w = .ok E w := fun w => by
        rw [eq6, HE.out, int_beq, int_beq, int_beq, int_beq, int_beq, int_beq]
        congr 1
        rw [Bool.eq_iff_iff]
        simp [and_assoc]
      cases E
      · have hne : (⟨ta, tb, tc, td, te, tf⟩ : M6) ≠ ⟨a, b, c, d, e, f⟩ := by have := HE.out; simpa using this
        have Hne := Lib.hid hne; clear hne HE
        go_wp2
        go_quiet (fail)
        have hB' : Hid (BookAt w.heap.size (wr.drewN nq) (w.heap.size + 1) (k + 1) g) := hB
        have hbx' : Hid ((wr.drewN nq).heap[w.heap.size]? = some (.cells #[.int .u8 a.toNat, .int .u8 b.toNat, .int .u8 c.toNat, .int .u8 d.toNat, .int .u8 e.toNat, .int .u8 f.toNat] 23)) := hbx
        have hb' : Below w.heap.size w (wr.drewN nq) := below_drewN hb nq
        have c0' : (wr.drewN nq).cell? ⟨bb, off + k * 8, none⟩ = some (.int .i64 ask) := c0
        have c1' : (wr.drewN nq).cell? ⟨bb, off + k * 8 + 1, none⟩ = some (.int .u8 ta.toNat) := c1
        have c2' : (wr.drewN nq).cell? ⟨bb, off + k * 8 + 2, none⟩ = some (.int .u8 tb.toNat) := c2
        have c3' : (wr.drewN nq).cell? ⟨bb, off + k * 8 + 3, none⟩ = some (.int .u8 tc.toNat) := c3
        have c4' : (wr.drewN nq).cell? ⟨bb, off + k * 8 + 4, none⟩ = some (.int .u8 td.toNat) := c4
        have c5' : (wr.drewN nq).cell? ⟨bb, off + k * 8 + 5, none⟩ = some (.int .u8 te.toNat) := c5
        have c6' : (wr.drewN nq).cell? ⟨bb, off + k * 8 + 6, none⟩ = some (.int .u8 tf.toNat) := c6
        have c7' : (wr.drewN nq).cell? ⟨bb, off + k * 8 + 7, none⟩ = some (.int .i64 tn) := c7
        clear hB hbx hb c0 c1 c2 c3 c4 c5 c6 c7 i0 i1 i2 i3 i4 i5 heq
        generalize wr.drewN nq = V at hB' hbx' hb' c0' c1' c2' c3' c4' c5' c6' c7' ⊢
        have hcell : ∀ {w2 : World}, Below w.heap.size w w2 → ∀ i, w2.cell? ⟨bb, i, none⟩ = V.cell? ⟨bb, i, none⟩ := fun {w2} h i => (h.cell (p := ⟨bb, i, none⟩) hbl).trans (hb'.cell (p := ⟨bb, i, none⟩) hbl).symm
        have HCE : Hid (∀ {w2 : World}, Below w.heap.size w w2 → ∀ i, w2.cell? ⟨bb, i, none⟩ = V.cell? ⟨bb, i, none⟩) := hcell
        clear hcell
        by_cases ha : ask = 0
        · have ha' : (ask == 0) = true := by simp [ha]
          have hput := put_any (show BookAt w.heap.size V.drew (w.heap.size + 1) (k + 1) g from hB'.out) (by unfold maxLen; omega) ⟨ta, tb, tc, td, te, tf⟩ tn c8
          have HP := Lib.hid hput; clear hput ha
          go_upto_region 8 with (fail)
          go_region_held3 (fun w' => w'.cell? ⟨bb, off + k * 8 + 1, none⟩ = some (.int .u8 ta.toNat) ∧ w'.cell? ⟨bb, off + k * 8 + 2, none⟩ = some (.int .u8 tb.toNat) ∧ w'.cell? ⟨bb, off + k * 8 + 3, none⟩ = some (.int .u8 tc.toNat) ∧ w'.cell? ⟨bb, off + k * 8 + 4, none⟩ = some (.int .u8 td.toNat) ∧ w'.cell? ⟨bb, off + k * 8 + 5, none⟩ = some (.int .u8 te.toNat) ∧ w'.cell? ⟨bb, off + k * 8 + 6, none⟩ = some (.int .u8 tf.toNat) ∧ w'.cell? ⟨bb, off + k * 8 + 7, none⟩ = some (.int .i64 tn)) (exact ⟨by assumption, by assumption, by assumption, by assumption, by assumption, by assumption, by assumption⟩) (first
            | (go_at_call 32; (with_reducible refine (HP.out).mono ?_); rintro r w2 ⟨rfl, hB2, hb2, hk2⟩
               (have HBw : Below w.heap.size w w2 := hb'.drew.trans hb2)
               (have q1 := (HCE.out HBw _).trans c1'); (have q2 := (HCE.out HBw _).trans c2'); (have q3 := (HCE.out HBw _).trans c3'); (have q4 := (HCE.out HBw _).trans c4'); (have q5 := (HCE.out HBw _).trans c5'); (have q6 := (HCE.out HBw _).trans c6'); (have q7 := (HCE.out HBw _).trans c7')
               (have hB2 := Lib.hid hB2); (have L2 := Lib.hid (box_keep (w := V.drew) hbx'.out hk2)); clear hb2 hk2))
          all_goals
            clear c0' c1' c2' c3' c4' c5' c6' c7' q1 q2 q3 q4 q5 q6 q7 ha'
            obtain ⟨i0, i1, i2, i3, i4, i5⟩ := six L2.out
            have hg2 : Hid (upd g ⟨ta, tb, tc, td, te, tf⟩ (some tn) ⟨a, b, c, d, e, f⟩ = some n) := by show upd _ _ _ _ = _; unfold upd; rw [if_neg (fun h => Hne.out h.symm)]; exact hg.out
            have hget := get_any hB2.out ⟨a, b, c, d, e, f⟩
            rw [hg2.out] at hget
            have HG := Lib.hid hget; clear hget
            go_wp2_with (first
              | (go_at_call 34; (with_reducible refine (HG.out).mono ?_); rintro r w3 ⟨rfl, hb3⟩))
            have HBe : Hid (Below w.heap.size w w3) := HBw.trans (hb3.mono HBw.size)
            have HB3 := Lib.hid (hB2.out.kept hb3)
            have L3 := Lib.hid (lies_below L2.out hb3 (lies_lt L2.out))
            clear hb3
            go_roundw
            case rel => exact ⟨k + 1, _, by omega, by go_num, HB3, hg2, L3, HBe.out⟩
            case measure => simp [intOf]; omega
        · have ha' : (ask == 0) = false := by simp [ha]
          have hdrop := drop_any hB'.out ⟨ta, tb, tc, td, te, tf⟩
          have HP := Lib.hid hdrop; clear hdrop ha
          obtain ⟨S, HS⟩ : ∃ S, Hid (S = (g ⟨ta, tb, tc, td, te, tf⟩).isSome) := ⟨_, rfl⟩
          rw [← HS.out] at HP
          have hg2 : Hid (upd g ⟨ta, tb, tc, td, te, tf⟩ none ⟨a, b, c, d, e, f⟩ = some n) := by show upd _ _ _ _ = _; unfold upd; rw [if_neg (fun h => Hne.out h.symm)]; exact hg.out
          go_wp2_with (first
            | (go_at_call 36; (with_reducible refine (HP.out).mono ?_); rintro r w2 ⟨rfl, hB2, hb2, hk2⟩
               (have HBw : Below w.heap.size w w2 := hb'.trans hb2)
               (have hB2 := Lib.hid hB2); (have L2 := Lib.hid (box_keep hbx'.out hk2)); (obtain ⟨i0, i1, i2, i3, i4, i5⟩ := six L2.out); clear hb2 hk2
               (have hget := get_any hB2.out ⟨a, b, c, d, e, f⟩); (rw [hg2.out] at hget); (have HG := Lib.hid hget); clear hget)
            | (go_at_call 34; (with_reducible refine (HG.out).mono ?_); rintro r w3 ⟨rfl, hb3⟩))
          have HBe : Hid (Below w.heap.size w w3) := HBw.trans (hb3.mono HBw.size)
          have HB3 := Lib.hid ((hB2.out.kept hb3).more (Nat.le_succ _))
          have L3 := Lib.hid (lies_below L2.out hb3 (lies_lt L2.out))
          clear hb3
          go_roundw
          case rel => exact ⟨k + 1, _, by omega, by go_num, HB3, hg2, L3, HBe.out⟩
          case measure => simp [intOf]; omega
      · go_wp2
        go_quiet (fail)
        have HB3 := Lib.hid (hB.out.more (Nat.le_succ _))
        go_wp2
        go_roundw
        case rel => exact ⟨k + 1, g, by omega, by go_num, HB3, hg, hbx, below_drewN hb _⟩
        case measure => simp [intOf]; omega
    · have hend : Hid (¬ (k < l.length ∧ k < 60)) := hlt
      have hall := all_any hB.out (by omega)
      have HALL := Lib.hid hall; clear hall
      obtain ⟨T, HT⟩ : ∃ T : Bool, Hid (T = decide ((k : Int) < (l.length : Int) ∧ (k : Int) < 60)) := ⟨_, rfl⟩
      have hlt2 : ¬ ((k : Int) < (l.length : Int)) ∨ ((k : Int) < (l.length : Int) ∧ ¬ ((k : Int) < 60)) := by omega
      clear hlt HT
      have HGm : Hid ((g ⟨a, b, c, d, e, f⟩).isSome = true) := by show _ = _; rw [hg.out]; rfl
      rcases hlt2 with h1 | ⟨h1, h2⟩
      all_goals
        go_upto_region 14 with (first
          | (go_at_call 38; (with_reducible refine (HALL.out).mono ?_); rintro r w2 hA; (obtain ⟨A2, cap2, ls, rfl, hM2, hs2, hm2, hb2, hz2⟩ := hA)
             (have HBw : Below w.heap.size w w2 := hb.trans (hb2.mono hb.size))
             (have hB2 := Lib.hid (hB.out.kept hb2)); (have L2 := Lib.hid (lies_below hbx.out hb2 (lies_lt hbx.out))); (obtain ⟨j0, j1, j2, j3, j4, j5⟩ := six L2.out)
             (have HS2 := Lib.hid hs2); (have HM2 := Lib.hid hm2); clear hM2 hs2 hm2 hb2 i0 i1 i2 i3 i4 i5))
        have hlen : 1 ≤ ls.length := List.length_pos_of_mem ((HM2.out _).2 HGm.out)
        have hlen' : ¬ ((ls.length : Int) < 1) := by omega
        have HLEN := Lib.hid hlen; clear hlen
        have hd1 := drop_any hB2.out ⟨a, b, c, d, e, f⟩
        rw [HGm.out] at hd1
        have HD1 := Lib.hid hd1; clear hd1
        have hg3 : Hid (upd g ⟨a, b, c, d, e, f⟩ none ⟨a, b, c, d, e, f⟩ = none) := by show upd _ _ _ _ = _; unfold upd; rw [if_pos rfl]
        obtain ⟨g2, Hg2⟩ : ∃ g2, Hid (g2 = upd g ⟨a, b, c, d, e, f⟩ none) := ⟨_, rfl⟩
        rw [← Hg2.out] at HD1 hg3
        have hfin : ∀ {w' : World}, BookAt w.heap.size w' (w.heap.size + 1) (k + 1) (upd g2 ⟨a, b, c, d, e, f⟩ none) → BookAt w.heap.size w' (w.heap.size + 1) (k + 1) g2 := fun {w'} h => by rwa [upd_none hg3.out] at h
        have HFIN : Hid (∀ {w' : World}, BookAt w.heap.size w' (w.heap.size + 1) (k + 1) (upd g2 ⟨a, b, c, d, e, f⟩ none) → BookAt w.heap.size w' (w.heap.size + 1) (k + 1) g2) := hfin
        clear hfin
        have HONE : Hid (∀ ls' : List M6, ls'.Pairwise (fun x y => x.bytes < y.bytes) → (∀ m, m ∈ ls' ↔ (g2 m).isSome = true) → (ls'.length : Int) = (ls.length : Int) - 1) := fun ls' h1 h2 => by
          refine one_less (m := ⟨a, b, c, d, e, f⟩) (macs_nodup HS2.out) (macs_nodup h1) ((HM2.out _).2 HGm.out) (fun x => ?_)
          rw [h2 x, HM2.out x, Hg2.out]
          unfold upd
          by_cases e : x = ⟨a, b, c, d, e, f⟩
          · rw [if_pos e]; simp [e]
          · rw [if_neg e]; simp [e]
        go_wp2_with (first
          | (go_at_call 36; (with_reducible refine (HD1.out).mono ?_); rintro r w3 ⟨rfl, hB3, hb3, hk3⟩
             (have HBw := HBw.trans hb3); (have hB3 := Lib.hid hB3); (have L3 := Lib.hid (box_keep L2.out hk3)); (obtain ⟨n0, n1, n2, n3, n4, n5⟩ := six L3.out); clear hb3 hk3
             (have hd2 := drop_any hB3.out ⟨a, b, c, d, e, f⟩); (rw [hg3.out] at hd2); (simp only [Option.isSome_none] at hd2); (have HD2 := Lib.hid hd2); clear hd2)
          | (go_at_call 36; (with_reducible refine (HD2.out).mono ?_); rintro r w4 ⟨rfl, hB4, hb4, hk4⟩
             (have HBw := HBw.trans hb4); (have hB4 := Lib.hid (HFIN.out hB4)); (have L4 := Lib.hid (box_keep L3.out hk4)); clear hb4 hk4
             (have ha2 := all_any hB4.out (by omega)); (have HA2 := Lib.hid ha2); clear ha2)
          | (go_at_call 38; (with_reducible refine (HA2.out).mono ?_); rintro r w5 hA; (obtain ⟨A5, cap5, ls5, rfl, hM5, hs5, hm5, hb5, hz5⟩ := hA)
             (have hlen5 : ((ls5.length : Int) != (ls.length : Int) - 1) = false := by rw [HONE.out ls5 hs5 hm5]; simp); (have hB5 := Lib.hid (hB4.out.kept hb5)); (have L5 := Lib.hid (lies_below L4.out hb5 (lies_lt L4.out))); (obtain ⟨o0, o1, o2, o3, o4, o5⟩ := six L5.out)
             (have HBw := HBw.trans (hb5.mono HBw.size)); clear hM5 hs5 hm5 hb5
             (have hget := get_any hB5.out ⟨a, b, c, d, e, f⟩); (rw [hg3.out] at hget); (have HG := Lib.hid hget); clear hget)
          | (go_at_call 34; (with_reducible refine (HG.out).mono ?_); rintro r w6 ⟨rfl, hb6⟩; (have HBw := HBw.trans (hb6.mono HBw.size)); clear hb6)
          | (go_at_call 20; (with_reducible refine (awake_any _).mono ?_); rintro r w7 ⟨rfl, hb7⟩; (have HBw := HBw.trans (hb7.mono HBw.size)); clear hb7))
        go_returns
        exact ⟨rfl, HBw⟩

set_option maxRecDepth 100000 in
theorem addrKeeps_lifted (os : Os) (started : os.Started) (H : Type) (enc : TypeId × Value → H) :
    ReturnsInHanded {} Try.checked os 9 .any (Rows.addrKeepsSpec.pre6 enc Try.prog Try.f9 Rows.addrKeepsRow.domain false) (Rows.addrKeepsSpec.post enc Try.prog Try.f9 false true false false) := by
  refine returnsInHanded_of_change (C := Try.checked) addrKeeps_own started (by kernel_rfl) Try.func9
    (ChangeSpec.witness6 (enc := enc) (C := Try.checked) false ⟨#[], #[.agg #[.int .u8 0, .int .u8 0, .int .u8 0, .int .u8 0, .int .u8 0, .int .u8 0], .int .i64 0, .slice none 0 0], []⟩ 8 (by kernel_rfl) (by kernel_rfl) (by kernel_rfl) (by kernel_rfl)) ?_
  intro W base args ds gs before hval0 hW hcnd _
  have hval : ∀ (j : Nat) t v, Try.f9.params[j]? = some t → args[j]? = some v → Value.okWide Try.prog W .any base t v := hval0
  have hW' := hW
  obtain ⟨p, q, hA0, hV, rfl, hfz, hnd⟩ := hW
  have hA : DataW.TrodAll enc Try.prog W 0 (fun _ => true) true Try.f9.params.toList args.toList ds p := hA0
  rw [Try.params9] at hA hval
  obtain ⟨v0, vs0, d0, ds0, p0, q0, hargs, rfl, rfl, h0, r0⟩ := trodAll_cons hA
  obtain ⟨v1, vs1, d1, ds1, p1, q1, rfl, rfl, rfl, h1, r1⟩ := trodAll_cons r0
  obtain ⟨v2, vs2, d2, ds2, p2, q2, rfl, rfl, rfl, h2, r2⟩ := trodAll_cons r1
  obtain ⟨rfl, rfl, rfl⟩ := trodAll_nil r2
  obtain rfl : args = #[v0, v1, v2] := by cases args; simp_all
  obtain ⟨rfl, rfl⟩ := trodVars_none hV
  have k0 := h0
  have lt0 : ∀ x ∈ p0, x.block < W.heap.size := by obtain ⟨m, hm⟩ := k0; exact DataW.trod_lt m _ _ _ hm
  obtain ⟨fu0, hf0⟩ := h0
  obtain ⟨a0, b0, c0, d0, e0, f0, rfl⟩ := mac_open (hval 0 23 v0 rfl rfl) hf0
  obtain ⟨a1, rfl, rfl, rfl, w1⟩ := open_int Try.underlying3 (hval 1 3 v1 rfl rfl) h1
  obtain ⟨c2, len2, cap2, rfl⟩ := okWide_slice Try.underlying59 (hval 2 59 v2 rfl rfl)
  have k2 := h2
  have lt2 : ∀ x ∈ p2, x.block < W.heap.size := by obtain ⟨m, hm⟩ := k2; exact DataW.trod_lt m _ _ _ hm
  obtain ⟨fu2, hf2⟩ := h2
  obtain ⟨Ad2, cap2, l2, e2, hi2, hl2⟩ := ops_open (v := .slice c2 len2 cap2) (by simpa [Value.cells] using hf2)
  clear hA0 hval0
  have hwalk := addrKeeps_walk a0 b0 c0 d0 e0 f0 a1 w1 Ad2 cap2 l2 hi2 hl2 W rfl
  rw [← e2] at hwalk
  refine hwalk.mono fun e W' ⟨he, bel⟩ => ?_
  subst he
  exact ⟨_, rfl, _, _, _, [], _, [], hW', trodAll_mk1 (shut_bool Try.underlying4 _), (trodAll_cons_mk (Below.trod addrKeeps_laid (by kernel_rfl) (of_decide_eq_true (by kernel_rfl)) k0 bel lt0) (trodAll_cons_mk (shut_int Try.underlying3 w1) (trodAll_cons_mk (Below.trod addrKeeps_laid (by kernel_rfl) (of_decide_eq_true (by kernel_rfl)) k2 bel lt2) trodAll_mk0))), rfl, bel.frame _, fun h => by cases h⟩

theorem addrKeeps_over : Rows.addrKeepsRow.holds Try.pinned (OpenSpec.ofChange Rows.addrKeepsSpec) :=
  OpenClaim.holds_of_wide 9 Try.f9 rfl rfl rfl rfl rfl rfl rfl ⟨rfl, rfl, rfl, rfl, rfl⟩ rfl rfl rfl rfl rfl (by kernel_rfl) Try.func9 (by kernel_rfl)
    (of_decide_eq_true (by kernel_rfl)) (by unfold Func.isWrapper; first | (rw [if_pos (by decide +kernel)]; kernel_rfl) | (rw [if_neg (by decide +kernel)]; exact ⟨rfl, rfl⟩))
    (fun os started H enc _ => addrKeeps_lifted os started H enc)

theorem addrKeeps_holds : Rows.AddrKeepsSaid := addrKeeps_over
#print axioms addrKeeps_holds
end Go.Proofs.Ytechdnkkchhaaaa
