/- For every two addresses and string the law UdpDecodes answers true: the program's Decode answers as the document's. No conditions. -/
import Derived.Test.YtpecmpepnfgnoaaRows
import Derived.Test.YtpecmpepnfgnoaaDb
import Derived.Test.YtpecmpepnfgnoaaPo
import Derived.Test.YtpecmpepnfgnoaaEx
import Derived.WalkKit
import Derived.Deep.Cut
import Derived.Deep.RegionHeld3
import Derived.ProofKit
import Derived.OpenShut
import Derived.ShutString
import Derived.ChangeOld
import Derived.Below
namespace Go.Proofs.Ytpecmpepnfgnoaa
open Go.ChangeShapes Go.WideShapes Go.ChangeAt Go.RowKit
open Go.ChangeMaps (open_string shut_string)
set_option linter.unusedVariables false

theorem udpDecodes_own : ownKnob Try.prog.godebug = none := by kernel_rfl
theorem udpDecodes_laid : laidOutB Try.prog = true := by kernel_rfl


open Go.Proofs.PitotIp
open Go.Proofs.Ytpecmpepnfgnoaa.Bi (lies_lt lies_cell lies_frozen lies_alloc)

/-- What the law holds: the addresses, what Decode answered. -/
structure Dl (w X : World) (a b : Q4) (g : Nat) (cs : Array Value) : Prop where
  ls : X.heap[w.heap.size]? = some (ip4C a)
  ld : X.heap[w.heap.size + 1]? = some (ip4C b)
  lg : X.heap[g]? = some (.cells cs 25)
  lb : Below w.heap.size w X
section
variable {w X Y : World} {a b : Q4} {g : Nat} {cs : Array Value}
theorem Dl.below (n : Dl w X a b g cs) (hb : Below X.heap.size X Y) : Dl w Y a b g cs := ⟨lies_below n.ls hb (lies_lt n.ls), lies_below n.ld hb (lies_lt n.ld), lies_below n.lg hb (lies_lt n.lg), n.lb.trans (hb.mono n.lb.size)⟩
theorem Dl.alloc (n : Dl w X a b g cs) (o : Obj) : Dl w (X.alloc o) a b g cs := ⟨lies_alloc n.ls o, lies_alloc n.ld o, lies_alloc n.lg o, n.lb.alloc n.lb.size o⟩
theorem Dl.drew (n : Dl w X a b g cs) : Dl w X.drew a b g cs := ⟨n.ls, n.ld, n.lg, n.lb.drew⟩
theorem Dl.lt (n : Dl w X a b g cs) : w.heap.size + 1 < X.heap.size ∧ g < X.heap.size := ⟨lies_lt n.ld, lies_lt n.lg⟩
theorem Dl.cells (n : Dl w X a b g cs) : X.cell? ⟨w.heap.size, 0, none⟩ = some (.int .u8 a.a.toNat) ∧ X.cell? ⟨w.heap.size, 1, none⟩ = some (.int .u8 a.b.toNat) ∧ X.cell? ⟨w.heap.size, 2, none⟩ = some (.int .u8 a.c.toNat) ∧ X.cell? ⟨w.heap.size, 3, none⟩ = some (.int .u8 a.d.toNat) ∧ X.cell? ⟨w.heap.size + 1, 0, none⟩ = some (.int .u8 b.a.toNat) ∧ X.cell? ⟨w.heap.size + 1, 1, none⟩ = some (.int .u8 b.b.toNat) ∧ X.cell? ⟨w.heap.size + 1, 2, none⟩ = some (.int .u8 b.c.toNat) ∧ X.cell? ⟨w.heap.size + 1, 3, none⟩ = some (.int .u8 b.d.toNat) := by
  obtain ⟨h0, h1, h2, h3⟩ := cells4 n.ls
  obtain ⟨g0, g1, g2, g3⟩ := cells4 n.ld
  exact ⟨h0, h1, h2, h3, g0, g1, g2, g3⟩
theorem Dl.set (n : Dl w X a b g cs) (gx k : Nat) (v : Value) (hg : w.heap.size + 1 < gx ∧ g < gx) : Dl w (X.setCell ⟨gx, k, none⟩ v) a b g cs :=
  ⟨(Below.heap_setCell X _ v _ (by show w.heap.size ≠ gx; omega)).trans n.ls, (Below.heap_setCell X _ v _ (by show w.heap.size + 1 ≠ gx; omega)).trans n.ld, (Below.heap_setCell X _ v _ (by show g ≠ gx; omega)).trans n.lg, n.lb.setCell (show w.heap.size ≤ (⟨gx, k, none⟩ : Addr).block from by show w.heap.size ≤ gx; omega) v⟩
end
theorem dl_store {w W : World} {a b : Q4} {g gx : Nat} {cs : Array Value} (LO : W.heap[gx]? = some rez) (n : Dl w W a b g cs) (hg : w.heap.size + 1 < gx ∧ g < gx) (y0 y1 y2 y3 : Value) :
    ((((W.setCell ⟨gx, 0, none⟩ y0).setCell ⟨gx, 1, none⟩ y1).setCell ⟨gx, 2, none⟩ y2).setCell ⟨gx, 3, none⟩ y3).heap[gx]? = some (.cells #[y0, y1, y2, y3] 32) ∧ Dl w ((((W.setCell ⟨gx, 0, none⟩ y0).setCell ⟨gx, 1, none⟩ y1).setCell ⟨gx, 2, none⟩ y2).setCell ⟨gx, 3, none⟩ y3) a b g cs :=
  ⟨(read_4 LO).2.2.2.2, Dl.set (Dl.set (Dl.set (Dl.set n gx 0 y0 hg) gx 1 y1 hg) gx 2 y2 hg) gx 3 y3 hg⟩
theorem cells14 {w : World} {g g' : Nat} {t t' : TypeId} {x0 x1 x2 x3 x4 x5 x6 x7 x8 x9 y0 y1 y2 y3 : Value} (h : w.heap[g]? = some (.cells #[x0, x1, x2, x3, x4, x5, x6, x7, x8, x9] t)) (h' : w.heap[g']? = some (.cells #[y0, y1, y2, y3] t')) :
    w.cell? ⟨g, 0, none⟩ = some x0 ∧ w.cell? ⟨g, 1, none⟩ = some x1 ∧ w.cell? ⟨g, 2, none⟩ = some x2 ∧ w.cell? ⟨g, 3, none⟩ = some x3 ∧ w.cell? ⟨g, 4, none⟩ = some x4 ∧ w.cell? ⟨g, 5, none⟩ = some x5 ∧ w.cell? ⟨g, 6, none⟩ = some x6 ∧ w.cell? ⟨g, 7, none⟩ = some x7 ∧ w.cell? ⟨g, 8, none⟩ = some x8 ∧ w.cell? ⟨g, 9, none⟩ = some x9 ∧ w.cell? ⟨g', 0, none⟩ = some y0 ∧ w.cell? ⟨g', 1, none⟩ = some y1 ∧ w.cell? ⟨g', 2, none⟩ = some y2 ∧ w.cell? ⟨g', 3, none⟩ = some y3 := by
  obtain ⟨c0, c1, c2, c3, c4, c5, c6, c7, c8, c9⟩ := cells10 h
  obtain ⟨d0, d1, d2, d3⟩ := cells4 h'
  exact ⟨c0, c1, c2, c3, c4, c5, c6, c7, c8, c9, d0, d1, d2, d3⟩

set_option maxRecDepth 100000 in
set_option maxHeartbeats 4000000 in
theorem udpDecodes_walk (a b : PitotIp.Q4) (s : ByteArray) (hs : s.size ≤ maxLen) (w : World) :
    Calls Try.prog 4 #[ip4 a, ip4 b, .string s] w fun e w' => e = .returned (.bool true) ∧ Below w.heap.size w w' := by
  unfold maxLen at hs
  have K0 : Hid (Below w.heap.size w ((w.alloc (ip4C a)).alloc (ip4C b))) := ((Below.refl _ w).alloc (Nat.le_refl _) _).alloc (by simp) _
  have LS : Hid (((w.alloc (ip4C a)).alloc (ip4C b)).heap[w.heap.size]? = some (ip4C a)) := lies_alloc (heap_alloc_new w _) _
  have LD : Hid (((w.alloc (ip4C a)).alloc (ip4C b)).heap[w.heap.size + 1]? = some (ip4C b)) := by
    have := heap_alloc_new (w.alloc (ip4C a)) (ip4C b)
    show _ = _
    simpa using this
  by_cases hbig : 9000 < s.size
  · go_enter Try.func4, Try.ntmps4
    go_wp2_with (go_at_call 9; (with_reducible refine (awake_any _).mono ?_); rintro e w1 ⟨rfl, hb1⟩)
    go_returns
    exact ⟨rfl, K0.out.trans (hb1.mono K0.out.size)⟩
  have HA := ip_any a
  have HB := ip_any b
  have HP := plain_any a b
  have hdec := dec_both a b s (by omega)
  obtain ⟨A, HAA⟩ : ∃ A, Hid (A = ipB a) := ⟨_, rfl⟩
  obtain ⟨B, HBB⟩ : ∃ A, Hid (A = ipB b) := ⟨_, rfl⟩
  rw [← HAA.out] at HA HP hdec
  rw [← HBB.out] at HB HP hdec
  have HA := Lib.hid HA
  have HB := Lib.hid HB
  rcases hdec with ⟨c, hc, H13, HR⟩ | ⟨f, t, D, H13, HR⟩
  · have H13 := Lib.hid H13
    have HR := Lib.hid HR
    have hc0 : ((c : Int) != 0) = true := by simpa using hc
    have hc1 : ¬ (c : Int) = 0 := hc
    clear hc HP
    have hz9 := zero9
    go_enter Try.func4, Try.ntmps4
    go_upto_region 4 with (first
      | (go_at_call 13; (with_reducible refine (H13.out _).mono ?_); rintro r w1 ⟨rfl, hb⟩
         (have Q0 : Hid (Dl w (w1.alloc (.cells #[.int .u8 0, .int .u8 0, .int .u8 0, .int .u8 0, .int .u8 0, .int .u8 0, .int .u8 0, .int .u8 0, .int .i64 0, .int .i64 0] 25)) a b w1.heap.size #[.int .u8 0, .int .u8 0, .int .u8 0, .int .u8 0, .int .u8 0, .int .u8 0, .int .u8 0, .int .u8 0, .int .i64 0, .int .i64 0]) := by
            have l1 := lies_below LS.out hb (lies_lt LS.out)
            have l2 := lies_below LD.out hb (lies_lt LD.out)
            have kk := K0.out.trans (hb.mono K0.out.size)
            exact ⟨lies_alloc l1 _, lies_alloc l2 _, heap_alloc_new w1 _, kk.alloc kk.size _⟩)
         (clear hb)))
    generalize hX : w1.alloc (.cells #[.int .u8 0, .int .u8 0, .int .u8 0, .int .u8 0, .int .u8 0, .int .u8 0, .int .u8 0, .int .u8 0, .int .i64 0, .int .i64 0] 25) = X at Q0 ⊢
    clear hX
    have QD : Hid (Dl w X.drew a b w1.heap.size #[.int .u8 0, .int .u8 0, .int .u8 0, .int .u8 0, .int .u8 0, .int .u8 0, .int .u8 0, .int .u8 0, .int .i64 0, .int .i64 0]) := Q0.out.drew
    have QA : Hid (Dl w (X.alloc rez).drew a b w1.heap.size #[.int .u8 0, .int .u8 0, .int .u8 0, .int .u8 0, .int .u8 0, .int .u8 0, .int .u8 0, .int .u8 0, .int .i64 0, .int .i64 0]) := (Q0.out.alloc rez).drew
    have QF : Hid (∀ o, Dl w (X.alloc o).drew a b w1.heap.size #[.int .u8 0, .int .u8 0, .int .u8 0, .int .u8 0, .int .u8 0, .int .u8 0, .int .u8 0, .int .u8 0, .int .i64 0, .int .i64 0]) := fun o => (Q0.out.alloc o).drew
    have NX : Hid (w.heap.size + 1 < X.heap.size ∧ w1.heap.size < X.heap.size) := Q0.out.lt
    have LX : Hid ((X.alloc rez).drew.heap[X.heap.size]? = some rez) := heap_alloc_new X rez
    clear Q0
    go_cut [10, 11, 12] from 13 (fun s10 s11 s12 wc => s11 = .string ⟨#[]⟩ ∧ s12 = .int .i64 c ∧ ∃ gx, s10 = .pointer (some ⟨gx, 0, none⟩) ∧ wc.heap[gx]? = some rez ∧ Dl w wc a b w1.heap.size #[.int .u8 0, .int .u8 0, .int .u8 0, .int .u8 0, .int .u8 0, .int .u8 0, .int .u8 0, .int .u8 0, .int .i64 0, .int .i64 0])
    case first =>
      go_region_held3 (fun w' => w'.cell? ⟨w.heap.size, 0, none⟩ = some (.int .u8 a.a.toNat) ∧ w'.cell? ⟨w.heap.size, 1, none⟩ = some (.int .u8 a.b.toNat) ∧ w'.cell? ⟨w.heap.size, 2, none⟩ = some (.int .u8 a.c.toNat) ∧ w'.cell? ⟨w.heap.size, 3, none⟩ = some (.int .u8 a.d.toNat) ∧ w'.cell? ⟨w.heap.size + 1, 0, none⟩ = some (.int .u8 b.a.toNat) ∧ w'.cell? ⟨w.heap.size + 1, 1, none⟩ = some (.int .u8 b.b.toNat) ∧ w'.cell? ⟨w.heap.size + 1, 2, none⟩ = some (.int .u8 b.c.toNat) ∧ w'.cell? ⟨w.heap.size + 1, 3, none⟩ = some (.int .u8 b.d.toNat))
        (first | (with_reducible exact QD.out.cells) | (with_reducible exact (QF.out _).cells) | (with_reducible exact Q2.out.cells) | (with_reducible exact (Q2A.out _).cells) | (with_reducible exact Q3.out.cells) | (with_reducible exact (Q3A.out _).cells) | (with_reducible exact Q4.out.cells) | (with_reducible exact (Q4A.out _).cells) | (with_reducible exact (NS.out _ _ _ _).2.cells))
        (first
          | (go_at_call 15; (with_reducible refine (HA.out X.drew).mono ?_); rintro r w2 ⟨rfl, hb⟩
             (have Q2 := Lib.hid (QD.out.below hb))
             (have Q2A := Lib.hid (fun o => Q2.out.alloc o))
             (clear hb))
          | (go_at_call 15; (with_reducible refine (HA.out (X.alloc rez).drew).mono ?_); rintro r w2 ⟨rfl, hb⟩
             (have Q2 := Lib.hid (QA.out.below hb))
             (have Q2A := Lib.hid (fun o => Q2.out.alloc o))
             (have LO := Lib.hid (lies_below LX.out hb (lies_lt LX.out)))
             (have NG := NX)
             (clear hb))
          | (go_at_call 15; (with_reducible refine (HB.out w2).mono ?_); rintro r w3 ⟨rfl, hb⟩
             (have LO := Lib.hid (lies_below LO.out hb (lies_lt LO.out)))
             (have Q3 := Lib.hid (Q2.out.below hb))
             (have Q3A := Lib.hid (fun o => Q3.out.alloc o))
             (clear hb))
          | (go_at_call 15; (with_reducible refine (HB.out (w2.alloc rez)).mono ?_); rintro r w3 ⟨rfl, hb⟩
             (have LO := Lib.hid (lies_below (heap_alloc_new w2 rez) hb (by simp)))
             (have NG := Lib.hid Q2.out.lt)
             (have Q3 := Lib.hid ((Q2A.out rez).below hb))
             (have Q3A := Lib.hid (fun o => Q3.out.alloc o))
             (clear hb))
          | (go_at_call 15; (with_reducible refine (HB.out w2).mono ?_); rintro r w3 ⟨rfl, hb⟩
             (have Q3 := Lib.hid (Q2.out.below hb))
             (have Q3A := Lib.hid (fun o => Q3.out.alloc o))
             (clear hb))
          | (go_at_call 14; (with_reducible refine (HR.out w3).mono ?_); rintro r w4 ⟨rfl, hb⟩
             (have LO := Lib.hid (lies_below LO.out hb (lies_lt LO.out)))
             (have Q4 := Lib.hid (Q3.out.below hb))
             (have Q4A := Lib.hid (fun o => Q4.out.alloc o))
             (have NS := Lib.hid (dl_store LO.out Q4.out NG.out))
             (obtain ⟨o0, o1, o2, o3⟩ := cells4 LO.out)
             (have z0 := lies_frozen LO.out 0)
             (have z1 := lies_frozen LO.out 1)
             (have z2 := lies_frozen LO.out 2)
             (have z3 := lies_frozen LO.out 3)
             (clear hb))
          | (go_at_call 14; (with_reducible refine (HR.out (w3.alloc rez)).mono ?_); rintro r w4 ⟨rfl, hb⟩
             (have LO := Lib.hid (lies_below (heap_alloc_new w3 rez) hb (by simp)))
             (have NG := Lib.hid Q3.out.lt)
             (have Q4 := Lib.hid ((Q3A.out rez).below hb))
             (have Q4A := Lib.hid (fun o => Q4.out.alloc o))
             (have NS := Lib.hid (dl_store LO.out Q4.out NG.out))
             (obtain ⟨o0, o1, o2, o3⟩ := cells4 LO.out)
             (have z0 := lies_frozen LO.out 0)
             (have z1 := lies_frozen LO.out 1)
             (have z2 := lies_frozen LO.out 2)
             (have z3 := lies_frozen LO.out 3)
             (clear hb))
          | (go_at_call 14; (with_reducible refine (HR.out w3).mono ?_); rintro r w4 ⟨rfl, hb⟩
             (have Q4 := Lib.hid (Q3.out.below hb))
             (have Q4A := Lib.hid (fun o => Q4.out.alloc o))
             (clear hb)))
      all_goals
        go_wp2
        go_meet
        case rel =>
          first
          | exact ⟨rfl, rfl, _, rfl, NS.out _ _ _ _⟩
          | exact ⟨rfl, rfl, _, rfl, heap_alloc_new _ _, Q4A.out _⟩
    case rest =>
      obtain ⟨rfl, rfl, gx, rfl, LY, QY⟩ := hcut
      clear QD QA QF NX LX
      obtain ⟨c0, c1, c2, c3, c4, c5, c6, c7, c8, c9⟩ := cells10 QY.lg
      have k0 := Lib.hid QY.lb
      clear LY QY
      go_wp2_with (first
        | (go_at_call 9; (with_reducible refine (awake_any _).mono ?_); rintro r w5 ⟨rfl, hb5⟩))
      go_returns
      exact ⟨rfl, k0.out.trans (hb5.mono k0.out.size)⟩
  · have H13 := Lib.hid H13
    have HR := Lib.hid HR
    have HP := Lib.hid (HP f t)
    go_enter Try.func4, Try.ntmps4
    go_upto_region 4 with (first
      | (go_at_call 13; (with_reducible refine (H13.out _).mono ?_); rintro r w1 ⟨rfl, hb⟩
         (have Q0 : Hid (Dl w (w1.alloc (.cells #[.int .u8 a.a.toNat, .int .u8 a.b.toNat, .int .u8 a.c.toNat, .int .u8 a.d.toNat, .int .u8 b.a.toNat, .int .u8 b.b.toNat, .int .u8 b.c.toNat, .int .u8 b.d.toNat, .int .i64 f, .int .i64 t] 25)) a b w1.heap.size #[.int .u8 a.a.toNat, .int .u8 a.b.toNat, .int .u8 a.c.toNat, .int .u8 a.d.toNat, .int .u8 b.a.toNat, .int .u8 b.b.toNat, .int .u8 b.c.toNat, .int .u8 b.d.toNat, .int .i64 f, .int .i64 t]) := by
            have l1 := lies_below LS.out hb (lies_lt LS.out)
            have l2 := lies_below LD.out hb (lies_lt LD.out)
            have kk := K0.out.trans (hb.mono K0.out.size)
            exact ⟨lies_alloc l1 _, lies_alloc l2 _, heap_alloc_new w1 _, kk.alloc kk.size _⟩)
         (clear hb)))
    generalize hX : w1.alloc (.cells #[.int .u8 a.a.toNat, .int .u8 a.b.toNat, .int .u8 a.c.toNat, .int .u8 a.d.toNat, .int .u8 b.a.toNat, .int .u8 b.b.toNat, .int .u8 b.c.toNat, .int .u8 b.d.toNat, .int .i64 f, .int .i64 t] 25) = X at Q0 ⊢
    clear hX
    have QD : Hid (Dl w X.drew a b w1.heap.size #[.int .u8 a.a.toNat, .int .u8 a.b.toNat, .int .u8 a.c.toNat, .int .u8 a.d.toNat, .int .u8 b.a.toNat, .int .u8 b.b.toNat, .int .u8 b.c.toNat, .int .u8 b.d.toNat, .int .i64 f, .int .i64 t]) := Q0.out.drew
    have QA : Hid (Dl w (X.alloc rez).drew a b w1.heap.size #[.int .u8 a.a.toNat, .int .u8 a.b.toNat, .int .u8 a.c.toNat, .int .u8 a.d.toNat, .int .u8 b.a.toNat, .int .u8 b.b.toNat, .int .u8 b.c.toNat, .int .u8 b.d.toNat, .int .i64 f, .int .i64 t]) := (Q0.out.alloc rez).drew
    have QF : Hid (∀ o, Dl w (X.alloc o).drew a b w1.heap.size #[.int .u8 a.a.toNat, .int .u8 a.b.toNat, .int .u8 a.c.toNat, .int .u8 a.d.toNat, .int .u8 b.a.toNat, .int .u8 b.b.toNat, .int .u8 b.c.toNat, .int .u8 b.d.toNat, .int .i64 f, .int .i64 t]) := fun o => (Q0.out.alloc o).drew
    have NX : Hid (w.heap.size + 1 < X.heap.size ∧ w1.heap.size < X.heap.size) := Q0.out.lt
    have LX : Hid ((X.alloc rez).drew.heap[X.heap.size]? = some rez) := heap_alloc_new X rez
    clear Q0
    go_cut [10, 11, 12] from 13 (fun s10 s11 s12 wc => s11 = .string D ∧ s12 = .int .i64 0 ∧ ∃ gx, s10 = .pointer (some ⟨gx, 0, none⟩) ∧ wc.heap[gx]? = some (reC A B f t) ∧ Dl w wc a b w1.heap.size #[.int .u8 a.a.toNat, .int .u8 a.b.toNat, .int .u8 a.c.toNat, .int .u8 a.d.toNat, .int .u8 b.a.toNat, .int .u8 b.b.toNat, .int .u8 b.c.toNat, .int .u8 b.d.toNat, .int .i64 f, .int .i64 t])
    case first =>
      go_region_held3 (fun w' => w'.cell? ⟨w.heap.size, 0, none⟩ = some (.int .u8 a.a.toNat) ∧ w'.cell? ⟨w.heap.size, 1, none⟩ = some (.int .u8 a.b.toNat) ∧ w'.cell? ⟨w.heap.size, 2, none⟩ = some (.int .u8 a.c.toNat) ∧ w'.cell? ⟨w.heap.size, 3, none⟩ = some (.int .u8 a.d.toNat) ∧ w'.cell? ⟨w.heap.size + 1, 0, none⟩ = some (.int .u8 b.a.toNat) ∧ w'.cell? ⟨w.heap.size + 1, 1, none⟩ = some (.int .u8 b.b.toNat) ∧ w'.cell? ⟨w.heap.size + 1, 2, none⟩ = some (.int .u8 b.c.toNat) ∧ w'.cell? ⟨w.heap.size + 1, 3, none⟩ = some (.int .u8 b.d.toNat))
        (first | (with_reducible exact QD.out.cells) | (with_reducible exact (QF.out _).cells) | (with_reducible exact Q2.out.cells) | (with_reducible exact (Q2A.out _).cells) | (with_reducible exact Q3.out.cells) | (with_reducible exact (Q3A.out _).cells) | (with_reducible exact Q4.out.cells) | (with_reducible exact (Q4A.out _).cells) | (with_reducible exact (NS.out _ _ _ _).2.cells))
        (first
          | (go_at_call 15; (with_reducible refine (HA.out X.drew).mono ?_); rintro r w2 ⟨rfl, hb⟩
             (have Q2 := Lib.hid (QD.out.below hb))
             (have Q2A := Lib.hid (fun o => Q2.out.alloc o))
             (clear hb))
          | (go_at_call 15; (with_reducible refine (HA.out (X.alloc rez).drew).mono ?_); rintro r w2 ⟨rfl, hb⟩
             (have Q2 := Lib.hid (QA.out.below hb))
             (have Q2A := Lib.hid (fun o => Q2.out.alloc o))
             (have LO := Lib.hid (lies_below LX.out hb (lies_lt LX.out)))
             (have NG := NX)
             (clear hb))
          | (go_at_call 15; (with_reducible refine (HB.out w2).mono ?_); rintro r w3 ⟨rfl, hb⟩
             (have LO := Lib.hid (lies_below LO.out hb (lies_lt LO.out)))
             (have Q3 := Lib.hid (Q2.out.below hb))
             (have Q3A := Lib.hid (fun o => Q3.out.alloc o))
             (clear hb))
          | (go_at_call 15; (with_reducible refine (HB.out (w2.alloc rez)).mono ?_); rintro r w3 ⟨rfl, hb⟩
             (have LO := Lib.hid (lies_below (heap_alloc_new w2 rez) hb (by simp)))
             (have NG := Lib.hid Q2.out.lt)
             (have Q3 := Lib.hid ((Q2A.out rez).below hb))
             (have Q3A := Lib.hid (fun o => Q3.out.alloc o))
             (clear hb))
          | (go_at_call 15; (with_reducible refine (HB.out w2).mono ?_); rintro r w3 ⟨rfl, hb⟩
             (have Q3 := Lib.hid (Q2.out.below hb))
             (have Q3A := Lib.hid (fun o => Q3.out.alloc o))
             (clear hb))
          | (go_at_call 14; (with_reducible refine (HR.out w3).mono ?_); rintro r w4 ⟨rfl, hb⟩
             (have LO := Lib.hid (lies_below LO.out hb (lies_lt LO.out)))
             (have Q4 := Lib.hid (Q3.out.below hb))
             (have Q4A := Lib.hid (fun o => Q4.out.alloc o))
             (have NS := Lib.hid (dl_store LO.out Q4.out NG.out))
             (obtain ⟨o0, o1, o2, o3⟩ := cells4 LO.out)
             (have z0 := lies_frozen LO.out 0)
             (have z1 := lies_frozen LO.out 1)
             (have z2 := lies_frozen LO.out 2)
             (have z3 := lies_frozen LO.out 3)
             (clear hb))
          | (go_at_call 14; (with_reducible refine (HR.out (w3.alloc rez)).mono ?_); rintro r w4 ⟨rfl, hb⟩
             (have LO := Lib.hid (lies_below (heap_alloc_new w3 rez) hb (by simp)))
             (have NG := Lib.hid Q3.out.lt)
             (have Q4 := Lib.hid ((Q3A.out rez).below hb))
             (have Q4A := Lib.hid (fun o => Q4.out.alloc o))
             (have NS := Lib.hid (dl_store LO.out Q4.out NG.out))
             (obtain ⟨o0, o1, o2, o3⟩ := cells4 LO.out)
             (have z0 := lies_frozen LO.out 0)
             (have z1 := lies_frozen LO.out 1)
             (have z2 := lies_frozen LO.out 2)
             (have z3 := lies_frozen LO.out 3)
             (clear hb))
          | (go_at_call 14; (with_reducible refine (HR.out w3).mono ?_); rintro r w4 ⟨rfl, hb⟩
             (have Q4 := Lib.hid (Q3.out.below hb))
             (have Q4A := Lib.hid (fun o => Q4.out.alloc o))
             (clear hb)))
      all_goals
        go_wp2
        go_meet
        case rel =>
          first
          | exact ⟨rfl, rfl, _, rfl, NS.out _ _ _ _⟩
          | exact ⟨rfl, rfl, _, rfl, heap_alloc_new _ _, Q4A.out _⟩
    case rest =>
      obtain ⟨rfl, rfl, gx, rfl, LY, QY⟩ := hcut
      clear QD QA QF NX LX
      have L0 := Lib.hid QY.lg
      have L1 := Lib.hid LY
      have k0 := Lib.hid QY.lb
      clear LY QY
      go_upto_region 9 with fail
      have L0 : Hid (wc.drew.heap[w1.heap.size]? = some (enC a b f t)) := L0.out
      have L1 : Hid (wc.drew.heap[gx]? = some (reC A B f t)) := L1.out
      have k0 : Hid (Below w.heap.size w wc.drew) := k0.out.drew
      go_region_held3 (fun w' => w'.cell? ⟨w1.heap.size, 0, none⟩ = some (.int .u8 a.a.toNat) ∧ w'.cell? ⟨w1.heap.size, 1, none⟩ = some (.int .u8 a.b.toNat) ∧ w'.cell? ⟨w1.heap.size, 2, none⟩ = some (.int .u8 a.c.toNat) ∧ w'.cell? ⟨w1.heap.size, 3, none⟩ = some (.int .u8 a.d.toNat) ∧ w'.cell? ⟨w1.heap.size, 4, none⟩ = some (.int .u8 b.a.toNat) ∧ w'.cell? ⟨w1.heap.size, 5, none⟩ = some (.int .u8 b.b.toNat) ∧ w'.cell? ⟨w1.heap.size, 6, none⟩ = some (.int .u8 b.c.toNat) ∧ w'.cell? ⟨w1.heap.size, 7, none⟩ = some (.int .u8 b.d.toNat) ∧ w'.cell? ⟨w1.heap.size, 8, none⟩ = some (.int .i64 f) ∧ w'.cell? ⟨w1.heap.size, 9, none⟩ = some (.int .i64 t) ∧ w'.cell? ⟨gx, 0, none⟩ = some (.string A) ∧ w'.cell? ⟨gx, 1, none⟩ = some (.string B) ∧ w'.cell? ⟨gx, 2, none⟩ = some (.int .i64 f) ∧ w'.cell? ⟨gx, 3, none⟩ = some (.int .i64 t))
        (with_reducible exact cells14 L0.out L1.out)
        (first
          | (go_at_call 12; (with_reducible refine (HP.out _).mono ?_); rintro r w5 ⟨rfl, hb⟩
             (have k0 : Hid (Below w.heap.size w w5) := k0.out.trans (hb.mono k0.out.size))
             (have L0 := Lib.hid (lies_below L0.out hb (lies_lt L0.out)))
             (have L1 := Lib.hid (lies_below L1.out hb (lies_lt L1.out)))
             (clear hb))
          | (go_at_call 9; (with_reducible refine (awake_any _).mono ?_); rintro r w6 ⟨rfl, hb⟩
             (have k0 : Hid (Below w.heap.size w w6) := k0.out.trans (hb.mono k0.out.size))
             (have L0 := Lib.hid (lies_below L0.out hb (lies_lt L0.out)))
             (have L1 := Lib.hid (lies_below L1.out hb (lies_lt L1.out)))
             (clear hb)))
      all_goals
        go_wp2
        go_returns
        exact ⟨rfl, k0.out⟩


set_option maxRecDepth 100000 in
theorem udpDecodes_lifted (os : Os) (started : os.Started) (H : Type) (enc : TypeId × Value → H) :
    ReturnsInHanded {} Try.checked os 4 .any (Rows.udpDecodesSpec.pre6 enc Try.prog Try.f4 Rows.udpDecodesRow.domain false) (Rows.udpDecodesSpec.post enc Try.prog Try.f4 false true false false) := by
  refine returnsInHanded_of_change (C := Try.checked) udpDecodes_own started (by kernel_rfl) Try.func4
    (ChangeSpec.witness6 (enc := enc) (C := Try.checked) false ⟨#[], #[.agg #[.int .u8 0, .int .u8 0, .int .u8 0, .int .u8 0], .agg #[.int .u8 0, .int .u8 0, .int .u8 0, .int .u8 0], .string ByteArray.empty], []⟩ 8 (by kernel_rfl) (by kernel_rfl) (by kernel_rfl) (by kernel_rfl)) ?_
  intro W base args ds gs before hval0 hW hcnd _
  have hval : ∀ (j : Nat) t v, Try.f4.params[j]? = some t → args[j]? = some v → Value.okWide Try.prog W .any base t v := hval0
  have hW' := hW
  obtain ⟨p, q, hA0, hV, rfl, hfz, hnd⟩ := hW
  have hA : DataW.TrodAll enc Try.prog W 0 (fun _ => true) true Try.f4.params.toList args.toList ds p := hA0
  rw [Try.params4] at hA hval
  obtain ⟨v0, vs0, d0, ds0, p0, q0, hargs, rfl, rfl, h0, r0⟩ := trodAll_cons hA
  obtain ⟨v1, vs1, d1, ds1, p1, q1, rfl, rfl, rfl, h1, r1⟩ := trodAll_cons r0
  obtain ⟨v2, vs2, d2, ds2, p2, q2, rfl, rfl, rfl, h2, r2⟩ := trodAll_cons r1
  obtain ⟨rfl, rfl, rfl⟩ := trodAll_nil r2
  obtain rfl : args = #[v0, v1, v2] := by cases args; simp_all
  obtain ⟨rfl, rfl⟩ := trodVars_none hV
  have k0 := h0
  have lt0 : ∀ x ∈ p0, x.block < W.heap.size := by obtain ⟨m, hm⟩ := k0; exact DataW.trod_lt m _ _ _ hm
  obtain ⟨fu0, hf0⟩ := h0
  obtain ⟨fq0, rfl⟩ := ip_open (hval 0 23 v0 rfl rfl) hf0
  have k1 := h1
  have lt1 : ∀ x ∈ p1, x.block < W.heap.size := by obtain ⟨m, hm⟩ := k1; exact DataW.trod_lt m _ _ _ hm
  obtain ⟨fu1, hf1⟩ := h1
  obtain ⟨fq1, rfl⟩ := ip_open (hval 1 23 v1 rfl rfl) hf1
  obtain ⟨a2, rfl, rfl, rfl, w2⟩ := open_string Try.underlying9 (hval 2 9 v2 rfl rfl) h2
  clear hA0 hval0
  have hwalk := udpDecodes_walk fq0 fq1 a2 w2 W

  refine hwalk.mono fun e W' ⟨he, bel⟩ => ?_
  subst he
  exact ⟨_, rfl, _, _, _, [], _, [], hW', trodAll_mk1 (shut_bool Try.underlying4 _), (trodAll_cons_mk (Below.trod udpDecodes_laid (by kernel_rfl) (of_decide_eq_true (by kernel_rfl)) k0 bel lt0) (trodAll_cons_mk (Below.trod udpDecodes_laid (by kernel_rfl) (of_decide_eq_true (by kernel_rfl)) k1 bel lt1) (trodAll_cons_mk (shut_string Try.underlying9 w2) trodAll_mk0))), rfl, bel.frame _, fun h => by cases h⟩

theorem udpDecodes_over : Rows.udpDecodesRow.holds Try.pinned (OpenSpec.ofChange Rows.udpDecodesSpec) :=
  OpenClaim.holds_of_wide 4 Try.f4 rfl rfl rfl rfl rfl rfl rfl ⟨rfl, rfl, rfl, rfl, rfl⟩ rfl rfl rfl rfl rfl (by kernel_rfl) Try.func4 (by kernel_rfl)
    (of_decide_eq_true (by kernel_rfl)) (by unfold Func.isWrapper; first | (rw [if_pos (by decide +kernel)]; kernel_rfl) | (rw [if_neg (by decide +kernel)]; exact ⟨rfl, rfl⟩))
    (fun os started H enc _ => udpDecodes_lifted os started H enc)

theorem udpDecodes_holds : Rows.UdpDecodesSaid := udpDecodes_over
#print axioms udpDecodes_holds
end Go.Proofs.Ytpecmpepnfgnoaa
