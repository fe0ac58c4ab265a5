/- Contracts of the document's Decode: the packet. -/
import Derived.Test.YtneiemaepdknjaaRo
import Derived.Deep.Cut
namespace Go.Proofs.Ytneiemaepdknjaa
open Go.RowKit Go.Proofs.PitotIp
open Go.Proofs.Ytneiemaepdknjaa.Bi (lies_lt lies_cell lies_frozen lies_alloc)

set_option maxRecDepth 100000 in
set_option maxHeartbeats 4000000 in
theorem refdec_yes (s E2 E6 E10 FB KB E4 SB DB TB : ByteArray) (n part : Nat) (vs S vi vt vr : Int) (w : World) (hs : 20 ≤ s.size) (hm : s.size ≤ 200000) (i0 : IdxIs s 0 69) (i1 : IdxIs s 1 0) (x2 : s.extract 2 s.size = E2) (x6 : s.extract 6 s.size = E6) (h2 : TwoIs E2 n) (h6 : TwoIs E6 part) (hn : 20 ≤ n) (hp : part < 16384) (x10 : s.extract 10 s.size = E10) (y1 : s.extract 0 10 = FB) (y2 : s.extract 12 20 = KB) (z1 : FB.size = 10) (z2 : KB.size = 8) (h10 : TwoIs E10 vs) (hO : RefOnesIs (FB ++ ⟨#[0, 0]⟩ ++ KB) S) (hS : vs = S) (hl : n ≤ s.size) (x4 : s.extract 4 s.size = E4) (h4 : TwoIs E4 vi) (i8 : IdxIs s 8 vt) (i9 : IdxIs s 9 vr) (wt : IntKind.i64.wrap vt = vt) (wr : IntKind.i64.wrap vr = vr) (wp : (part : Int).tmod 8192 = (part % 8192 : Nat)) (y3 : s.extract 12 16 = SB) (y4 : s.extract 16 20 = DB) (y5 : s.extract 20 n = TB) :
    Calls Try.prog 14 #[.string s] w fun e w' => e = .returned (.tuple #[rp vi (decide (8192 ≤ (part : Int))) (part % 8192 : Nat) vt vr SB DB TB, .int .i64 0]) ∧ Below w.heap.size w w' := by
  subst hS
  have H4 := Lib.hid h4
  clear h4
  have H10 := Lib.hid h10; have HO := Lib.hid hO
  clear h10 hO
  have H2 := Lib.hid h2; have H6 := Lib.hid h6
  clear h2 h6
  have L0 : Hid ((w.alloc rpz).heap[w.heap.size]? = some rpz) := heap_alloc_new w _
  have k0 : Hid (Below w.heap.size w (w.alloc rpz)) := (Below.refl _ w).alloc (Nat.le_refl _) _
  go_enter Try.func14, Try.ntmps14
  go_upto_region 9 with (first
    | (go_at_call 22; (with_reducible refine (H2.out _).mono ?_); rintro r w1 ⟨rfl, hb⟩
       (have L0 : Hid (w1.heap[w.heap.size]? = some rpz) := lies_below L0.out hb (lies_lt L0.out))
       (have k0 : Hid (Below w.heap.size w w1) := k0.out.trans (hb.mono k0.out.size))
       (clear hb))
    | (go_at_call 22; (with_reducible refine (H6.out _).mono ?_); rintro r w2 ⟨rfl, hb⟩
       (have L0 : Hid (w2.heap[w.heap.size]? = some rpz) := lies_below L0.out hb (lies_lt L0.out))
       (have k0 : Hid (Below w.heap.size w w2) := k0.out.trans (hb.mono k0.out.size))
       (clear hb)))
  have L0 : Hid (w2.drew.heap[w.heap.size]? = some rpz) := L0.out
  have k0 : Hid (Below w.heap.size w w2.drew) := k0.out.drew
  have b1 : (10 : Int) ≤ (s.size : Int) := by omega
  have b2 : (20 : Int) ≤ (s.size : Int) := by omega
  have b3 : (12 : Int) ≤ (s.size : Int) := by omega
  have b4 : (4 : Int) ≤ (s.size : Int) := by omega
  have b5 : (16 : Int) ≤ (s.size : Int) := by omega
  go_region_held3 (fun _ => True) (trivial) (first
    | (go_at_call 22; (with_reducible refine (H10.out _).mono ?_); rintro r w3 ⟨rfl, hb⟩
       (have L0 : Hid (w3.heap[w.heap.size]? = some rpz) := lies_below L0.out hb (lies_lt L0.out))
       (have k0 : Hid (Below w.heap.size w w3) := k0.out.trans (hb.mono k0.out.size))
       (obtain ⟨c0, c1, c2, c3, c4, c5, c6, c7⟩ := cells8 L0.out)
       (have f0 := lies_frozen L0.out 0)
       (have f1 := lies_frozen L0.out 1)
       (have f2 := lies_frozen L0.out 2)
       (have f3 := lies_frozen L0.out 3)
       (have f4 := lies_frozen L0.out 4)
       (have f5 := lies_frozen L0.out 5)
       (have f6 := lies_frozen L0.out 6)
       (have f7 := lies_frozen L0.out 7)
       (clear hb))
    | (go_at_call 20; (with_reducible refine (HO.out _).mono ?_); rintro r w4 ⟨rfl, hb⟩
       (have L0 : Hid (w4.heap[w.heap.size]? = some rpz) := lies_below L0.out hb (lies_lt L0.out))
       (have k0 : Hid (Below w.heap.size w w4) := k0.out.trans (hb.mono k0.out.size))
       (obtain ⟨c0, c1, c2, c3, c4, c5, c6, c7⟩ := cells8 L0.out)
       (have f0 := lies_frozen L0.out 0)
       (have f1 := lies_frozen L0.out 1)
       (have f2 := lies_frozen L0.out 2)
       (have f3 := lies_frozen L0.out 3)
       (have f4 := lies_frozen L0.out 4)
       (have f5 := lies_frozen L0.out 5)
       (have f6 := lies_frozen L0.out 6)
       (have f7 := lies_frozen L0.out 7)
       (clear hb)))
  all_goals
    go_upto_region 13 with fail
    have L0 : Hid (w4.drew.heap[w.heap.size]? = some rpz) := L0.out
    have k0 : Hid (Below w.heap.size w w4.drew) := k0.out.drew
    have n1 : (20 : Int) ≤ (n : Int) := by omega
    have n2 : (n : Int) ≤ (s.size : Int) := by omega
    go_cut [3] from 6 (fun s3 wc => s3 = .int .i64 0 ∧ wc.heap[w.heap.size]? = some (rpC vi (decide (8192 ≤ (part : Int))) (part % 8192 : Nat) vt vr SB DB TB) ∧ Below w.heap.size w wc)
    case first =>
      go_region_held3 (fun _ => True) (trivial) (first
        | (go_at_call 22; (with_reducible refine (H4.out _).mono ?_); rintro r w5 ⟨rfl, hb⟩
           (have L0 : Hid (w5.heap[w.heap.size]? = some rpz) := lies_below L0.out hb (lies_lt L0.out))
           (have k0 : Hid (Below w.heap.size w w5) := k0.out.trans (hb.mono k0.out.size))
           (obtain ⟨c0, c1, c2, c3, c4, c5, c6, c7⟩ := cells8 L0.out)
           (have f0 := lies_frozen L0.out 0)
           (have f1 := lies_frozen L0.out 1)
           (have f2 := lies_frozen L0.out 2)
           (have f3 := lies_frozen L0.out 3)
           (have f4 := lies_frozen L0.out 4)
           (have f5 := lies_frozen L0.out 5)
           (have f6 := lies_frozen L0.out 6)
           (have f7 := lies_frozen L0.out 7)
           (clear hb)))
      all_goals
        go_wp2
        go_meet
        case rel => exact ⟨rfl, (read_8 L0.out).2.2.2.2.2.2.2.2, below_8 k0.out (Nat.le_refl _) _ _ _ _ _ _ _ _⟩
    case rest =>
      obtain ⟨rfl, LY, kY⟩ := hcut
      obtain ⟨l0, l1, l2, l3, l4, l5, l6, l7⟩ := cells8 LY
      go_wp2
      (try simp only [Exit.inBlock, Exit.then])
      refine bodyPost_ret (by simp [results, Try.results14, go_sem, l0, l1, l2, l3, l4, l5, l6, l7]; try rfl) rfl ?_
      exact ⟨rfl, kY⟩
end Go.Proofs.Ytneiemaepdknjaa
