/- Merged: Fb, Fc, Fd, Fe, Ff. -/
import Derived.Test.YthicfgcnhefinaaM12
import Derived.Deep.RegionHeld3
import Derived.Deep.CutRange
import Derived.StillTailTactics
set_option linter.unusedVariables false
/- The law ConfigFirst: faults of kind [1]. -/
set_option maxRecDepth 100000
namespace Go.Proofs.Ythicfgcnhefinaa
open Go.RowKit
set_option maxHeartbeats 16000000 in
theorem first_1 (hosts major : Int) (pA wA vA qA : Option Addr) (pl pc wl wk vl vc ql qc : Nat) (r2 r3 : Int)  (w : World) (HA : Hid (∀ w, Calls Try.prog 10 #[] w fun e w' => e = .returned (.bool true) ∧ Below w.heap.size w w')) (HFW : Hid (∀ (w' : World), Below w.heap.size w w' → Calls Try.prog 9 #[.agg #[.int .i64 hosts, .slice pA pl pc, .int .i64 major, .slice wA wl wk, .slice vA vl vc, .slice qA ql qc]] w' fun e w'' => e = .returned (.bool true) ∧ Below w'.heap.size w' w'')) (HC : Hid (∀ (w' : World), Below w.heap.size w w' → Calls Try.prog 11 #[.agg #[.int .i64 hosts, .slice pA pl pc, .int .i64 major, .slice wA wl wk, .slice vA vl vc, .slice qA ql qc]] w' fun e w'' => e = .returned (.tuple #[.agg #[.int .i64 1, .int .i64 r2], .int .i64 r3]) ∧ Below w'.heap.size w' w'')) (g : r3 ≠ 0) (HDD : Hid (∀ (w' : World), Below w.heap.size w w' → Calls Try.prog 11 #[.agg #[.int .i64 hosts, .slice pA pl pc, .int .i64 major, .slice none 0 0, .slice none 0 0, .slice none 0 0]] w' fun e w'' => e = .returned (.tuple #[.agg #[.int .i64 1, .int .i64 r2], .int .i64 r3]) ∧ Below w'.heap.size w' w'')) :
    Calls Try.prog 7 #[.agg #[.int .i64 hosts, .slice pA pl pc, .int .i64 major, .slice wA wl wk, .slice vA vl vc, .slice qA ql qc]] w fun e w' => e = .returned (.bool true) ∧ Below w.heap.size w w' := by
  have CB0 : Hid ((w.alloc (.cells #[.int .i64 hosts, .slice pA pl pc, .int .i64 major, .slice wA wl wk, .slice vA vl vc, .slice qA ql qc] 27)).heap[w.heap.size]? = some (.cells #[.int .i64 hosts, .slice pA pl pc, .int .i64 major, .slice wA wl wk, .slice vA vl vc, .slice qA ql qc] 27)) := heap_alloc_new w _
  have BB0 : Hid (Below w.heap.size w (w.alloc (.cells #[.int .i64 hosts, .slice pA pl pc, .int .i64 major, .slice wA wl wk, .slice vA vl vc, .slice qA ql qc] 27))) := (Below.refl _ w).alloc (Nat.le_refl _) _
  go_enter Try.func7, Try.ntmps7
  go_upto_region 1 with (fail)
  have CB := CB0
  have BB := BB0
  clear CB0 BB0
  generalize w.alloc (.cells #[.int .i64 hosts, .slice pA pl pc, .int .i64 major, .slice wA wl wk, .slice vA vl vc, .slice qA ql qc] 27) = Wi at CB BB ⊢
  obtain ⟨c0, c1, c2, c3, c4, c5⟩ := cells_6 CB.out
  go_upto_region 4 with (first
    | (go_at_call 9; (with_reducible refine (HFW.out _ BB.out).mono ?_); rintro e w2 ⟨rfl, hb2⟩
       (have CBX := Lib.hid (lies_below CB.out hb2 (lies_lt CB.out)))
       (have BX := Lib.hid (BB.out.trans (hb2.mono BB.out.size)))
       (clear hb2 BB CB c0 c1 c2 c3 c4 c5)
       (have CB := CBX)
       (have BB := BX)
       (clear BX CBX)
       (obtain ⟨c0, c1, c2, c3, c4, c5⟩ := cells_6 CB.out))
    | (go_at_call 11; (with_reducible refine (HC.out _ BB.out).mono ?_); rintro e w3 ⟨rfl, hb2⟩
       (have CBX := Lib.hid (lies_below CB.out hb2 (lies_lt CB.out)))
       (have BX := Lib.hid (BB.out.trans (hb2.mono BB.out.size)))
       (clear hb2 BB CB c0 c1 c2 c3 c4 c5)
       (have CB := CBX)
       (have BB := BX)
       (clear BX CBX)
       (obtain ⟨c0, c1, c2, c3, c4, c5⟩ := cells_6 CB.out)))
  have FB : Hid ((w3.alloc (.cells #[.int .i64 1, .int .i64 r2] 31)).heap[w3.heap.size]? = some (.cells #[.int .i64 1, .int .i64 r2] 31)) := heap_alloc_new w3 _
  have hfb : w.heap.size < w3.heap.size := lies_lt CB.out
  have CBX := Lib.hid (lies_alloc (o := .cells #[.int .i64 1, .int .i64 r2] 31) CB.out)
  have BX : Hid (Below w.heap.size w (w3.alloc (.cells #[.int .i64 1, .int .i64 r2] 31))) := BB.out.alloc BB.out.size _
  clear BB CB c0 c1 c2 c3 c4 c5
  have CB := CBX
  have BB := BX
  clear BX CBX
  generalize w3.alloc (.cells #[.int .i64 1, .int .i64 r2] 31) = W0 at BB CB FB ⊢
  obtain ⟨c0, c1, c2, c3, c4, c5⟩ := cells_6 CB.out
  generalize w3.heap.size = fb at FB hfb ⊢
  obtain ⟨f0, f1⟩ := cells_2 FB.out
  have g1 : (r3 == 0) = false := by simpa using g
  clear g
  go_upto_region 7 with (fail)
  have DB : Hid ((W0.alloc (.cells #[.int .i64 hosts, .slice pA pl pc, .int .i64 major, .slice wA wl wk, .slice vA vl vc, .slice qA ql qc] 27)).heap[W0.heap.size]? = some (.cells #[.int .i64 hosts, .slice pA pl pc, .int .i64 major, .slice wA wl wk, .slice vA vl vc, .slice qA ql qc] 27)) := heap_alloc_new W0 _
  have hdb : w.heap.size < W0.heap.size := lies_lt CB.out
  have hdf : fb < W0.heap.size := lies_lt FB.out
  have CBX := Lib.hid (lies_alloc (o := .cells #[.int .i64 hosts, .slice pA pl pc, .int .i64 major, .slice wA wl wk, .slice vA vl vc, .slice qA ql qc] 27) CB.out)
  have FBX := Lib.hid (lies_alloc (o := .cells #[.int .i64 hosts, .slice pA pl pc, .int .i64 major, .slice wA wl wk, .slice vA vl vc, .slice qA ql qc] 27) FB.out)
  have BX : Hid (Below w.heap.size w (W0.alloc (.cells #[.int .i64 hosts, .slice pA pl pc, .int .i64 major, .slice wA wl wk, .slice vA vl vc, .slice qA ql qc] 27))) := BB.out.alloc BB.out.size _
  clear BB CB FB c0 c1 c2 c3 c4 c5 f0 f1
  have CB := CBX
  have FB := FBX
  have BB := BX
  clear BX CBX FBX
  generalize W0.alloc (.cells #[.int .i64 hosts, .slice pA pl pc, .int .i64 major, .slice wA wl wk, .slice vA vl vc, .slice qA ql qc] 27) = X0 at BB CB FB DB ⊢
  obtain ⟨c0, c1, c2, c3, c4, c5⟩ := cells_6 CB.out
  obtain ⟨f0, f1⟩ := cells_2 FB.out
  generalize W0.heap.size = db at DB hdb hdf ⊢
  obtain ⟨d0, d1, d2, d3, d4, d5⟩ := cells_6 DB.out
  clear g1
  have fd := lies_frozen DB.out 3
  go_upto_region 12 with (fail)
  have CBX := Lib.hid ((Below.heap_setCell X0 ⟨db, 3, none⟩ (.slice none 0 0) _ (show w.heap.size ≠ db by omega)).trans CB.out)
  have DBX : Hid ((X0.setCell ⟨db, 3, none⟩ (.slice none 0 0)).heap[db]? = some (.cells #[.int .i64 hosts, .slice pA pl pc, .int .i64 major, .slice none 0 0, .slice vA vl vc, .slice qA ql qc] 27)) := lies_set DB.out 3 _
  have FBX := Lib.hid ((Below.heap_setCell X0 ⟨db, 3, none⟩ (.slice none 0 0) _ (show fb ≠ db by omega)).trans FB.out)
  have BX : Hid (Below w.heap.size w (X0.setCell ⟨db, 3, none⟩ (.slice none 0 0))) := BB.out.setCell (show w.heap.size ≤ (⟨db, 3, none⟩ : Addr).block by show w.heap.size ≤ db; omega) _
  clear BB fd CB DB FB c0 c1 c2 c3 c4 c5 d0 d1 d2 d3 d4 d5 f0 f1
  have CB := CBX
  have DB := DBX
  have FB := FBX
  have BB := BX
  clear BX CBX DBX FBX
  generalize X0.setCell ⟨db, 3, none⟩ (.slice none 0 0) = X1 at BB CB DB FB ⊢
  obtain ⟨c0, c1, c2, c3, c4, c5⟩ := cells_6 CB.out
  obtain ⟨d0, d1, d2, d3, d4, d5⟩ := cells_6 DB.out
  obtain ⟨f0, f1⟩ := cells_2 FB.out
  have fd := lies_frozen DB.out 4
  go_upto_region 13 with (fail)
  have CBX := Lib.hid ((Below.heap_setCell X1 ⟨db, 4, none⟩ (.slice none 0 0) _ (show w.heap.size ≠ db by omega)).trans CB.out)
  have DBX : Hid ((X1.setCell ⟨db, 4, none⟩ (.slice none 0 0)).heap[db]? = some (.cells #[.int .i64 hosts, .slice pA pl pc, .int .i64 major, .slice none 0 0, .slice none 0 0, .slice qA ql qc] 27)) := lies_set DB.out 4 _
  have FBX := Lib.hid ((Below.heap_setCell X1 ⟨db, 4, none⟩ (.slice none 0 0) _ (show fb ≠ db by omega)).trans FB.out)
  have BX : Hid (Below w.heap.size w (X1.setCell ⟨db, 4, none⟩ (.slice none 0 0))) := BB.out.setCell (show w.heap.size ≤ (⟨db, 4, none⟩ : Addr).block by show w.heap.size ≤ db; omega) _
  clear BB fd CB DB FB c0 c1 c2 c3 c4 c5 d0 d1 d2 d3 d4 d5 f0 f1
  have CB := CBX
  have DB := DBX
  have FB := FBX
  have BB := BX
  clear BX CBX DBX FBX
  generalize X1.setCell ⟨db, 4, none⟩ (.slice none 0 0) = X2 at BB CB DB FB ⊢
  obtain ⟨c0, c1, c2, c3, c4, c5⟩ := cells_6 CB.out
  obtain ⟨d0, d1, d2, d3, d4, d5⟩ := cells_6 DB.out
  obtain ⟨f0, f1⟩ := cells_2 FB.out
  have fd := lies_frozen DB.out 5
  go_upto_region 29 with (fail)
  have CBX := Lib.hid ((Below.heap_setCell X2 ⟨db, 5, none⟩ (.slice none 0 0) _ (show w.heap.size ≠ db by omega)).trans CB.out)
  have DBX : Hid ((X2.setCell ⟨db, 5, none⟩ (.slice none 0 0)).heap[db]? = some (.cells #[.int .i64 hosts, .slice pA pl pc, .int .i64 major, .slice none 0 0, .slice none 0 0, .slice none 0 0] 27)) := lies_set DB.out 5 _
  have FBX := Lib.hid ((Below.heap_setCell X2 ⟨db, 5, none⟩ (.slice none 0 0) _ (show fb ≠ db by omega)).trans FB.out)
  have BX : Hid (Below w.heap.size w (X2.setCell ⟨db, 5, none⟩ (.slice none 0 0))) := BB.out.setCell (show w.heap.size ≤ (⟨db, 5, none⟩ : Addr).block by show w.heap.size ≤ db; omega) _
  clear BB fd CB DB FB c0 c1 c2 c3 c4 c5 d0 d1 d2 d3 d4 d5 f0 f1
  have CB := CBX
  have DB := DBX
  have FB := FBX
  have BB := BX
  clear BX CBX DBX FBX
  generalize X2.setCell ⟨db, 5, none⟩ (.slice none 0 0) = X3 at BB CB DB FB ⊢
  obtain ⟨c0, c1, c2, c3, c4, c5⟩ := cells_6 CB.out
  obtain ⟨d0, d1, d2, d3, d4, d5⟩ := cells_6 DB.out
  obtain ⟨f0, f1⟩ := cells_2 FB.out
  go_upto_region 30 with (first
    | (go_at_call 11; (with_reducible refine (HDD.out _ BB.out).mono ?_); rintro e w5 ⟨rfl, hb2⟩
       (have CBX := Lib.hid (lies_below CB.out hb2 (lies_lt CB.out)))
       (have DBX := Lib.hid (lies_below DB.out hb2 (lies_lt DB.out)))
       (have FBX := Lib.hid (lies_below FB.out hb2 (lies_lt FB.out)))
       (have BX := Lib.hid (BB.out.trans (hb2.mono BB.out.size)))
       (clear hb2 BB CB DB FB c0 c1 c2 c3 c4 c5 d0 d1 d2 d3 d4 d5 f0 f1)
       (have CB := CBX)
       (have DB := DBX)
       (have FB := FBX)
       (have BB := BX)
       (clear BX CBX DBX FBX)
       (obtain ⟨c0, c1, c2, c3, c4, c5⟩ := cells_6 CB.out)
       (obtain ⟨d0, d1, d2, d3, d4, d5⟩ := cells_6 DB.out)
       (obtain ⟨f0, f1⟩ := cells_2 FB.out)))
  clear d0 d1 d2 d3 d4 d5 c0 c1 c2 c3 c4 c5 f0 f1
  have GB : Hid ((w5.alloc (.cells #[.int .i64 1, .int .i64 r2] 31)).heap[w5.heap.size]? = some (.cells #[.int .i64 1, .int .i64 r2] 31)) := heap_alloc_new w5 _
  have FX := Lib.hid (lies_alloc (o := .cells #[.int .i64 1, .int .i64 r2] 31) FB.out)
  have BX : Hid (Below w.heap.size w (w5.alloc (.cells #[.int .i64 1, .int .i64 r2] 31))) := BB.out.alloc BB.out.size _
  clear BB FB CB DB
  have BB := BX
  have FB := FX
  clear BX FX
  generalize w5.alloc (.cells #[.int .i64 1, .int .i64 r2] 31) = Wz at BB FB GB ⊢
  obtain ⟨f0, f1⟩ := cells_2 FB.out
  obtain ⟨q0, q1⟩ := cells_2 GB.out
  go_wp2_with (go_at_call 10; (with_reducible refine (HA.out _).mono ?_); rintro e w9 ⟨rfl, hb9⟩)
  go_returns
  exact ⟨rfl, BB.out.trans (hb9.mono BB.out.size)⟩
end Go.Proofs.Ythicfgcnhefinaa
/- The law ConfigFirst: faults of kind [2]. -/
set_option maxRecDepth 100000
namespace Go.Proofs.Ythicfgcnhefinaa
open Go.RowKit
set_option maxHeartbeats 16000000 in
theorem first_2 (hosts major : Int) (pA wA vA qA : Option Addr) (pl pc wl wk vl vc ql qc : Nat) (r2 r3 : Int)  (w : World) (HA : Hid (∀ w, Calls Try.prog 10 #[] w fun e w' => e = .returned (.bool true) ∧ Below w.heap.size w w')) (HFW : Hid (∀ (w' : World), Below w.heap.size w w' → Calls Try.prog 9 #[.agg #[.int .i64 hosts, .slice pA pl pc, .int .i64 major, .slice wA wl wk, .slice vA vl vc, .slice qA ql qc]] w' fun e w'' => e = .returned (.bool true) ∧ Below w'.heap.size w' w'')) (HC : Hid (∀ (w' : World), Below w.heap.size w w' → Calls Try.prog 11 #[.agg #[.int .i64 hosts, .slice pA pl pc, .int .i64 major, .slice wA wl wk, .slice vA vl vc, .slice qA ql qc]] w' fun e w'' => e = .returned (.tuple #[.agg #[.int .i64 2, .int .i64 r2], .int .i64 r3]) ∧ Below w'.heap.size w' w'')) (g : r3 ≠ 0) (HDD : Hid (∀ (w' : World), Below w.heap.size w w' → Calls Try.prog 11 #[.agg #[.int .i64 hosts, .slice pA pl pc, .int .i64 major, .slice none 0 0, .slice none 0 0, .slice none 0 0]] w' fun e w'' => e = .returned (.tuple #[.agg #[.int .i64 2, .int .i64 r2], .int .i64 r3]) ∧ Below w'.heap.size w' w'')) :
    Calls Try.prog 7 #[.agg #[.int .i64 hosts, .slice pA pl pc, .int .i64 major, .slice wA wl wk, .slice vA vl vc, .slice qA ql qc]] w fun e w' => e = .returned (.bool true) ∧ Below w.heap.size w w' := by
  have CB0 : Hid ((w.alloc (.cells #[.int .i64 hosts, .slice pA pl pc, .int .i64 major, .slice wA wl wk, .slice vA vl vc, .slice qA ql qc] 27)).heap[w.heap.size]? = some (.cells #[.int .i64 hosts, .slice pA pl pc, .int .i64 major, .slice wA wl wk, .slice vA vl vc, .slice qA ql qc] 27)) := heap_alloc_new w _
  have BB0 : Hid (Below w.heap.size w (w.alloc (.cells #[.int .i64 hosts, .slice pA pl pc, .int .i64 major, .slice wA wl wk, .slice vA vl vc, .slice qA ql qc] 27))) := (Below.refl _ w).alloc (Nat.le_refl _) _
  go_enter Try.func7, Try.ntmps7
  go_upto_region 1 with (fail)
  have CB := CB0
  have BB := BB0
  clear CB0 BB0
  generalize w.alloc (.cells #[.int .i64 hosts, .slice pA pl pc, .int .i64 major, .slice wA wl wk, .slice vA vl vc, .slice qA ql qc] 27) = Wi at CB BB ⊢
  obtain ⟨c0, c1, c2, c3, c4, c5⟩ := cells_6 CB.out
  go_upto_region 4 with (first
    | (go_at_call 9; (with_reducible refine (HFW.out _ BB.out).mono ?_); rintro e w2 ⟨rfl, hb2⟩
       (have CBX := Lib.hid (lies_below CB.out hb2 (lies_lt CB.out)))
       (have BX := Lib.hid (BB.out.trans (hb2.mono BB.out.size)))
       (clear hb2 BB CB c0 c1 c2 c3 c4 c5)
       (have CB := CBX)
       (have BB := BX)
       (clear BX CBX)
       (obtain ⟨c0, c1, c2, c3, c4, c5⟩ := cells_6 CB.out))
    | (go_at_call 11; (with_reducible refine (HC.out _ BB.out).mono ?_); rintro e w3 ⟨rfl, hb2⟩
       (have CBX := Lib.hid (lies_below CB.out hb2 (lies_lt CB.out)))
       (have BX := Lib.hid (BB.out.trans (hb2.mono BB.out.size)))
       (clear hb2 BB CB c0 c1 c2 c3 c4 c5)
       (have CB := CBX)
       (have BB := BX)
       (clear BX CBX)
       (obtain ⟨c0, c1, c2, c3, c4, c5⟩ := cells_6 CB.out)))
  have FB : Hid ((w3.alloc (.cells #[.int .i64 2, .int .i64 r2] 31)).heap[w3.heap.size]? = some (.cells #[.int .i64 2, .int .i64 r2] 31)) := heap_alloc_new w3 _
  have hfb : w.heap.size < w3.heap.size := lies_lt CB.out
  have CBX := Lib.hid (lies_alloc (o := .cells #[.int .i64 2, .int .i64 r2] 31) CB.out)
  have BX : Hid (Below w.heap.size w (w3.alloc (.cells #[.int .i64 2, .int .i64 r2] 31))) := BB.out.alloc BB.out.size _
  clear BB CB c0 c1 c2 c3 c4 c5
  have CB := CBX
  have BB := BX
  clear BX CBX
  generalize w3.alloc (.cells #[.int .i64 2, .int .i64 r2] 31) = W0 at BB CB FB ⊢
  obtain ⟨c0, c1, c2, c3, c4, c5⟩ := cells_6 CB.out
  generalize w3.heap.size = fb at FB hfb ⊢
  obtain ⟨f0, f1⟩ := cells_2 FB.out
  have g1 : (r3 == 0) = false := by simpa using g
  clear g
  go_upto_region 7 with (fail)
  have DB : Hid ((W0.alloc (.cells #[.int .i64 hosts, .slice pA pl pc, .int .i64 major, .slice wA wl wk, .slice vA vl vc, .slice qA ql qc] 27)).heap[W0.heap.size]? = some (.cells #[.int .i64 hosts, .slice pA pl pc, .int .i64 major, .slice wA wl wk, .slice vA vl vc, .slice qA ql qc] 27)) := heap_alloc_new W0 _
  have hdb : w.heap.size < W0.heap.size := lies_lt CB.out
  have hdf : fb < W0.heap.size := lies_lt FB.out
  have CBX := Lib.hid (lies_alloc (o := .cells #[.int .i64 hosts, .slice pA pl pc, .int .i64 major, .slice wA wl wk, .slice vA vl vc, .slice qA ql qc] 27) CB.out)
  have FBX := Lib.hid (lies_alloc (o := .cells #[.int .i64 hosts, .slice pA pl pc, .int .i64 major, .slice wA wl wk, .slice vA vl vc, .slice qA ql qc] 27) FB.out)
  have BX : Hid (Below w.heap.size w (W0.alloc (.cells #[.int .i64 hosts, .slice pA pl pc, .int .i64 major, .slice wA wl wk, .slice vA vl vc, .slice qA ql qc] 27))) := BB.out.alloc BB.out.size _
  clear BB CB FB c0 c1 c2 c3 c4 c5 f0 f1
  have CB := CBX
  have FB := FBX
  have BB := BX
  clear BX CBX FBX
  generalize W0.alloc (.cells #[.int .i64 hosts, .slice pA pl pc, .int .i64 major, .slice wA wl wk, .slice vA vl vc, .slice qA ql qc] 27) = X0 at BB CB FB DB ⊢
  obtain ⟨c0, c1, c2, c3, c4, c5⟩ := cells_6 CB.out
  obtain ⟨f0, f1⟩ := cells_2 FB.out
  generalize W0.heap.size = db at DB hdb hdf ⊢
  obtain ⟨d0, d1, d2, d3, d4, d5⟩ := cells_6 DB.out
  clear g1
  have fd := lies_frozen DB.out 3
  go_upto_region 12 with (fail)
  have CBX := Lib.hid ((Below.heap_setCell X0 ⟨db, 3, none⟩ (.slice none 0 0) _ (show w.heap.size ≠ db by omega)).trans CB.out)
  have DBX : Hid ((X0.setCell ⟨db, 3, none⟩ (.slice none 0 0)).heap[db]? = some (.cells #[.int .i64 hosts, .slice pA pl pc, .int .i64 major, .slice none 0 0, .slice vA vl vc, .slice qA ql qc] 27)) := lies_set DB.out 3 _
  have FBX := Lib.hid ((Below.heap_setCell X0 ⟨db, 3, none⟩ (.slice none 0 0) _ (show fb ≠ db by omega)).trans FB.out)
  have BX : Hid (Below w.heap.size w (X0.setCell ⟨db, 3, none⟩ (.slice none 0 0))) := BB.out.setCell (show w.heap.size ≤ (⟨db, 3, none⟩ : Addr).block by show w.heap.size ≤ db; omega) _
  clear BB fd CB DB FB c0 c1 c2 c3 c4 c5 d0 d1 d2 d3 d4 d5 f0 f1
  have CB := CBX
  have DB := DBX
  have FB := FBX
  have BB := BX
  clear BX CBX DBX FBX
  generalize X0.setCell ⟨db, 3, none⟩ (.slice none 0 0) = X1 at BB CB DB FB ⊢
  obtain ⟨c0, c1, c2, c3, c4, c5⟩ := cells_6 CB.out
  obtain ⟨d0, d1, d2, d3, d4, d5⟩ := cells_6 DB.out
  obtain ⟨f0, f1⟩ := cells_2 FB.out
  have fd := lies_frozen DB.out 4
  go_upto_region 13 with (fail)
  have CBX := Lib.hid ((Below.heap_setCell X1 ⟨db, 4, none⟩ (.slice none 0 0) _ (show w.heap.size ≠ db by omega)).trans CB.out)
  have DBX : Hid ((X1.setCell ⟨db, 4, none⟩ (.slice none 0 0)).heap[db]? = some (.cells #[.int .i64 hosts, .slice pA pl pc, .int .i64 major, .slice none 0 0, .slice none 0 0, .slice qA ql qc] 27)) := lies_set DB.out 4 _
  have FBX := Lib.hid ((Below.heap_setCell X1 ⟨db, 4, none⟩ (.slice none 0 0) _ (show fb ≠ db by omega)).trans FB.out)
  have BX : Hid (Below w.heap.size w (X1.setCell ⟨db, 4, none⟩ (.slice none 0 0))) := BB.out.setCell (show w.heap.size ≤ (⟨db, 4, none⟩ : Addr).block by show w.heap.size ≤ db; omega) _
  clear BB fd CB DB FB c0 c1 c2 c3 c4 c5 d0 d1 d2 d3 d4 d5 f0 f1
  have CB := CBX
  have DB := DBX
  have FB := FBX
  have BB := BX
  clear BX CBX DBX FBX
  generalize X1.setCell ⟨db, 4, none⟩ (.slice none 0 0) = X2 at BB CB DB FB ⊢
  obtain ⟨c0, c1, c2, c3, c4, c5⟩ := cells_6 CB.out
  obtain ⟨d0, d1, d2, d3, d4, d5⟩ := cells_6 DB.out
  obtain ⟨f0, f1⟩ := cells_2 FB.out
  have fd := lies_frozen DB.out 5
  go_upto_region 29 with (fail)
  have CBX := Lib.hid ((Below.heap_setCell X2 ⟨db, 5, none⟩ (.slice none 0 0) _ (show w.heap.size ≠ db by omega)).trans CB.out)
  have DBX : Hid ((X2.setCell ⟨db, 5, none⟩ (.slice none 0 0)).heap[db]? = some (.cells #[.int .i64 hosts, .slice pA pl pc, .int .i64 major, .slice none 0 0, .slice none 0 0, .slice none 0 0] 27)) := lies_set DB.out 5 _
  have FBX := Lib.hid ((Below.heap_setCell X2 ⟨db, 5, none⟩ (.slice none 0 0) _ (show fb ≠ db by omega)).trans FB.out)
  have BX : Hid (Below w.heap.size w (X2.setCell ⟨db, 5, none⟩ (.slice none 0 0))) := BB.out.setCell (show w.heap.size ≤ (⟨db, 5, none⟩ : Addr).block by show w.heap.size ≤ db; omega) _
  clear BB fd CB DB FB c0 c1 c2 c3 c4 c5 d0 d1 d2 d3 d4 d5 f0 f1
  have CB := CBX
  have DB := DBX
  have FB := FBX
  have BB := BX
  clear BX CBX DBX FBX
  generalize X2.setCell ⟨db, 5, none⟩ (.slice none 0 0) = X3 at BB CB DB FB ⊢
  obtain ⟨c0, c1, c2, c3, c4, c5⟩ := cells_6 CB.out
  obtain ⟨d0, d1, d2, d3, d4, d5⟩ := cells_6 DB.out
  obtain ⟨f0, f1⟩ := cells_2 FB.out
  go_upto_region 30 with (first
    | (go_at_call 11; (with_reducible refine (HDD.out _ BB.out).mono ?_); rintro e w5 ⟨rfl, hb2⟩
       (have CBX := Lib.hid (lies_below CB.out hb2 (lies_lt CB.out)))
       (have DBX := Lib.hid (lies_below DB.out hb2 (lies_lt DB.out)))
       (have FBX := Lib.hid (lies_below FB.out hb2 (lies_lt FB.out)))
       (have BX := Lib.hid (BB.out.trans (hb2.mono BB.out.size)))
       (clear hb2 BB CB DB FB c0 c1 c2 c3 c4 c5 d0 d1 d2 d3 d4 d5 f0 f1)
       (have CB := CBX)
       (have DB := DBX)
       (have FB := FBX)
       (have BB := BX)
       (clear BX CBX DBX FBX)
       (obtain ⟨c0, c1, c2, c3, c4, c5⟩ := cells_6 CB.out)
       (obtain ⟨d0, d1, d2, d3, d4, d5⟩ := cells_6 DB.out)
       (obtain ⟨f0, f1⟩ := cells_2 FB.out)))
  clear d0 d1 d2 d3 d4 d5 c0 c1 c2 c3 c4 c5 f0 f1
  have GB : Hid ((w5.alloc (.cells #[.int .i64 2, .int .i64 r2] 31)).heap[w5.heap.size]? = some (.cells #[.int .i64 2, .int .i64 r2] 31)) := heap_alloc_new w5 _
  have FX := Lib.hid (lies_alloc (o := .cells #[.int .i64 2, .int .i64 r2] 31) FB.out)
  have BX : Hid (Below w.heap.size w (w5.alloc (.cells #[.int .i64 2, .int .i64 r2] 31))) := BB.out.alloc BB.out.size _
  clear BB FB CB DB
  have BB := BX
  have FB := FX
  clear BX FX
  generalize w5.alloc (.cells #[.int .i64 2, .int .i64 r2] 31) = Wz at BB FB GB ⊢
  obtain ⟨f0, f1⟩ := cells_2 FB.out
  obtain ⟨q0, q1⟩ := cells_2 GB.out
  go_wp2_with (go_at_call 10; (with_reducible refine (HA.out _).mono ?_); rintro e w9 ⟨rfl, hb9⟩)
  go_returns
  exact ⟨rfl, BB.out.trans (hb9.mono BB.out.size)⟩
end Go.Proofs.Ythicfgcnhefinaa
/- The law ConfigFirst: faults of kind [3]. -/
set_option maxRecDepth 100000
namespace Go.Proofs.Ythicfgcnhefinaa
open Go.RowKit
set_option maxHeartbeats 16000000 in
theorem first_3 (hosts major : Int) (pA wA vA qA : Option Addr) (pl pc wl wk vl vc ql qc : Nat) (r2 r3 : Int)  (w : World) (HA : Hid (∀ w, Calls Try.prog 10 #[] w fun e w' => e = .returned (.bool true) ∧ Below w.heap.size w w')) (HFW : Hid (∀ (w' : World), Below w.heap.size w w' → Calls Try.prog 9 #[.agg #[.int .i64 hosts, .slice pA pl pc, .int .i64 major, .slice wA wl wk, .slice vA vl vc, .slice qA ql qc]] w' fun e w'' => e = .returned (.bool true) ∧ Below w'.heap.size w' w'')) (HC : Hid (∀ (w' : World), Below w.heap.size w w' → Calls Try.prog 11 #[.agg #[.int .i64 hosts, .slice pA pl pc, .int .i64 major, .slice wA wl wk, .slice vA vl vc, .slice qA ql qc]] w' fun e w'' => e = .returned (.tuple #[.agg #[.int .i64 3, .int .i64 r2], .int .i64 r3]) ∧ Below w'.heap.size w' w'')) (g : r3 ≠ 0) (HDD : Hid (∀ (w' : World), Below w.heap.size w w' → Calls Try.prog 11 #[.agg #[.int .i64 hosts, .slice pA pl pc, .int .i64 major, .slice none 0 0, .slice none 0 0, .slice none 0 0]] w' fun e w'' => e = .returned (.tuple #[.agg #[.int .i64 3, .int .i64 r2], .int .i64 r3]) ∧ Below w'.heap.size w' w'')) :
    Calls Try.prog 7 #[.agg #[.int .i64 hosts, .slice pA pl pc, .int .i64 major, .slice wA wl wk, .slice vA vl vc, .slice qA ql qc]] w fun e w' => e = .returned (.bool true) ∧ Below w.heap.size w w' := by
  have CB0 : Hid ((w.alloc (.cells #[.int .i64 hosts, .slice pA pl pc, .int .i64 major, .slice wA wl wk, .slice vA vl vc, .slice qA ql qc] 27)).heap[w.heap.size]? = some (.cells #[.int .i64 hosts, .slice pA pl pc, .int .i64 major, .slice wA wl wk, .slice vA vl vc, .slice qA ql qc] 27)) := heap_alloc_new w _
  have BB0 : Hid (Below w.heap.size w (w.alloc (.cells #[.int .i64 hosts, .slice pA pl pc, .int .i64 major, .slice wA wl wk, .slice vA vl vc, .slice qA ql qc] 27))) := (Below.refl _ w).alloc (Nat.le_refl _) _
  go_enter Try.func7, Try.ntmps7
  go_upto_region 1 with (fail)
  have CB := CB0
  have BB := BB0
  clear CB0 BB0
  generalize w.alloc (.cells #[.int .i64 hosts, .slice pA pl pc, .int .i64 major, .slice wA wl wk, .slice vA vl vc, .slice qA ql qc] 27) = Wi at CB BB ⊢
  obtain ⟨c0, c1, c2, c3, c4, c5⟩ := cells_6 CB.out
  go_upto_region 4 with (first
    | (go_at_call 9; (with_reducible refine (HFW.out _ BB.out).mono ?_); rintro e w2 ⟨rfl, hb2⟩
       (have CBX := Lib.hid (lies_below CB.out hb2 (lies_lt CB.out)))
       (have BX := Lib.hid (BB.out.trans (hb2.mono BB.out.size)))
       (clear hb2 BB CB c0 c1 c2 c3 c4 c5)
       (have CB := CBX)
       (have BB := BX)
       (clear BX CBX)
       (obtain ⟨c0, c1, c2, c3, c4, c5⟩ := cells_6 CB.out))
    | (go_at_call 11; (with_reducible refine (HC.out _ BB.out).mono ?_); rintro e w3 ⟨rfl, hb2⟩
       (have CBX := Lib.hid (lies_below CB.out hb2 (lies_lt CB.out)))
       (have BX := Lib.hid (BB.out.trans (hb2.mono BB.out.size)))
       (clear hb2 BB CB c0 c1 c2 c3 c4 c5)
       (have CB := CBX)
       (have BB := BX)
       (clear BX CBX)
       (obtain ⟨c0, c1, c2, c3, c4, c5⟩ := cells_6 CB.out)))
  have FB : Hid ((w3.alloc (.cells #[.int .i64 3, .int .i64 r2] 31)).heap[w3.heap.size]? = some (.cells #[.int .i64 3, .int .i64 r2] 31)) := heap_alloc_new w3 _
  have hfb : w.heap.size < w3.heap.size := lies_lt CB.out
  have CBX := Lib.hid (lies_alloc (o := .cells #[.int .i64 3, .int .i64 r2] 31) CB.out)
  have BX : Hid (Below w.heap.size w (w3.alloc (.cells #[.int .i64 3, .int .i64 r2] 31))) := BB.out.alloc BB.out.size _
  clear BB CB c0 c1 c2 c3 c4 c5
  have CB := CBX
  have BB := BX
  clear BX CBX
  generalize w3.alloc (.cells #[.int .i64 3, .int .i64 r2] 31) = W0 at BB CB FB ⊢
  obtain ⟨c0, c1, c2, c3, c4, c5⟩ := cells_6 CB.out
  generalize w3.heap.size = fb at FB hfb ⊢
  obtain ⟨f0, f1⟩ := cells_2 FB.out
  have g1 : (r3 == 0) = false := by simpa using g
  clear g
  go_upto_region 7 with (fail)
  have DB : Hid ((W0.alloc (.cells #[.int .i64 hosts, .slice pA pl pc, .int .i64 major, .slice wA wl wk, .slice vA vl vc, .slice qA ql qc] 27)).heap[W0.heap.size]? = some (.cells #[.int .i64 hosts, .slice pA pl pc, .int .i64 major, .slice wA wl wk, .slice vA vl vc, .slice qA ql qc] 27)) := heap_alloc_new W0 _
  have hdb : w.heap.size < W0.heap.size := lies_lt CB.out
  have hdf : fb < W0.heap.size := lies_lt FB.out
  have CBX := Lib.hid (lies_alloc (o := .cells #[.int .i64 hosts, .slice pA pl pc, .int .i64 major, .slice wA wl wk, .slice vA vl vc, .slice qA ql qc] 27) CB.out)
  have FBX := Lib.hid (lies_alloc (o := .cells #[.int .i64 hosts, .slice pA pl pc, .int .i64 major, .slice wA wl wk, .slice vA vl vc, .slice qA ql qc] 27) FB.out)
  have BX : Hid (Below w.heap.size w (W0.alloc (.cells #[.int .i64 hosts, .slice pA pl pc, .int .i64 major, .slice wA wl wk, .slice vA vl vc, .slice qA ql qc] 27))) := BB.out.alloc BB.out.size _
  clear BB CB FB c0 c1 c2 c3 c4 c5 f0 f1
  have CB := CBX
  have FB := FBX
  have BB := BX
  clear BX CBX FBX
  generalize W0.alloc (.cells #[.int .i64 hosts, .slice pA pl pc, .int .i64 major, .slice wA wl wk, .slice vA vl vc, .slice qA ql qc] 27) = X0 at BB CB FB DB ⊢
  obtain ⟨c0, c1, c2, c3, c4, c5⟩ := cells_6 CB.out
  obtain ⟨f0, f1⟩ := cells_2 FB.out
  generalize W0.heap.size = db at DB hdb hdf ⊢
  obtain ⟨d0, d1, d2, d3, d4, d5⟩ := cells_6 DB.out
  clear g1
  have fd := lies_frozen DB.out 3
  go_upto_region 12 with (fail)
  have CBX := Lib.hid ((Below.heap_setCell X0 ⟨db, 3, none⟩ (.slice none 0 0) _ (show w.heap.size ≠ db by omega)).trans CB.out)
  have DBX : Hid ((X0.setCell ⟨db, 3, none⟩ (.slice none 0 0)).heap[db]? = some (.cells #[.int .i64 hosts, .slice pA pl pc, .int .i64 major, .slice none 0 0, .slice vA vl vc, .slice qA ql qc] 27)) := lies_set DB.out 3 _
  have FBX := Lib.hid ((Below.heap_setCell X0 ⟨db, 3, none⟩ (.slice none 0 0) _ (show fb ≠ db by omega)).trans FB.out)
  have BX : Hid (Below w.heap.size w (X0.setCell ⟨db, 3, none⟩ (.slice none 0 0))) := BB.out.setCell (show w.heap.size ≤ (⟨db, 3, none⟩ : Addr).block by show w.heap.size ≤ db; omega) _
  clear BB fd CB DB FB c0 c1 c2 c3 c4 c5 d0 d1 d2 d3 d4 d5 f0 f1
  have CB := CBX
  have DB := DBX
  have FB := FBX
  have BB := BX
  clear BX CBX DBX FBX
  generalize X0.setCell ⟨db, 3, none⟩ (.slice none 0 0) = X1 at BB CB DB FB ⊢
  obtain ⟨c0, c1, c2, c3, c4, c5⟩ := cells_6 CB.out
  obtain ⟨d0, d1, d2, d3, d4, d5⟩ := cells_6 DB.out
  obtain ⟨f0, f1⟩ := cells_2 FB.out
  have fd := lies_frozen DB.out 4
  go_upto_region 13 with (fail)
  have CBX := Lib.hid ((Below.heap_setCell X1 ⟨db, 4, none⟩ (.slice none 0 0) _ (show w.heap.size ≠ db by omega)).trans CB.out)
  have DBX : Hid ((X1.setCell ⟨db, 4, none⟩ (.slice none 0 0)).heap[db]? = some (.cells #[.int .i64 hosts, .slice pA pl pc, .int .i64 major, .slice none 0 0, .slice none 0 0, .slice qA ql qc] 27)) := lies_set DB.out 4 _
  have FBX := Lib.hid ((Below.heap_setCell X1 ⟨db, 4, none⟩ (.slice none 0 0) _ (show fb ≠ db by omega)).trans FB.out)
  have BX : Hid (Below w.heap.size w (X1.setCell ⟨db, 4, none⟩ (.slice none 0 0))) := BB.out.setCell (show w.heap.size ≤ (⟨db, 4, none⟩ : Addr).block by show w.heap.size ≤ db; omega) _
  clear BB fd CB DB FB c0 c1 c2 c3 c4 c5 d0 d1 d2 d3 d4 d5 f0 f1
  have CB := CBX
  have DB := DBX
  have FB := FBX
  have BB := BX
  clear BX CBX DBX FBX
  generalize X1.setCell ⟨db, 4, none⟩ (.slice none 0 0) = X2 at BB CB DB FB ⊢
  obtain ⟨c0, c1, c2, c3, c4, c5⟩ := cells_6 CB.out
  obtain ⟨d0, d1, d2, d3, d4, d5⟩ := cells_6 DB.out
  obtain ⟨f0, f1⟩ := cells_2 FB.out
  have fd := lies_frozen DB.out 5
  go_upto_region 29 with (fail)
  have CBX := Lib.hid ((Below.heap_setCell X2 ⟨db, 5, none⟩ (.slice none 0 0) _ (show w.heap.size ≠ db by omega)).trans CB.out)
  have DBX : Hid ((X2.setCell ⟨db, 5, none⟩ (.slice none 0 0)).heap[db]? = some (.cells #[.int .i64 hosts, .slice pA pl pc, .int .i64 major, .slice none 0 0, .slice none 0 0, .slice none 0 0] 27)) := lies_set DB.out 5 _
  have FBX := Lib.hid ((Below.heap_setCell X2 ⟨db, 5, none⟩ (.slice none 0 0) _ (show fb ≠ db by omega)).trans FB.out)
  have BX : Hid (Below w.heap.size w (X2.setCell ⟨db, 5, none⟩ (.slice none 0 0))) := BB.out.setCell (show w.heap.size ≤ (⟨db, 5, none⟩ : Addr).block by show w.heap.size ≤ db; omega) _
  clear BB fd CB DB FB c0 c1 c2 c3 c4 c5 d0 d1 d2 d3 d4 d5 f0 f1
  have CB := CBX
  have DB := DBX
  have FB := FBX
  have BB := BX
  clear BX CBX DBX FBX
  generalize X2.setCell ⟨db, 5, none⟩ (.slice none 0 0) = X3 at BB CB DB FB ⊢
  obtain ⟨c0, c1, c2, c3, c4, c5⟩ := cells_6 CB.out
  obtain ⟨d0, d1, d2, d3, d4, d5⟩ := cells_6 DB.out
  obtain ⟨f0, f1⟩ := cells_2 FB.out
  go_upto_region 30 with (first
    | (go_at_call 11; (with_reducible refine (HDD.out _ BB.out).mono ?_); rintro e w5 ⟨rfl, hb2⟩
       (have CBX := Lib.hid (lies_below CB.out hb2 (lies_lt CB.out)))
       (have DBX := Lib.hid (lies_below DB.out hb2 (lies_lt DB.out)))
       (have FBX := Lib.hid (lies_below FB.out hb2 (lies_lt FB.out)))
       (have BX := Lib.hid (BB.out.trans (hb2.mono BB.out.size)))
       (clear hb2 BB CB DB FB c0 c1 c2 c3 c4 c5 d0 d1 d2 d3 d4 d5 f0 f1)
       (have CB := CBX)
       (have DB := DBX)
       (have FB := FBX)
       (have BB := BX)
       (clear BX CBX DBX FBX)
       (obtain ⟨c0, c1, c2, c3, c4, c5⟩ := cells_6 CB.out)
       (obtain ⟨d0, d1, d2, d3, d4, d5⟩ := cells_6 DB.out)
       (obtain ⟨f0, f1⟩ := cells_2 FB.out)))
  clear d0 d1 d2 d3 d4 d5 c0 c1 c2 c3 c4 c5 f0 f1
  have GB : Hid ((w5.alloc (.cells #[.int .i64 3, .int .i64 r2] 31)).heap[w5.heap.size]? = some (.cells #[.int .i64 3, .int .i64 r2] 31)) := heap_alloc_new w5 _
  have FX := Lib.hid (lies_alloc (o := .cells #[.int .i64 3, .int .i64 r2] 31) FB.out)
  have BX : Hid (Below w.heap.size w (w5.alloc (.cells #[.int .i64 3, .int .i64 r2] 31))) := BB.out.alloc BB.out.size _
  clear BB FB CB DB
  have BB := BX
  have FB := FX
  clear BX FX
  generalize w5.alloc (.cells #[.int .i64 3, .int .i64 r2] 31) = Wz at BB FB GB ⊢
  obtain ⟨f0, f1⟩ := cells_2 FB.out
  obtain ⟨q0, q1⟩ := cells_2 GB.out
  go_wp2_with (go_at_call 10; (with_reducible refine (HA.out _).mono ?_); rintro e w9 ⟨rfl, hb9⟩)
  go_returns
  exact ⟨rfl, BB.out.trans (hb9.mono BB.out.size)⟩
end Go.Proofs.Ythicfgcnhefinaa
/- The law ConfigFirst: faults of kind [4]. -/
set_option maxRecDepth 100000
namespace Go.Proofs.Ythicfgcnhefinaa
open Go.RowKit
set_option maxHeartbeats 16000000 in
theorem first_4 (hosts major : Int) (pA vA qA : Option Addr) (pl pc wl wk vl vc ql qc : Nat) (r3 : Int) (b off a : Nat) (a1 : a < wl) (kc : wl ≤ wk) (mc : wl ≤ 9223372036854775807) (w : World) (HA : Hid (∀ w, Calls Try.prog 10 #[] w fun e w' => e = .returned (.bool true) ∧ Below w.heap.size w w')) (HFW : Hid (∀ (w' : World), Below w.heap.size w w' → Calls Try.prog 9 #[.agg #[.int .i64 hosts, .slice pA pl pc, .int .i64 major, .slice (some ⟨b, off, none⟩) wl wk, .slice vA vl vc, .slice qA ql qc]] w' fun e w'' => e = .returned (.bool true) ∧ Below w'.heap.size w' w'')) (HC : Hid (∀ (w' : World), Below w.heap.size w w' → Calls Try.prog 11 #[.agg #[.int .i64 hosts, .slice pA pl pc, .int .i64 major, .slice (some ⟨b, off, none⟩) wl wk, .slice vA vl vc, .slice qA ql qc]] w' fun e w'' => e = .returned (.tuple #[.agg #[.int .i64 4, .int .i64 a], .int .i64 r3]) ∧ Below w'.heap.size w' w'')) (g : r3 ≠ 0) (HDD : Hid (∀ (w' : World), Below w.heap.size w w' → Calls Try.prog 11 #[.agg #[.int .i64 hosts, .slice pA pl pc, .int .i64 major, .slice (some ⟨b, off, none⟩) (a + 1) wk, .slice none 0 0, .slice none 0 0]] w' fun e w'' => e = .returned (.tuple #[.agg #[.int .i64 4, .int .i64 a], .int .i64 r3]) ∧ Below w'.heap.size w' w'')) :
    Calls Try.prog 7 #[.agg #[.int .i64 hosts, .slice pA pl pc, .int .i64 major, .slice (some ⟨b, off, none⟩) wl wk, .slice vA vl vc, .slice qA ql qc]] w fun e w' => e = .returned (.bool true) ∧ Below w.heap.size w w' := by
  have CB0 : Hid ((w.alloc (.cells #[.int .i64 hosts, .slice pA pl pc, .int .i64 major, .slice (some ⟨b, off, none⟩) wl wk, .slice vA vl vc, .slice qA ql qc] 27)).heap[w.heap.size]? = some (.cells #[.int .i64 hosts, .slice pA pl pc, .int .i64 major, .slice (some ⟨b, off, none⟩) wl wk, .slice vA vl vc, .slice qA ql qc] 27)) := heap_alloc_new w _
  have BB0 : Hid (Below w.heap.size w (w.alloc (.cells #[.int .i64 hosts, .slice pA pl pc, .int .i64 major, .slice (some ⟨b, off, none⟩) wl wk, .slice vA vl vc, .slice qA ql qc] 27))) := (Below.refl _ w).alloc (Nat.le_refl _) _
  go_enter Try.func7, Try.ntmps7
  go_upto_region 1 with (fail)
  have CB := CB0
  have BB := BB0
  clear CB0 BB0
  generalize w.alloc (.cells #[.int .i64 hosts, .slice pA pl pc, .int .i64 major, .slice (some ⟨b, off, none⟩) wl wk, .slice vA vl vc, .slice qA ql qc] 27) = Wi at CB BB ⊢
  obtain ⟨c0, c1, c2, c3, c4, c5⟩ := cells_6 CB.out
  go_upto_region 4 with (first
    | (go_at_call 9; (with_reducible refine (HFW.out _ BB.out).mono ?_); rintro e w2 ⟨rfl, hb2⟩
       (have CBX := Lib.hid (lies_below CB.out hb2 (lies_lt CB.out)))
       (have BX := Lib.hid (BB.out.trans (hb2.mono BB.out.size)))
       (clear hb2 BB CB c0 c1 c2 c3 c4 c5)
       (have CB := CBX)
       (have BB := BX)
       (clear BX CBX)
       (obtain ⟨c0, c1, c2, c3, c4, c5⟩ := cells_6 CB.out))
    | (go_at_call 11; (with_reducible refine (HC.out _ BB.out).mono ?_); rintro e w3 ⟨rfl, hb2⟩
       (have CBX := Lib.hid (lies_below CB.out hb2 (lies_lt CB.out)))
       (have BX := Lib.hid (BB.out.trans (hb2.mono BB.out.size)))
       (clear hb2 BB CB c0 c1 c2 c3 c4 c5)
       (have CB := CBX)
       (have BB := BX)
       (clear BX CBX)
       (obtain ⟨c0, c1, c2, c3, c4, c5⟩ := cells_6 CB.out)))
  have FB : Hid ((w3.alloc (.cells #[.int .i64 4, .int .i64 a] 31)).heap[w3.heap.size]? = some (.cells #[.int .i64 4, .int .i64 a] 31)) := heap_alloc_new w3 _
  have hfb : w.heap.size < w3.heap.size := lies_lt CB.out
  have CBX := Lib.hid (lies_alloc (o := .cells #[.int .i64 4, .int .i64 a] 31) CB.out)
  have BX : Hid (Below w.heap.size w (w3.alloc (.cells #[.int .i64 4, .int .i64 a] 31))) := BB.out.alloc BB.out.size _
  clear BB CB c0 c1 c2 c3 c4 c5
  have CB := CBX
  have BB := BX
  clear BX CBX
  generalize w3.alloc (.cells #[.int .i64 4, .int .i64 a] 31) = W0 at BB CB FB ⊢
  obtain ⟨c0, c1, c2, c3, c4, c5⟩ := cells_6 CB.out
  generalize w3.heap.size = fb at FB hfb ⊢
  obtain ⟨f0, f1⟩ := cells_2 FB.out
  have g1 : (r3 == 0) = false := by simpa using g
  clear g
  go_upto_region 7 with (fail)
  have DB : Hid ((W0.alloc (.cells #[.int .i64 hosts, .slice pA pl pc, .int .i64 major, .slice (some ⟨b, off, none⟩) wl wk, .slice vA vl vc, .slice qA ql qc] 27)).heap[W0.heap.size]? = some (.cells #[.int .i64 hosts, .slice pA pl pc, .int .i64 major, .slice (some ⟨b, off, none⟩) wl wk, .slice vA vl vc, .slice qA ql qc] 27)) := heap_alloc_new W0 _
  have hdb : w.heap.size < W0.heap.size := lies_lt CB.out
  have hdf : fb < W0.heap.size := lies_lt FB.out
  have CBX := Lib.hid (lies_alloc (o := .cells #[.int .i64 hosts, .slice pA pl pc, .int .i64 major, .slice (some ⟨b, off, none⟩) wl wk, .slice vA vl vc, .slice qA ql qc] 27) CB.out)
  have FBX := Lib.hid (lies_alloc (o := .cells #[.int .i64 hosts, .slice pA pl pc, .int .i64 major, .slice (some ⟨b, off, none⟩) wl wk, .slice vA vl vc, .slice qA ql qc] 27) FB.out)
  have BX : Hid (Below w.heap.size w (W0.alloc (.cells #[.int .i64 hosts, .slice pA pl pc, .int .i64 major, .slice (some ⟨b, off, none⟩) wl wk, .slice vA vl vc, .slice qA ql qc] 27))) := BB.out.alloc BB.out.size _
  clear BB CB FB c0 c1 c2 c3 c4 c5 f0 f1
  have CB := CBX
  have FB := FBX
  have BB := BX
  clear BX CBX FBX
  generalize W0.alloc (.cells #[.int .i64 hosts, .slice pA pl pc, .int .i64 major, .slice (some ⟨b, off, none⟩) wl wk, .slice vA vl vc, .slice qA ql qc] 27) = X0 at BB CB FB DB ⊢
  obtain ⟨c0, c1, c2, c3, c4, c5⟩ := cells_6 CB.out
  obtain ⟨f0, f1⟩ := cells_2 FB.out
  generalize W0.heap.size = db at DB hdb hdf ⊢
  obtain ⟨d0, d1, d2, d3, d4, d5⟩ := cells_6 DB.out
  clear g1
  have i1 : decide ((a : Int) < 0) = false := decide_eq_false (by omega)
  have i2 : decide ((wl : Int) ≤ (a : Int)) = false := decide_eq_false (by omega)
  have i2b : decide (wl ≤ a) = false := decide_eq_false (by omega)
  have i3 : IntKind.i64.wrap ((a : Int) + 1) = ((a + 1 : Nat) : Int) := (IntWalk.i64_in _ (by omega)).trans (by omega)
  have i5 : a + 1 ≤ wk := by omega
  have i6 : ((a + 1 : Nat) : Int) ≤ (wk : Int) := by omega
  have fd := lies_frozen DB.out 3
  go_upto_region 18 with (fail)
  have CBX := Lib.hid ((Below.heap_setCell X0 ⟨db, 3, none⟩ (.slice (some ⟨b, off, none⟩) (a + 1) wk) _ (show w.heap.size ≠ db by omega)).trans CB.out)
  have DBX : Hid ((X0.setCell ⟨db, 3, none⟩ (.slice (some ⟨b, off, none⟩) (a + 1) wk)).heap[db]? = some (.cells #[.int .i64 hosts, .slice pA pl pc, .int .i64 major, .slice (some ⟨b, off, none⟩) (a + 1) wk, .slice vA vl vc, .slice qA ql qc] 27)) := lies_set DB.out 3 _
  have FBX := Lib.hid ((Below.heap_setCell X0 ⟨db, 3, none⟩ (.slice (some ⟨b, off, none⟩) (a + 1) wk) _ (show fb ≠ db by omega)).trans FB.out)
  have BX : Hid (Below w.heap.size w (X0.setCell ⟨db, 3, none⟩ (.slice (some ⟨b, off, none⟩) (a + 1) wk))) := BB.out.setCell (show w.heap.size ≤ (⟨db, 3, none⟩ : Addr).block by show w.heap.size ≤ db; omega) _
  clear BB fd CB DB FB c0 c1 c2 c3 c4 c5 d0 d1 d2 d3 d4 d5 f0 f1
  have CB := CBX
  have DB := DBX
  have FB := FBX
  have BB := BX
  clear BX CBX DBX FBX
  generalize X0.setCell ⟨db, 3, none⟩ (.slice (some ⟨b, off, none⟩) (a + 1) wk) = X1 at BB CB DB FB ⊢
  obtain ⟨c0, c1, c2, c3, c4, c5⟩ := cells_6 CB.out
  obtain ⟨d0, d1, d2, d3, d4, d5⟩ := cells_6 DB.out
  obtain ⟨f0, f1⟩ := cells_2 FB.out
  have fd := lies_frozen DB.out 4
  go_upto_region 19 with (fail)
  have CBX := Lib.hid ((Below.heap_setCell X1 ⟨db, 4, none⟩ (.slice none 0 0) _ (show w.heap.size ≠ db by omega)).trans CB.out)
  have DBX : Hid ((X1.setCell ⟨db, 4, none⟩ (.slice none 0 0)).heap[db]? = some (.cells #[.int .i64 hosts, .slice pA pl pc, .int .i64 major, .slice (some ⟨b, off, none⟩) (a + 1) wk, .slice none 0 0, .slice qA ql qc] 27)) := lies_set DB.out 4 _
  have FBX := Lib.hid ((Below.heap_setCell X1 ⟨db, 4, none⟩ (.slice none 0 0) _ (show fb ≠ db by omega)).trans FB.out)
  have BX : Hid (Below w.heap.size w (X1.setCell ⟨db, 4, none⟩ (.slice none 0 0))) := BB.out.setCell (show w.heap.size ≤ (⟨db, 4, none⟩ : Addr).block by show w.heap.size ≤ db; omega) _
  clear BB fd CB DB FB c0 c1 c2 c3 c4 c5 d0 d1 d2 d3 d4 d5 f0 f1
  have CB := CBX
  have DB := DBX
  have FB := FBX
  have BB := BX
  clear BX CBX DBX FBX
  generalize X1.setCell ⟨db, 4, none⟩ (.slice none 0 0) = X2 at BB CB DB FB ⊢
  obtain ⟨c0, c1, c2, c3, c4, c5⟩ := cells_6 CB.out
  obtain ⟨d0, d1, d2, d3, d4, d5⟩ := cells_6 DB.out
  obtain ⟨f0, f1⟩ := cells_2 FB.out
  have fd := lies_frozen DB.out 5
  go_upto_region 29 with (fail)
  have CBX := Lib.hid ((Below.heap_setCell X2 ⟨db, 5, none⟩ (.slice none 0 0) _ (show w.heap.size ≠ db by omega)).trans CB.out)
  have DBX : Hid ((X2.setCell ⟨db, 5, none⟩ (.slice none 0 0)).heap[db]? = some (.cells #[.int .i64 hosts, .slice pA pl pc, .int .i64 major, .slice (some ⟨b, off, none⟩) (a + 1) wk, .slice none 0 0, .slice none 0 0] 27)) := lies_set DB.out 5 _
  have FBX := Lib.hid ((Below.heap_setCell X2 ⟨db, 5, none⟩ (.slice none 0 0) _ (show fb ≠ db by omega)).trans FB.out)
  have BX : Hid (Below w.heap.size w (X2.setCell ⟨db, 5, none⟩ (.slice none 0 0))) := BB.out.setCell (show w.heap.size ≤ (⟨db, 5, none⟩ : Addr).block by show w.heap.size ≤ db; omega) _
  clear BB fd CB DB FB c0 c1 c2 c3 c4 c5 d0 d1 d2 d3 d4 d5 f0 f1
  have CB := CBX
  have DB := DBX
  have FB := FBX
  have BB := BX
  clear BX CBX DBX FBX
  generalize X2.setCell ⟨db, 5, none⟩ (.slice none 0 0) = X3 at BB CB DB FB ⊢
  obtain ⟨c0, c1, c2, c3, c4, c5⟩ := cells_6 CB.out
  obtain ⟨d0, d1, d2, d3, d4, d5⟩ := cells_6 DB.out
  obtain ⟨f0, f1⟩ := cells_2 FB.out
  go_upto_region 30 with (first
    | (go_at_call 11; (with_reducible refine (HDD.out _ BB.out).mono ?_); rintro e w5 ⟨rfl, hb2⟩
       (have CBX := Lib.hid (lies_below CB.out hb2 (lies_lt CB.out)))
       (have DBX := Lib.hid (lies_below DB.out hb2 (lies_lt DB.out)))
       (have FBX := Lib.hid (lies_below FB.out hb2 (lies_lt FB.out)))
       (have BX := Lib.hid (BB.out.trans (hb2.mono BB.out.size)))
       (clear hb2 BB CB DB FB c0 c1 c2 c3 c4 c5 d0 d1 d2 d3 d4 d5 f0 f1)
       (have CB := CBX)
       (have DB := DBX)
       (have FB := FBX)
       (have BB := BX)
       (clear BX CBX DBX FBX)
       (obtain ⟨c0, c1, c2, c3, c4, c5⟩ := cells_6 CB.out)
       (obtain ⟨d0, d1, d2, d3, d4, d5⟩ := cells_6 DB.out)
       (obtain ⟨f0, f1⟩ := cells_2 FB.out)))
  clear d0 d1 d2 d3 d4 d5 c0 c1 c2 c3 c4 c5 f0 f1
  have GB : Hid ((w5.alloc (.cells #[.int .i64 4, .int .i64 a] 31)).heap[w5.heap.size]? = some (.cells #[.int .i64 4, .int .i64 a] 31)) := heap_alloc_new w5 _
  have FX := Lib.hid (lies_alloc (o := .cells #[.int .i64 4, .int .i64 a] 31) FB.out)
  have BX : Hid (Below w.heap.size w (w5.alloc (.cells #[.int .i64 4, .int .i64 a] 31))) := BB.out.alloc BB.out.size _
  clear BB FB CB DB
  have BB := BX
  have FB := FX
  clear BX FX
  generalize w5.alloc (.cells #[.int .i64 4, .int .i64 a] 31) = Wz at BB FB GB ⊢
  obtain ⟨f0, f1⟩ := cells_2 FB.out
  obtain ⟨q0, q1⟩ := cells_2 GB.out
  go_wp2_with (go_at_call 10; (with_reducible refine (HA.out _).mono ?_); rintro e w9 ⟨rfl, hb9⟩)
  go_returns
  exact ⟨rfl, BB.out.trans (hb9.mono BB.out.size)⟩
end Go.Proofs.Ythicfgcnhefinaa
/- The law ConfigFirst: faults of kind [5]. -/
set_option maxRecDepth 100000
namespace Go.Proofs.Ythicfgcnhefinaa
open Go.RowKit
set_option maxHeartbeats 16000000 in
theorem first_5 (hosts major : Int) (pA wA qA : Option Addr) (pl pc wl wk vl vc ql qc : Nat) (r3 : Int) (b off a : Nat) (a1 : a < vl) (kc : vl ≤ vc) (mc : vl ≤ 9223372036854775807) (w : World) (HA : Hid (∀ w, Calls Try.prog 10 #[] w fun e w' => e = .returned (.bool true) ∧ Below w.heap.size w w')) (HFW : Hid (∀ (w' : World), Below w.heap.size w w' → Calls Try.prog 9 #[.agg #[.int .i64 hosts, .slice pA pl pc, .int .i64 major, .slice wA wl wk, .slice (some ⟨b, off, none⟩) vl vc, .slice qA ql qc]] w' fun e w'' => e = .returned (.bool true) ∧ Below w'.heap.size w' w'')) (HC : Hid (∀ (w' : World), Below w.heap.size w w' → Calls Try.prog 11 #[.agg #[.int .i64 hosts, .slice pA pl pc, .int .i64 major, .slice wA wl wk, .slice (some ⟨b, off, none⟩) vl vc, .slice qA ql qc]] w' fun e w'' => e = .returned (.tuple #[.agg #[.int .i64 5, .int .i64 a], .int .i64 r3]) ∧ Below w'.heap.size w' w'')) (g : r3 ≠ 0) (HDD : Hid (∀ (w' : World), Below w.heap.size w w' → Calls Try.prog 11 #[.agg #[.int .i64 hosts, .slice pA pl pc, .int .i64 major, .slice wA wl wk, .slice (some ⟨b, off, none⟩) (a + 1) vc, .slice none 0 0]] w' fun e w'' => e = .returned (.tuple #[.agg #[.int .i64 5, .int .i64 a], .int .i64 r3]) ∧ Below w'.heap.size w' w'')) :
    Calls Try.prog 7 #[.agg #[.int .i64 hosts, .slice pA pl pc, .int .i64 major, .slice wA wl wk, .slice (some ⟨b, off, none⟩) vl vc, .slice qA ql qc]] w fun e w' => e = .returned (.bool true) ∧ Below w.heap.size w w' := by
  have CB0 : Hid ((w.alloc (.cells #[.int .i64 hosts, .slice pA pl pc, .int .i64 major, .slice wA wl wk, .slice (some ⟨b, off, none⟩) vl vc, .slice qA ql qc] 27)).heap[w.heap.size]? = some (.cells #[.int .i64 hosts, .slice pA pl pc, .int .i64 major, .slice wA wl wk, .slice (some ⟨b, off, none⟩) vl vc, .slice qA ql qc] 27)) := heap_alloc_new w _
  have BB0 : Hid (Below w.heap.size w (w.alloc (.cells #[.int .i64 hosts, .slice pA pl pc, .int .i64 major, .slice wA wl wk, .slice (some ⟨b, off, none⟩) vl vc, .slice qA ql qc] 27))) := (Below.refl _ w).alloc (Nat.le_refl _) _
  go_enter Try.func7, Try.ntmps7
  go_upto_region 1 with (fail)
  have CB := CB0
  have BB := BB0
  clear CB0 BB0
  generalize w.alloc (.cells #[.int .i64 hosts, .slice pA pl pc, .int .i64 major, .slice wA wl wk, .slice (some ⟨b, off, none⟩) vl vc, .slice qA ql qc] 27) = Wi at CB BB ⊢
  obtain ⟨c0, c1, c2, c3, c4, c5⟩ := cells_6 CB.out
  go_upto_region 4 with (first
    | (go_at_call 9; (with_reducible refine (HFW.out _ BB.out).mono ?_); rintro e w2 ⟨rfl, hb2⟩
       (have CBX := Lib.hid (lies_below CB.out hb2 (lies_lt CB.out)))
       (have BX := Lib.hid (BB.out.trans (hb2.mono BB.out.size)))
       (clear hb2 BB CB c0 c1 c2 c3 c4 c5)
       (have CB := CBX)
       (have BB := BX)
       (clear BX CBX)
       (obtain ⟨c0, c1, c2, c3, c4, c5⟩ := cells_6 CB.out))
    | (go_at_call 11; (with_reducible refine (HC.out _ BB.out).mono ?_); rintro e w3 ⟨rfl, hb2⟩
       (have CBX := Lib.hid (lies_below CB.out hb2 (lies_lt CB.out)))
       (have BX := Lib.hid (BB.out.trans (hb2.mono BB.out.size)))
       (clear hb2 BB CB c0 c1 c2 c3 c4 c5)
       (have CB := CBX)
       (have BB := BX)
       (clear BX CBX)
       (obtain ⟨c0, c1, c2, c3, c4, c5⟩ := cells_6 CB.out)))
  have FB : Hid ((w3.alloc (.cells #[.int .i64 5, .int .i64 a] 31)).heap[w3.heap.size]? = some (.cells #[.int .i64 5, .int .i64 a] 31)) := heap_alloc_new w3 _
  have hfb : w.heap.size < w3.heap.size := lies_lt CB.out
  have CBX := Lib.hid (lies_alloc (o := .cells #[.int .i64 5, .int .i64 a] 31) CB.out)
  have BX : Hid (Below w.heap.size w (w3.alloc (.cells #[.int .i64 5, .int .i64 a] 31))) := BB.out.alloc BB.out.size _
  clear BB CB c0 c1 c2 c3 c4 c5
  have CB := CBX
  have BB := BX
  clear BX CBX
  generalize w3.alloc (.cells #[.int .i64 5, .int .i64 a] 31) = W0 at BB CB FB ⊢
  obtain ⟨c0, c1, c2, c3, c4, c5⟩ := cells_6 CB.out
  generalize w3.heap.size = fb at FB hfb ⊢
  obtain ⟨f0, f1⟩ := cells_2 FB.out
  have g1 : (r3 == 0) = false := by simpa using g
  clear g
  go_upto_region 7 with (fail)
  have DB : Hid ((W0.alloc (.cells #[.int .i64 hosts, .slice pA pl pc, .int .i64 major, .slice wA wl wk, .slice (some ⟨b, off, none⟩) vl vc, .slice qA ql qc] 27)).heap[W0.heap.size]? = some (.cells #[.int .i64 hosts, .slice pA pl pc, .int .i64 major, .slice wA wl wk, .slice (some ⟨b, off, none⟩) vl vc, .slice qA ql qc] 27)) := heap_alloc_new W0 _
  have hdb : w.heap.size < W0.heap.size := lies_lt CB.out
  have hdf : fb < W0.heap.size := lies_lt FB.out
  have CBX := Lib.hid (lies_alloc (o := .cells #[.int .i64 hosts, .slice pA pl pc, .int .i64 major, .slice wA wl wk, .slice (some ⟨b, off, none⟩) vl vc, .slice qA ql qc] 27) CB.out)
  have FBX := Lib.hid (lies_alloc (o := .cells #[.int .i64 hosts, .slice pA pl pc, .int .i64 major, .slice wA wl wk, .slice (some ⟨b, off, none⟩) vl vc, .slice qA ql qc] 27) FB.out)
  have BX : Hid (Below w.heap.size w (W0.alloc (.cells #[.int .i64 hosts, .slice pA pl pc, .int .i64 major, .slice wA wl wk, .slice (some ⟨b, off, none⟩) vl vc, .slice qA ql qc] 27))) := BB.out.alloc BB.out.size _
  clear BB CB FB c0 c1 c2 c3 c4 c5 f0 f1
  have CB := CBX
  have FB := FBX
  have BB := BX
  clear BX CBX FBX
  generalize W0.alloc (.cells #[.int .i64 hosts, .slice pA pl pc, .int .i64 major, .slice wA wl wk, .slice (some ⟨b, off, none⟩) vl vc, .slice qA ql qc] 27) = X0 at BB CB FB DB ⊢
  obtain ⟨c0, c1, c2, c3, c4, c5⟩ := cells_6 CB.out
  obtain ⟨f0, f1⟩ := cells_2 FB.out
  generalize W0.heap.size = db at DB hdb hdf ⊢
  obtain ⟨d0, d1, d2, d3, d4, d5⟩ := cells_6 DB.out
  clear g1
  have i1 : decide ((a : Int) < 0) = false := decide_eq_false (by omega)
  have i2 : decide ((vl : Int) ≤ (a : Int)) = false := decide_eq_false (by omega)
  have i2b : decide (vl ≤ a) = false := decide_eq_false (by omega)
  have i3 : IntKind.i64.wrap ((a : Int) + 1) = ((a + 1 : Nat) : Int) := (IntWalk.i64_in _ (by omega)).trans (by omega)
  have i5 : a + 1 ≤ vc := by omega
  have i6 : ((a + 1 : Nat) : Int) ≤ (vc : Int) := by omega
  have fd := lies_frozen DB.out 4
  go_upto_region 24 with (fail)
  have CBX := Lib.hid ((Below.heap_setCell X0 ⟨db, 4, none⟩ (.slice (some ⟨b, off, none⟩) (a + 1) vc) _ (show w.heap.size ≠ db by omega)).trans CB.out)
  have DBX : Hid ((X0.setCell ⟨db, 4, none⟩ (.slice (some ⟨b, off, none⟩) (a + 1) vc)).heap[db]? = some (.cells #[.int .i64 hosts, .slice pA pl pc, .int .i64 major, .slice wA wl wk, .slice (some ⟨b, off, none⟩) (a + 1) vc, .slice qA ql qc] 27)) := lies_set DB.out 4 _
  have FBX := Lib.hid ((Below.heap_setCell X0 ⟨db, 4, none⟩ (.slice (some ⟨b, off, none⟩) (a + 1) vc) _ (show fb ≠ db by omega)).trans FB.out)
  have BX : Hid (Below w.heap.size w (X0.setCell ⟨db, 4, none⟩ (.slice (some ⟨b, off, none⟩) (a + 1) vc))) := BB.out.setCell (show w.heap.size ≤ (⟨db, 4, none⟩ : Addr).block by show w.heap.size ≤ db; omega) _
  clear BB fd CB DB FB c0 c1 c2 c3 c4 c5 d0 d1 d2 d3 d4 d5 f0 f1
  have CB := CBX
  have DB := DBX
  have FB := FBX
  have BB := BX
  clear BX CBX DBX FBX
  generalize X0.setCell ⟨db, 4, none⟩ (.slice (some ⟨b, off, none⟩) (a + 1) vc) = X1 at BB CB DB FB ⊢
  obtain ⟨c0, c1, c2, c3, c4, c5⟩ := cells_6 CB.out
  obtain ⟨d0, d1, d2, d3, d4, d5⟩ := cells_6 DB.out
  obtain ⟨f0, f1⟩ := cells_2 FB.out
  have fd := lies_frozen DB.out 5
  go_upto_region 29 with (fail)
  have CBX := Lib.hid ((Below.heap_setCell X1 ⟨db, 5, none⟩ (.slice none 0 0) _ (show w.heap.size ≠ db by omega)).trans CB.out)
  have DBX : Hid ((X1.setCell ⟨db, 5, none⟩ (.slice none 0 0)).heap[db]? = some (.cells #[.int .i64 hosts, .slice pA pl pc, .int .i64 major, .slice wA wl wk, .slice (some ⟨b, off, none⟩) (a + 1) vc, .slice none 0 0] 27)) := lies_set DB.out 5 _
  have FBX := Lib.hid ((Below.heap_setCell X1 ⟨db, 5, none⟩ (.slice none 0 0) _ (show fb ≠ db by omega)).trans FB.out)
  have BX : Hid (Below w.heap.size w (X1.setCell ⟨db, 5, none⟩ (.slice none 0 0))) := BB.out.setCell (show w.heap.size ≤ (⟨db, 5, none⟩ : Addr).block by show w.heap.size ≤ db; omega) _
  clear BB fd CB DB FB c0 c1 c2 c3 c4 c5 d0 d1 d2 d3 d4 d5 f0 f1
  have CB := CBX
  have DB := DBX
  have FB := FBX
  have BB := BX
  clear BX CBX DBX FBX
  generalize X1.setCell ⟨db, 5, none⟩ (.slice none 0 0) = X2 at BB CB DB FB ⊢
  obtain ⟨c0, c1, c2, c3, c4, c5⟩ := cells_6 CB.out
  obtain ⟨d0, d1, d2, d3, d4, d5⟩ := cells_6 DB.out
  obtain ⟨f0, f1⟩ := cells_2 FB.out
  go_upto_region 30 with (first
    | (go_at_call 11; (with_reducible refine (HDD.out _ BB.out).mono ?_); rintro e w5 ⟨rfl, hb2⟩
       (have CBX := Lib.hid (lies_below CB.out hb2 (lies_lt CB.out)))
       (have DBX := Lib.hid (lies_below DB.out hb2 (lies_lt DB.out)))
       (have FBX := Lib.hid (lies_below FB.out hb2 (lies_lt FB.out)))
       (have BX := Lib.hid (BB.out.trans (hb2.mono BB.out.size)))
       (clear hb2 BB CB DB FB c0 c1 c2 c3 c4 c5 d0 d1 d2 d3 d4 d5 f0 f1)
       (have CB := CBX)
       (have DB := DBX)
       (have FB := FBX)
       (have BB := BX)
       (clear BX CBX DBX FBX)
       (obtain ⟨c0, c1, c2, c3, c4, c5⟩ := cells_6 CB.out)
       (obtain ⟨d0, d1, d2, d3, d4, d5⟩ := cells_6 DB.out)
       (obtain ⟨f0, f1⟩ := cells_2 FB.out)))
  clear d0 d1 d2 d3 d4 d5 c0 c1 c2 c3 c4 c5 f0 f1
  have GB : Hid ((w5.alloc (.cells #[.int .i64 5, .int .i64 a] 31)).heap[w5.heap.size]? = some (.cells #[.int .i64 5, .int .i64 a] 31)) := heap_alloc_new w5 _
  have FX := Lib.hid (lies_alloc (o := .cells #[.int .i64 5, .int .i64 a] 31) FB.out)
  have BX : Hid (Below w.heap.size w (w5.alloc (.cells #[.int .i64 5, .int .i64 a] 31))) := BB.out.alloc BB.out.size _
  clear BB FB CB DB
  have BB := BX
  have FB := FX
  clear BX FX
  generalize w5.alloc (.cells #[.int .i64 5, .int .i64 a] 31) = Wz at BB FB GB ⊢
  obtain ⟨f0, f1⟩ := cells_2 FB.out
  obtain ⟨q0, q1⟩ := cells_2 GB.out
  go_wp2_with (go_at_call 10; (with_reducible refine (HA.out _).mono ?_); rintro e w9 ⟨rfl, hb9⟩)
  go_returns
  exact ⟨rfl, BB.out.trans (hb9.mono BB.out.size)⟩
end Go.Proofs.Ythicfgcnhefinaa
