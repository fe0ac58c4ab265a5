/- The program's Check: its region that calls a judge. -/
import Derived.Test.YtdgkanamceeheaaGreatK27
import Derived.Test.YtdgkanamceeheaaGreatK0
import Derived.Deep.RegionHeld3
set_option linter.unusedVariables false
set_option maxRecDepth 100000
namespace Go.Proofs.YtdgkanamceeheaaGreat
open Go.RowKit
set_option maxHeartbeats 4000000 in
theorem call_1 {W : World} {cb ab : Nat} {hosts major : Int} {pA wA vA qA : Option Addr} {pl pc wl wk vl vc ql qc : Nat} {at_ er : Int} (HC : Hid (W.heap[cb]? = some (.cells #[.int .i64 hosts,.slice pA pl pc,.int .i64 major,.slice wA wl wk,.slice vA vl vc,.slice qA ql qc] 28))) (HA : Hid (W.heap[ab]? = some (.cells #[.nilFunc,.func (.func 28) #[] #[],.func (.func 29) #[] #[],.func (.func 30) #[] #[],.func (.func 31) #[] #[],.func (.func 32) #[] #[],.func (.func 33) #[] #[],.func (.func 34) #[] #[]] 76))) (HP : Hid (∀ w,Below W.heap.size W w → Calls Tryz.prog 28 #[.agg #[.int .i64 hosts,.slice pA pl pc,.int .i64 major,.slice wA wl wk,.slice vA vl vc,.slice qA ql qc]] w fun e w' => e = .returned (.tuple #[.int .i64 at_,.int .i64 er]) ∧ Below w.heap.size w w')) {u0 u2 u3 u6 u7 u8 u9 aa ac ae af ag ah ai aj ak am ao ap aq ar au av aw ax : Value} {Q : Exit → Act → World → Prop} (HPN : ∀ (p : List PanicEntry) (a : Act) (dd : Nat) (vv : Value) (w : World),Q (.panic p) (a.put (some dd) vv) w → Q (.panic p) a w) (hQ : ∀ (wc : World),Below W.heap.size W wc → ∀ x14 x15 x16 x17 x18 x13 x19 x20 : Value,Q .normal ⟨#[u0,(.pointer (some ⟨cb,0,none⟩)),u2,u3,(.pointer (some ⟨ab,0,none⟩)),(.int .i64 1),(.int .i64 at_),(.int .i64 er),u8,u9,aa,ac,ae,x13,x14,x15,x16,x17,x18,x19,x20,ap,aq,ar,au,av,aw,ax],[]⟩ wc) :
    Code.wp Tryz.prog (Code.region 5 #[⟨some 14,.move (.tmp 5),3,"check.go:37",#[],none⟩,⟨some 15,.indexAddr 76 (.tmp 4) (.tmp 14),0,"check.go:37",#[⟨0,.data⟩],none⟩,⟨some 16,.load 75 (.tmp 15),75,"check.go:37",#[⟨1,.data⟩],none⟩,⟨some 17,.load 28 (.tmp 1),28,"check.go:37",#[],none⟩,⟨some 18,.call ⟨.value (.tmp 16),#[.tmp 17],#[28]⟩,77,"check.go:37",#[⟨2,.data⟩,⟨3,.data⟩],none⟩,⟨some 13,.move (.tmp 18),77,"check.go:37",#[⟨4,.data⟩],none⟩,⟨some 19,.extract (.tmp 13) 0,3,"check.go:37",#[⟨5,.data⟩],none⟩,⟨some 20,.extract (.tmp 13) 1,29,"check.go:37",#[⟨5,.data⟩,⟨8,.gcOnly .lateStores⟩],none⟩,⟨some 6,.assign (.tmp 19),3,"check.go:37",#[⟨6,.data⟩,⟨4,.chain⟩,⟨0,.phase⟩,⟨1,.phase⟩,⟨2,.phase⟩,⟨3,.phase⟩,⟨4,.phase⟩,⟨5,.phase⟩,⟨6,.phase⟩,⟨7,.textOnly .lateStores⟩],none⟩,⟨some 7,.assign (.tmp 20),29,"check.go:37",#[⟨7,.data⟩,⟨8,.chain⟩,⟨0,.phase⟩,⟨1,.phase⟩,⟨2,.phase⟩,⟨3,.phase⟩,⟨4,.phase⟩,⟨5,.phase⟩,⟨6,.phase⟩,⟨7,.phase⟩,⟨8,.phase⟩],none⟩] true) Q ⟨#[u0,(.pointer (some ⟨cb,0,none⟩)),u2,u3,(.pointer (some ⟨ab,0,none⟩)),(.int .i64 1),u6,u7,u8,u9,aa,ac,ae,af,ag,ah,ai,aj,ak,am,ao,ap,aq,ar,au,av,aw,ax],[]⟩ W := by
  refine wp_region_held_drew (S := fun w' => Below W.heap.size W w') (by kernel_rfl) ?_ (fun hHeld => ?_)
  · exact (Below.refl _ W).drew
  refine tN 0 ?_ rfl (by kernel_rfl) rfl (by intro w;go_simp<;>with_reducible rfl) HPN hHeld
  try simp only [Act.put,yA,yB,yC]
  refine tN 1 ?_ rfl (by kernel_rfl) rfl (by intro w;go_simp<;>with_reducible rfl) HPN hHeld
  try simp only [Act.put,yA,yB,yC]
  refine tY 2 ?_ rfl (by kernel_rfl) rfl (by intro w hSw;(try dsimp only at hSw);obtain ⟨x0,x1,x2,x3,x4,x5,x6,x7⟩ := cells_8 (lies_below HA.out hSw (lies_lt HA.out));clear hSw;go_simp<;>with_reducible rfl) HPN hHeld
  try simp only [Act.put,yA,yB,yC]
  refine tY 3 ?_ rfl (by kernel_rfl) rfl (by intro w hSw;(try dsimp only at hSw);obtain ⟨c0,c1,c2,c3,c4,c5⟩ := cells_6 (lies_below HC.out hSw (lies_lt HC.out));clear hSw;go_simp<;>with_reducible rfl) HPN hHeld
  try simp only [Act.put,yA,yB,yC]
  refine rY 4 [] ?_ (by kernel_rfl)
  refine rC rfl (fun K hK => ?_) AllReadyH.nil
  go_simp
  (go_at_call 28;(with_reducible refine (HP.out _ ((Below.refl _ W).drew)).mono ?_);rintro e Va ⟨rfl,hb⟩;go_wp2_with fail)
  have B1 : Hid (Below W.heap.size W Va) := ((Below.refl _ W).drew).trans hb
  clear hb
  refine hK.out _ _ ?_ (fun hHeld => ?_)
  · exact B1.out
  clear hK K
  try simp only [Act.put,yA,yB,yC]
  refine tN 5 ?_ rfl (by kernel_rfl) rfl (by intro w;go_simp<;>with_reducible rfl) HPN hHeld
  try simp only [Act.put,yA,yB,yC]
  refine tN 6 ?_ rfl (by kernel_rfl) rfl (by intro w;go_simp<;>with_reducible rfl) HPN hHeld
  try simp only [Act.put,yA,yB,yC]
  refine tN 7 ?_ rfl (by kernel_rfl) rfl (by intro w;go_simp<;>with_reducible rfl) HPN hHeld
  try simp only [Act.put,yA,yB,yC]
  refine tN 8 ?_ rfl (by kernel_rfl) rfl (by intro w;go_simp<;>with_reducible rfl) HPN hHeld
  try simp only [Act.put,yA,yB,yC]
  refine tN 9 ?_ rfl (by kernel_rfl) rfl (by intro w;go_simp<;>with_reducible rfl) HPN hHeld
  try simp only [Act.put,yA,yB,yC]
  refine wpAnyH_done (by kernel_rfl) ?_ _
  clear hHeld
  exact hQ _ B1.out _ _ _ _ _ _ _ _
set_option maxHeartbeats 4000000 in
theorem call_2 {W : World} {cb ab : Nat} {hosts major : Int} {pA wA vA qA : Option Addr} {pl pc wl wk vl vc ql qc : Nat} {at_ er : Int} (HC : Hid (W.heap[cb]? = some (.cells #[.int .i64 hosts,.slice pA pl pc,.int .i64 major,.slice wA wl wk,.slice vA vl vc,.slice qA ql qc] 28))) (HA : Hid (W.heap[ab]? = some (.cells #[.nilFunc,.func (.func 28) #[] #[],.func (.func 29) #[] #[],.func (.func 30) #[] #[],.func (.func 31) #[] #[],.func (.func 32) #[] #[],.func (.func 33) #[] #[],.func (.func 34) #[] #[]] 76))) (HP : Hid (∀ w,Below W.heap.size W w → Calls Tryz.prog 29 #[.agg #[.int .i64 hosts,.slice pA pl pc,.int .i64 major,.slice wA wl wk,.slice vA vl vc,.slice qA ql qc]] w fun e w' => e = .returned (.tuple #[.int .i64 at_,.int .i64 er]) ∧ Below w.heap.size w w')) {u0 u2 u3 u6 u7 u8 u9 aa ac ae af ag ah ai aj ak am ao ap aq ar au av aw ax : Value} {Q : Exit → Act → World → Prop} (HPN : ∀ (p : List PanicEntry) (a : Act) (dd : Nat) (vv : Value) (w : World),Q (.panic p) (a.put (some dd) vv) w → Q (.panic p) a w) (hQ : ∀ (wc : World),Below W.heap.size W wc → ∀ x14 x15 x16 x17 x18 x13 x19 x20 : Value,Q .normal ⟨#[u0,(.pointer (some ⟨cb,0,none⟩)),u2,u3,(.pointer (some ⟨ab,0,none⟩)),(.int .i64 2),(.int .i64 at_),(.int .i64 er),u8,u9,aa,ac,ae,x13,x14,x15,x16,x17,x18,x19,x20,ap,aq,ar,au,av,aw,ax],[]⟩ wc) :
    Code.wp Tryz.prog (Code.region 5 #[⟨some 14,.move (.tmp 5),3,"check.go:37",#[],none⟩,⟨some 15,.indexAddr 76 (.tmp 4) (.tmp 14),0,"check.go:37",#[⟨0,.data⟩],none⟩,⟨some 16,.load 75 (.tmp 15),75,"check.go:37",#[⟨1,.data⟩],none⟩,⟨some 17,.load 28 (.tmp 1),28,"check.go:37",#[],none⟩,⟨some 18,.call ⟨.value (.tmp 16),#[.tmp 17],#[28]⟩,77,"check.go:37",#[⟨2,.data⟩,⟨3,.data⟩],none⟩,⟨some 13,.move (.tmp 18),77,"check.go:37",#[⟨4,.data⟩],none⟩,⟨some 19,.extract (.tmp 13) 0,3,"check.go:37",#[⟨5,.data⟩],none⟩,⟨some 20,.extract (.tmp 13) 1,29,"check.go:37",#[⟨5,.data⟩,⟨8,.gcOnly .lateStores⟩],none⟩,⟨some 6,.assign (.tmp 19),3,"check.go:37",#[⟨6,.data⟩,⟨4,.chain⟩,⟨0,.phase⟩,⟨1,.phase⟩,⟨2,.phase⟩,⟨3,.phase⟩,⟨4,.phase⟩,⟨5,.phase⟩,⟨6,.phase⟩,⟨7,.textOnly .lateStores⟩],none⟩,⟨some 7,.assign (.tmp 20),29,"check.go:37",#[⟨7,.data⟩,⟨8,.chain⟩,⟨0,.phase⟩,⟨1,.phase⟩,⟨2,.phase⟩,⟨3,.phase⟩,⟨4,.phase⟩,⟨5,.phase⟩,⟨6,.phase⟩,⟨7,.phase⟩,⟨8,.phase⟩],none⟩] true) Q ⟨#[u0,(.pointer (some ⟨cb,0,none⟩)),u2,u3,(.pointer (some ⟨ab,0,none⟩)),(.int .i64 2),u6,u7,u8,u9,aa,ac,ae,af,ag,ah,ai,aj,ak,am,ao,ap,aq,ar,au,av,aw,ax],[]⟩ W := by
  refine wp_region_held_drew (S := fun w' => Below W.heap.size W w') (by kernel_rfl) ?_ (fun hHeld => ?_)
  · exact (Below.refl _ W).drew
  refine tN 0 ?_ rfl (by kernel_rfl) rfl (by intro w;go_simp<;>with_reducible rfl) HPN hHeld
  try simp only [Act.put,yA,yB,yC]
  refine tN 1 ?_ rfl (by kernel_rfl) rfl (by intro w;go_simp<;>with_reducible rfl) HPN hHeld
  try simp only [Act.put,yA,yB,yC]
  refine tY 2 ?_ rfl (by kernel_rfl) rfl (by intro w hSw;(try dsimp only at hSw);obtain ⟨x0,x1,x2,x3,x4,x5,x6,x7⟩ := cells_8 (lies_below HA.out hSw (lies_lt HA.out));clear hSw;go_simp<;>with_reducible rfl) HPN hHeld
  try simp only [Act.put,yA,yB,yC]
  refine tY 3 ?_ rfl (by kernel_rfl) rfl (by intro w hSw;(try dsimp only at hSw);obtain ⟨c0,c1,c2,c3,c4,c5⟩ := cells_6 (lies_below HC.out hSw (lies_lt HC.out));clear hSw;go_simp<;>with_reducible rfl) HPN hHeld
  try simp only [Act.put,yA,yB,yC]
  refine rY 4 [] ?_ (by kernel_rfl)
  refine rC rfl (fun K hK => ?_) AllReadyH.nil
  go_simp
  (go_at_call 29;(with_reducible refine (HP.out _ ((Below.refl _ W).drew)).mono ?_);rintro e Va ⟨rfl,hb⟩;go_wp2_with fail)
  have B1 : Hid (Below W.heap.size W Va) := ((Below.refl _ W).drew).trans hb
  clear hb
  refine hK.out _ _ ?_ (fun hHeld => ?_)
  · exact B1.out
  clear hK K
  try simp only [Act.put,yA,yB,yC]
  refine tN 5 ?_ rfl (by kernel_rfl) rfl (by intro w;go_simp<;>with_reducible rfl) HPN hHeld
  try simp only [Act.put,yA,yB,yC]
  refine tN 6 ?_ rfl (by kernel_rfl) rfl (by intro w;go_simp<;>with_reducible rfl) HPN hHeld
  try simp only [Act.put,yA,yB,yC]
  refine tN 7 ?_ rfl (by kernel_rfl) rfl (by intro w;go_simp<;>with_reducible rfl) HPN hHeld
  try simp only [Act.put,yA,yB,yC]
  refine tN 8 ?_ rfl (by kernel_rfl) rfl (by intro w;go_simp<;>with_reducible rfl) HPN hHeld
  try simp only [Act.put,yA,yB,yC]
  refine tN 9 ?_ rfl (by kernel_rfl) rfl (by intro w;go_simp<;>with_reducible rfl) HPN hHeld
  try simp only [Act.put,yA,yB,yC]
  refine wpAnyH_done (by kernel_rfl) ?_ _
  clear hHeld
  exact hQ _ B1.out _ _ _ _ _ _ _ _
set_option maxHeartbeats 4000000 in
theorem call_3 {W : World} {cb ab : Nat} {hosts major : Int} {pA wA vA qA : Option Addr} {pl pc wl wk vl vc ql qc : Nat} {at_ er : Int} (HC : Hid (W.heap[cb]? = some (.cells #[.int .i64 hosts,.slice pA pl pc,.int .i64 major,.slice wA wl wk,.slice vA vl vc,.slice qA ql qc] 28))) (HA : Hid (W.heap[ab]? = some (.cells #[.nilFunc,.func (.func 28) #[] #[],.func (.func 29) #[] #[],.func (.func 30) #[] #[],.func (.func 31) #[] #[],.func (.func 32) #[] #[],.func (.func 33) #[] #[],.func (.func 34) #[] #[]] 76))) (HP : Hid (∀ w,Below W.heap.size W w → Calls Tryz.prog 30 #[.agg #[.int .i64 hosts,.slice pA pl pc,.int .i64 major,.slice wA wl wk,.slice vA vl vc,.slice qA ql qc]] w fun e w' => e = .returned (.tuple #[.int .i64 at_,.int .i64 er]) ∧ Below w.heap.size w w')) {u0 u2 u3 u6 u7 u8 u9 aa ac ae af ag ah ai aj ak am ao ap aq ar au av aw ax : Value} {Q : Exit → Act → World → Prop} (HPN : ∀ (p : List PanicEntry) (a : Act) (dd : Nat) (vv : Value) (w : World),Q (.panic p) (a.put (some dd) vv) w → Q (.panic p) a w) (hQ : ∀ (wc : World),Below W.heap.size W wc → ∀ x14 x15 x16 x17 x18 x13 x19 x20 : Value,Q .normal ⟨#[u0,(.pointer (some ⟨cb,0,none⟩)),u2,u3,(.pointer (some ⟨ab,0,none⟩)),(.int .i64 3),(.int .i64 at_),(.int .i64 er),u8,u9,aa,ac,ae,x13,x14,x15,x16,x17,x18,x19,x20,ap,aq,ar,au,av,aw,ax],[]⟩ wc) :
    Code.wp Tryz.prog (Code.region 5 #[⟨some 14,.move (.tmp 5),3,"check.go:37",#[],none⟩,⟨some 15,.indexAddr 76 (.tmp 4) (.tmp 14),0,"check.go:37",#[⟨0,.data⟩],none⟩,⟨some 16,.load 75 (.tmp 15),75,"check.go:37",#[⟨1,.data⟩],none⟩,⟨some 17,.load 28 (.tmp 1),28,"check.go:37",#[],none⟩,⟨some 18,.call ⟨.value (.tmp 16),#[.tmp 17],#[28]⟩,77,"check.go:37",#[⟨2,.data⟩,⟨3,.data⟩],none⟩,⟨some 13,.move (.tmp 18),77,"check.go:37",#[⟨4,.data⟩],none⟩,⟨some 19,.extract (.tmp 13) 0,3,"check.go:37",#[⟨5,.data⟩],none⟩,⟨some 20,.extract (.tmp 13) 1,29,"check.go:37",#[⟨5,.data⟩,⟨8,.gcOnly .lateStores⟩],none⟩,⟨some 6,.assign (.tmp 19),3,"check.go:37",#[⟨6,.data⟩,⟨4,.chain⟩,⟨0,.phase⟩,⟨1,.phase⟩,⟨2,.phase⟩,⟨3,.phase⟩,⟨4,.phase⟩,⟨5,.phase⟩,⟨6,.phase⟩,⟨7,.textOnly .lateStores⟩],none⟩,⟨some 7,.assign (.tmp 20),29,"check.go:37",#[⟨7,.data⟩,⟨8,.chain⟩,⟨0,.phase⟩,⟨1,.phase⟩,⟨2,.phase⟩,⟨3,.phase⟩,⟨4,.phase⟩,⟨5,.phase⟩,⟨6,.phase⟩,⟨7,.phase⟩,⟨8,.phase⟩],none⟩] true) Q ⟨#[u0,(.pointer (some ⟨cb,0,none⟩)),u2,u3,(.pointer (some ⟨ab,0,none⟩)),(.int .i64 3),u6,u7,u8,u9,aa,ac,ae,af,ag,ah,ai,aj,ak,am,ao,ap,aq,ar,au,av,aw,ax],[]⟩ W := by
  refine wp_region_held_drew (S := fun w' => Below W.heap.size W w') (by kernel_rfl) ?_ (fun hHeld => ?_)
  · exact (Below.refl _ W).drew
  refine tN 0 ?_ rfl (by kernel_rfl) rfl (by intro w;go_simp<;>with_reducible rfl) HPN hHeld
  try simp only [Act.put,yA,yB,yC]
  refine tN 1 ?_ rfl (by kernel_rfl) rfl (by intro w;go_simp<;>with_reducible rfl) HPN hHeld
  try simp only [Act.put,yA,yB,yC]
  refine tY 2 ?_ rfl (by kernel_rfl) rfl (by intro w hSw;(try dsimp only at hSw);obtain ⟨x0,x1,x2,x3,x4,x5,x6,x7⟩ := cells_8 (lies_below HA.out hSw (lies_lt HA.out));clear hSw;go_simp<;>with_reducible rfl) HPN hHeld
  try simp only [Act.put,yA,yB,yC]
  refine tY 3 ?_ rfl (by kernel_rfl) rfl (by intro w hSw;(try dsimp only at hSw);obtain ⟨c0,c1,c2,c3,c4,c5⟩ := cells_6 (lies_below HC.out hSw (lies_lt HC.out));clear hSw;go_simp<;>with_reducible rfl) HPN hHeld
  try simp only [Act.put,yA,yB,yC]
  refine rY 4 [] ?_ (by kernel_rfl)
  refine rC rfl (fun K hK => ?_) AllReadyH.nil
  go_simp
  (go_at_call 30;(with_reducible refine (HP.out _ ((Below.refl _ W).drew)).mono ?_);rintro e Va ⟨rfl,hb⟩;go_wp2_with fail)
  have B1 : Hid (Below W.heap.size W Va) := ((Below.refl _ W).drew).trans hb
  clear hb
  refine hK.out _ _ ?_ (fun hHeld => ?_)
  · exact B1.out
  clear hK K
  try simp only [Act.put,yA,yB,yC]
  refine tN 5 ?_ rfl (by kernel_rfl) rfl (by intro w;go_simp<;>with_reducible rfl) HPN hHeld
  try simp only [Act.put,yA,yB,yC]
  refine tN 6 ?_ rfl (by kernel_rfl) rfl (by intro w;go_simp<;>with_reducible rfl) HPN hHeld
  try simp only [Act.put,yA,yB,yC]
  refine tN 7 ?_ rfl (by kernel_rfl) rfl (by intro w;go_simp<;>with_reducible rfl) HPN hHeld
  try simp only [Act.put,yA,yB,yC]
  refine tN 8 ?_ rfl (by kernel_rfl) rfl (by intro w;go_simp<;>with_reducible rfl) HPN hHeld
  try simp only [Act.put,yA,yB,yC]
  refine tN 9 ?_ rfl (by kernel_rfl) rfl (by intro w;go_simp<;>with_reducible rfl) HPN hHeld
  try simp only [Act.put,yA,yB,yC]
  refine wpAnyH_done (by kernel_rfl) ?_ _
  clear hHeld
  exact hQ _ B1.out _ _ _ _ _ _ _ _
set_option maxHeartbeats 4000000 in
theorem call_4 {W : World} {cb ab : Nat} {hosts major : Int} {pA wA vA qA : Option Addr} {pl pc wl wk vl vc ql qc : Nat} {at_ er : Int} (HC : Hid (W.heap[cb]? = some (.cells #[.int .i64 hosts,.slice pA pl pc,.int .i64 major,.slice wA wl wk,.slice vA vl vc,.slice qA ql qc] 28))) (HA : Hid (W.heap[ab]? = some (.cells #[.nilFunc,.func (.func 28) #[] #[],.func (.func 29) #[] #[],.func (.func 30) #[] #[],.func (.func 31) #[] #[],.func (.func 32) #[] #[],.func (.func 33) #[] #[],.func (.func 34) #[] #[]] 76))) (HP : Hid (∀ w,Below W.heap.size W w → Calls Tryz.prog 31 #[.agg #[.int .i64 hosts,.slice pA pl pc,.int .i64 major,.slice wA wl wk,.slice vA vl vc,.slice qA ql qc]] w fun e w' => e = .returned (.tuple #[.int .i64 at_,.int .i64 er]) ∧ Below w.heap.size w w')) {u0 u2 u3 u6 u7 u8 u9 aa ac ae af ag ah ai aj ak am ao ap aq ar au av aw ax : Value} {Q : Exit → Act → World → Prop} (HPN : ∀ (p : List PanicEntry) (a : Act) (dd : Nat) (vv : Value) (w : World),Q (.panic p) (a.put (some dd) vv) w → Q (.panic p) a w) (hQ : ∀ (wc : World),Below W.heap.size W wc → ∀ x14 x15 x16 x17 x18 x13 x19 x20 : Value,Q .normal ⟨#[u0,(.pointer (some ⟨cb,0,none⟩)),u2,u3,(.pointer (some ⟨ab,0,none⟩)),(.int .i64 4),(.int .i64 at_),(.int .i64 er),u8,u9,aa,ac,ae,x13,x14,x15,x16,x17,x18,x19,x20,ap,aq,ar,au,av,aw,ax],[]⟩ wc) :
    Code.wp Tryz.prog (Code.region 5 #[⟨some 14,.move (.tmp 5),3,"check.go:37",#[],none⟩,⟨some 15,.indexAddr 76 (.tmp 4) (.tmp 14),0,"check.go:37",#[⟨0,.data⟩],none⟩,⟨some 16,.load 75 (.tmp 15),75,"check.go:37",#[⟨1,.data⟩],none⟩,⟨some 17,.load 28 (.tmp 1),28,"check.go:37",#[],none⟩,⟨some 18,.call ⟨.value (.tmp 16),#[.tmp 17],#[28]⟩,77,"check.go:37",#[⟨2,.data⟩,⟨3,.data⟩],none⟩,⟨some 13,.move (.tmp 18),77,"check.go:37",#[⟨4,.data⟩],none⟩,⟨some 19,.extract (.tmp 13) 0,3,"check.go:37",#[⟨5,.data⟩],none⟩,⟨some 20,.extract (.tmp 13) 1,29,"check.go:37",#[⟨5,.data⟩,⟨8,.gcOnly .lateStores⟩],none⟩,⟨some 6,.assign (.tmp 19),3,"check.go:37",#[⟨6,.data⟩,⟨4,.chain⟩,⟨0,.phase⟩,⟨1,.phase⟩,⟨2,.phase⟩,⟨3,.phase⟩,⟨4,.phase⟩,⟨5,.phase⟩,⟨6,.phase⟩,⟨7,.textOnly .lateStores⟩],none⟩,⟨some 7,.assign (.tmp 20),29,"check.go:37",#[⟨7,.data⟩,⟨8,.chain⟩,⟨0,.phase⟩,⟨1,.phase⟩,⟨2,.phase⟩,⟨3,.phase⟩,⟨4,.phase⟩,⟨5,.phase⟩,⟨6,.phase⟩,⟨7,.phase⟩,⟨8,.phase⟩],none⟩] true) Q ⟨#[u0,(.pointer (some ⟨cb,0,none⟩)),u2,u3,(.pointer (some ⟨ab,0,none⟩)),(.int .i64 4),u6,u7,u8,u9,aa,ac,ae,af,ag,ah,ai,aj,ak,am,ao,ap,aq,ar,au,av,aw,ax],[]⟩ W := by
  refine wp_region_held_drew (S := fun w' => Below W.heap.size W w') (by kernel_rfl) ?_ (fun hHeld => ?_)
  · exact (Below.refl _ W).drew
  refine tN 0 ?_ rfl (by kernel_rfl) rfl (by intro w;go_simp<;>with_reducible rfl) HPN hHeld
  try simp only [Act.put,yA,yB,yC]
  refine tN 1 ?_ rfl (by kernel_rfl) rfl (by intro w;go_simp<;>with_reducible rfl) HPN hHeld
  try simp only [Act.put,yA,yB,yC]
  refine tY 2 ?_ rfl (by kernel_rfl) rfl (by intro w hSw;(try dsimp only at hSw);obtain ⟨x0,x1,x2,x3,x4,x5,x6,x7⟩ := cells_8 (lies_below HA.out hSw (lies_lt HA.out));clear hSw;go_simp<;>with_reducible rfl) HPN hHeld
  try simp only [Act.put,yA,yB,yC]
  refine tY 3 ?_ rfl (by kernel_rfl) rfl (by intro w hSw;(try dsimp only at hSw);obtain ⟨c0,c1,c2,c3,c4,c5⟩ := cells_6 (lies_below HC.out hSw (lies_lt HC.out));clear hSw;go_simp<;>with_reducible rfl) HPN hHeld
  try simp only [Act.put,yA,yB,yC]
  refine rY 4 [] ?_ (by kernel_rfl)
  refine rC rfl (fun K hK => ?_) AllReadyH.nil
  go_simp
  (go_at_call 31;(with_reducible refine (HP.out _ ((Below.refl _ W).drew)).mono ?_);rintro e Va ⟨rfl,hb⟩;go_wp2_with fail)
  have B1 : Hid (Below W.heap.size W Va) := ((Below.refl _ W).drew).trans hb
  clear hb
  refine hK.out _ _ ?_ (fun hHeld => ?_)
  · exact B1.out
  clear hK K
  try simp only [Act.put,yA,yB,yC]
  refine tN 5 ?_ rfl (by kernel_rfl) rfl (by intro w;go_simp<;>with_reducible rfl) HPN hHeld
  try simp only [Act.put,yA,yB,yC]
  refine tN 6 ?_ rfl (by kernel_rfl) rfl (by intro w;go_simp<;>with_reducible rfl) HPN hHeld
  try simp only [Act.put,yA,yB,yC]
  refine tN 7 ?_ rfl (by kernel_rfl) rfl (by intro w;go_simp<;>with_reducible rfl) HPN hHeld
  try simp only [Act.put,yA,yB,yC]
  refine tN 8 ?_ rfl (by kernel_rfl) rfl (by intro w;go_simp<;>with_reducible rfl) HPN hHeld
  try simp only [Act.put,yA,yB,yC]
  refine tN 9 ?_ rfl (by kernel_rfl) rfl (by intro w;go_simp<;>with_reducible rfl) HPN hHeld
  try simp only [Act.put,yA,yB,yC]
  refine wpAnyH_done (by kernel_rfl) ?_ _
  clear hHeld
  exact hQ _ B1.out _ _ _ _ _ _ _ _
set_option maxHeartbeats 4000000 in
theorem call_5 {W : World} {cb ab : Nat} {hosts major : Int} {pA wA vA qA : Option Addr} {pl pc wl wk vl vc ql qc : Nat} {at_ er : Int} (HC : Hid (W.heap[cb]? = some (.cells #[.int .i64 hosts,.slice pA pl pc,.int .i64 major,.slice wA wl wk,.slice vA vl vc,.slice qA ql qc] 28))) (HA : Hid (W.heap[ab]? = some (.cells #[.nilFunc,.func (.func 28) #[] #[],.func (.func 29) #[] #[],.func (.func 30) #[] #[],.func (.func 31) #[] #[],.func (.func 32) #[] #[],.func (.func 33) #[] #[],.func (.func 34) #[] #[]] 76))) (HP : Hid (∀ w,Below W.heap.size W w → Calls Tryz.prog 32 #[.agg #[.int .i64 hosts,.slice pA pl pc,.int .i64 major,.slice wA wl wk,.slice vA vl vc,.slice qA ql qc]] w fun e w' => e = .returned (.tuple #[.int .i64 at_,.int .i64 er]) ∧ Below w.heap.size w w')) {u0 u2 u3 u6 u7 u8 u9 aa ac ae af ag ah ai aj ak am ao ap aq ar au av aw ax : Value} {Q : Exit → Act → World → Prop} (HPN : ∀ (p : List PanicEntry) (a : Act) (dd : Nat) (vv : Value) (w : World),Q (.panic p) (a.put (some dd) vv) w → Q (.panic p) a w) (hQ : ∀ (wc : World),Below W.heap.size W wc → ∀ x14 x15 x16 x17 x18 x13 x19 x20 : Value,Q .normal ⟨#[u0,(.pointer (some ⟨cb,0,none⟩)),u2,u3,(.pointer (some ⟨ab,0,none⟩)),(.int .i64 5),(.int .i64 at_),(.int .i64 er),u8,u9,aa,ac,ae,x13,x14,x15,x16,x17,x18,x19,x20,ap,aq,ar,au,av,aw,ax],[]⟩ wc) :
    Code.wp Tryz.prog (Code.region 5 #[⟨some 14,.move (.tmp 5),3,"check.go:37",#[],none⟩,⟨some 15,.indexAddr 76 (.tmp 4) (.tmp 14),0,"check.go:37",#[⟨0,.data⟩],none⟩,⟨some 16,.load 75 (.tmp 15),75,"check.go:37",#[⟨1,.data⟩],none⟩,⟨some 17,.load 28 (.tmp 1),28,"check.go:37",#[],none⟩,⟨some 18,.call ⟨.value (.tmp 16),#[.tmp 17],#[28]⟩,77,"check.go:37",#[⟨2,.data⟩,⟨3,.data⟩],none⟩,⟨some 13,.move (.tmp 18),77,"check.go:37",#[⟨4,.data⟩],none⟩,⟨some 19,.extract (.tmp 13) 0,3,"check.go:37",#[⟨5,.data⟩],none⟩,⟨some 20,.extract (.tmp 13) 1,29,"check.go:37",#[⟨5,.data⟩,⟨8,.gcOnly .lateStores⟩],none⟩,⟨some 6,.assign (.tmp 19),3,"check.go:37",#[⟨6,.data⟩,⟨4,.chain⟩,⟨0,.phase⟩,⟨1,.phase⟩,⟨2,.phase⟩,⟨3,.phase⟩,⟨4,.phase⟩,⟨5,.phase⟩,⟨6,.phase⟩,⟨7,.textOnly .lateStores⟩],none⟩,⟨some 7,.assign (.tmp 20),29,"check.go:37",#[⟨7,.data⟩,⟨8,.chain⟩,⟨0,.phase⟩,⟨1,.phase⟩,⟨2,.phase⟩,⟨3,.phase⟩,⟨4,.phase⟩,⟨5,.phase⟩,⟨6,.phase⟩,⟨7,.phase⟩,⟨8,.phase⟩],none⟩] true) Q ⟨#[u0,(.pointer (some ⟨cb,0,none⟩)),u2,u3,(.pointer (some ⟨ab,0,none⟩)),(.int .i64 5),u6,u7,u8,u9,aa,ac,ae,af,ag,ah,ai,aj,ak,am,ao,ap,aq,ar,au,av,aw,ax],[]⟩ W := by
  refine wp_region_held_drew (S := fun w' => Below W.heap.size W w') (by kernel_rfl) ?_ (fun hHeld => ?_)
  · exact (Below.refl _ W).drew
  refine tN 0 ?_ rfl (by kernel_rfl) rfl (by intro w;go_simp<;>with_reducible rfl) HPN hHeld
  try simp only [Act.put,yA,yB,yC]
  refine tN 1 ?_ rfl (by kernel_rfl) rfl (by intro w;go_simp<;>with_reducible rfl) HPN hHeld
  try simp only [Act.put,yA,yB,yC]
  refine tY 2 ?_ rfl (by kernel_rfl) rfl (by intro w hSw;(try dsimp only at hSw);obtain ⟨x0,x1,x2,x3,x4,x5,x6,x7⟩ := cells_8 (lies_below HA.out hSw (lies_lt HA.out));clear hSw;go_simp<;>with_reducible rfl) HPN hHeld
  try simp only [Act.put,yA,yB,yC]
  refine tY 3 ?_ rfl (by kernel_rfl) rfl (by intro w hSw;(try dsimp only at hSw);obtain ⟨c0,c1,c2,c3,c4,c5⟩ := cells_6 (lies_below HC.out hSw (lies_lt HC.out));clear hSw;go_simp<;>with_reducible rfl) HPN hHeld
  try simp only [Act.put,yA,yB,yC]
  refine rY 4 [] ?_ (by kernel_rfl)
  refine rC rfl (fun K hK => ?_) AllReadyH.nil
  go_simp
  (go_at_call 32;(with_reducible refine (HP.out _ ((Below.refl _ W).drew)).mono ?_);rintro e Va ⟨rfl,hb⟩;go_wp2_with fail)
  have B1 : Hid (Below W.heap.size W Va) := ((Below.refl _ W).drew).trans hb
  clear hb
  refine hK.out _ _ ?_ (fun hHeld => ?_)
  · exact B1.out
  clear hK K
  try simp only [Act.put,yA,yB,yC]
  refine tN 5 ?_ rfl (by kernel_rfl) rfl (by intro w;go_simp<;>with_reducible rfl) HPN hHeld
  try simp only [Act.put,yA,yB,yC]
  refine tN 6 ?_ rfl (by kernel_rfl) rfl (by intro w;go_simp<;>with_reducible rfl) HPN hHeld
  try simp only [Act.put,yA,yB,yC]
  refine tN 7 ?_ rfl (by kernel_rfl) rfl (by intro w;go_simp<;>with_reducible rfl) HPN hHeld
  try simp only [Act.put,yA,yB,yC]
  refine tN 8 ?_ rfl (by kernel_rfl) rfl (by intro w;go_simp<;>with_reducible rfl) HPN hHeld
  try simp only [Act.put,yA,yB,yC]
  refine tN 9 ?_ rfl (by kernel_rfl) rfl (by intro w;go_simp<;>with_reducible rfl) HPN hHeld
  try simp only [Act.put,yA,yB,yC]
  refine wpAnyH_done (by kernel_rfl) ?_ _
  clear hHeld
  exact hQ _ B1.out _ _ _ _ _ _ _ _
set_option maxHeartbeats 4000000 in
theorem call_6 {W : World} {cb ab : Nat} {hosts major : Int} {pA wA vA qA : Option Addr} {pl pc wl wk vl vc ql qc : Nat} {at_ er : Int} (HC : Hid (W.heap[cb]? = some (.cells #[.int .i64 hosts,.slice pA pl pc,.int .i64 major,.slice wA wl wk,.slice vA vl vc,.slice qA ql qc] 28))) (HA : Hid (W.heap[ab]? = some (.cells #[.nilFunc,.func (.func 28) #[] #[],.func (.func 29) #[] #[],.func (.func 30) #[] #[],.func (.func 31) #[] #[],.func (.func 32) #[] #[],.func (.func 33) #[] #[],.func (.func 34) #[] #[]] 76))) (HP : Hid (∀ w,Below W.heap.size W w → Calls Tryz.prog 33 #[.agg #[.int .i64 hosts,.slice pA pl pc,.int .i64 major,.slice wA wl wk,.slice vA vl vc,.slice qA ql qc]] w fun e w' => e = .returned (.tuple #[.int .i64 at_,.int .i64 er]) ∧ Below w.heap.size w w')) {u0 u2 u3 u6 u7 u8 u9 aa ac ae af ag ah ai aj ak am ao ap aq ar au av aw ax : Value} {Q : Exit → Act → World → Prop} (HPN : ∀ (p : List PanicEntry) (a : Act) (dd : Nat) (vv : Value) (w : World),Q (.panic p) (a.put (some dd) vv) w → Q (.panic p) a w) (hQ : ∀ (wc : World),Below W.heap.size W wc → ∀ x14 x15 x16 x17 x18 x13 x19 x20 : Value,Q .normal ⟨#[u0,(.pointer (some ⟨cb,0,none⟩)),u2,u3,(.pointer (some ⟨ab,0,none⟩)),(.int .i64 6),(.int .i64 at_),(.int .i64 er),u8,u9,aa,ac,ae,x13,x14,x15,x16,x17,x18,x19,x20,ap,aq,ar,au,av,aw,ax],[]⟩ wc) :
    Code.wp Tryz.prog (Code.region 5 #[⟨some 14,.move (.tmp 5),3,"check.go:37",#[],none⟩,⟨some 15,.indexAddr 76 (.tmp 4) (.tmp 14),0,"check.go:37",#[⟨0,.data⟩],none⟩,⟨some 16,.load 75 (.tmp 15),75,"check.go:37",#[⟨1,.data⟩],none⟩,⟨some 17,.load 28 (.tmp 1),28,"check.go:37",#[],none⟩,⟨some 18,.call ⟨.value (.tmp 16),#[.tmp 17],#[28]⟩,77,"check.go:37",#[⟨2,.data⟩,⟨3,.data⟩],none⟩,⟨some 13,.move (.tmp 18),77,"check.go:37",#[⟨4,.data⟩],none⟩,⟨some 19,.extract (.tmp 13) 0,3,"check.go:37",#[⟨5,.data⟩],none⟩,⟨some 20,.extract (.tmp 13) 1,29,"check.go:37",#[⟨5,.data⟩,⟨8,.gcOnly .lateStores⟩],none⟩,⟨some 6,.assign (.tmp 19),3,"check.go:37",#[⟨6,.data⟩,⟨4,.chain⟩,⟨0,.phase⟩,⟨1,.phase⟩,⟨2,.phase⟩,⟨3,.phase⟩,⟨4,.phase⟩,⟨5,.phase⟩,⟨6,.phase⟩,⟨7,.textOnly .lateStores⟩],none⟩,⟨some 7,.assign (.tmp 20),29,"check.go:37",#[⟨7,.data⟩,⟨8,.chain⟩,⟨0,.phase⟩,⟨1,.phase⟩,⟨2,.phase⟩,⟨3,.phase⟩,⟨4,.phase⟩,⟨5,.phase⟩,⟨6,.phase⟩,⟨7,.phase⟩,⟨8,.phase⟩],none⟩] true) Q ⟨#[u0,(.pointer (some ⟨cb,0,none⟩)),u2,u3,(.pointer (some ⟨ab,0,none⟩)),(.int .i64 6),u6,u7,u8,u9,aa,ac,ae,af,ag,ah,ai,aj,ak,am,ao,ap,aq,ar,au,av,aw,ax],[]⟩ W := by
  refine wp_region_held_drew (S := fun w' => Below W.heap.size W w') (by kernel_rfl) ?_ (fun hHeld => ?_)
  · exact (Below.refl _ W).drew
  refine tN 0 ?_ rfl (by kernel_rfl) rfl (by intro w;go_simp<;>with_reducible rfl) HPN hHeld
  try simp only [Act.put,yA,yB,yC]
  refine tN 1 ?_ rfl (by kernel_rfl) rfl (by intro w;go_simp<;>with_reducible rfl) HPN hHeld
  try simp only [Act.put,yA,yB,yC]
  refine tY 2 ?_ rfl (by kernel_rfl) rfl (by intro w hSw;(try dsimp only at hSw);obtain ⟨x0,x1,x2,x3,x4,x5,x6,x7⟩ := cells_8 (lies_below HA.out hSw (lies_lt HA.out));clear hSw;go_simp<;>with_reducible rfl) HPN hHeld
  try simp only [Act.put,yA,yB,yC]
  refine tY 3 ?_ rfl (by kernel_rfl) rfl (by intro w hSw;(try dsimp only at hSw);obtain ⟨c0,c1,c2,c3,c4,c5⟩ := cells_6 (lies_below HC.out hSw (lies_lt HC.out));clear hSw;go_simp<;>with_reducible rfl) HPN hHeld
  try simp only [Act.put,yA,yB,yC]
  refine rY 4 [] ?_ (by kernel_rfl)
  refine rC rfl (fun K hK => ?_) AllReadyH.nil
  go_simp
  (go_at_call 33;(with_reducible refine (HP.out _ ((Below.refl _ W).drew)).mono ?_);rintro e Va ⟨rfl,hb⟩;go_wp2_with fail)
  have B1 : Hid (Below W.heap.size W Va) := ((Below.refl _ W).drew).trans hb
  clear hb
  refine hK.out _ _ ?_ (fun hHeld => ?_)
  · exact B1.out
  clear hK K
  try simp only [Act.put,yA,yB,yC]
  refine tN 5 ?_ rfl (by kernel_rfl) rfl (by intro w;go_simp<;>with_reducible rfl) HPN hHeld
  try simp only [Act.put,yA,yB,yC]
  refine tN 6 ?_ rfl (by kernel_rfl) rfl (by intro w;go_simp<;>with_reducible rfl) HPN hHeld
  try simp only [Act.put,yA,yB,yC]
  refine tN 7 ?_ rfl (by kernel_rfl) rfl (by intro w;go_simp<;>with_reducible rfl) HPN hHeld
  try simp only [Act.put,yA,yB,yC]
  refine tN 8 ?_ rfl (by kernel_rfl) rfl (by intro w;go_simp<;>with_reducible rfl) HPN hHeld
  try simp only [Act.put,yA,yB,yC]
  refine tN 9 ?_ rfl (by kernel_rfl) rfl (by intro w;go_simp<;>with_reducible rfl) HPN hHeld
  try simp only [Act.put,yA,yB,yC]
  refine wpAnyH_done (by kernel_rfl) ?_ _
  clear hHeld
  exact hQ _ B1.out _ _ _ _ _ _ _ _
set_option maxHeartbeats 4000000 in
theorem call_7 {W : World} {cb ab : Nat} {hosts major : Int} {pA wA vA qA : Option Addr} {pl pc wl wk vl vc ql qc : Nat} {at_ er : Int} (HC : Hid (W.heap[cb]? = some (.cells #[.int .i64 hosts,.slice pA pl pc,.int .i64 major,.slice wA wl wk,.slice vA vl vc,.slice qA ql qc] 28))) (HA : Hid (W.heap[ab]? = some (.cells #[.nilFunc,.func (.func 28) #[] #[],.func (.func 29) #[] #[],.func (.func 30) #[] #[],.func (.func 31) #[] #[],.func (.func 32) #[] #[],.func (.func 33) #[] #[],.func (.func 34) #[] #[]] 76))) (HP : Hid (∀ w,Below W.heap.size W w → Calls Tryz.prog 34 #[.agg #[.int .i64 hosts,.slice pA pl pc,.int .i64 major,.slice wA wl wk,.slice vA vl vc,.slice qA ql qc]] w fun e w' => e = .returned (.tuple #[.int .i64 at_,.int .i64 er]) ∧ Below w.heap.size w w')) {u0 u2 u3 u6 u7 u8 u9 aa ac ae af ag ah ai aj ak am ao ap aq ar au av aw ax : Value} {Q : Exit → Act → World → Prop} (HPN : ∀ (p : List PanicEntry) (a : Act) (dd : Nat) (vv : Value) (w : World),Q (.panic p) (a.put (some dd) vv) w → Q (.panic p) a w) (hQ : ∀ (wc : World),Below W.heap.size W wc → ∀ x14 x15 x16 x17 x18 x13 x19 x20 : Value,Q .normal ⟨#[u0,(.pointer (some ⟨cb,0,none⟩)),u2,u3,(.pointer (some ⟨ab,0,none⟩)),(.int .i64 7),(.int .i64 at_),(.int .i64 er),u8,u9,aa,ac,ae,x13,x14,x15,x16,x17,x18,x19,x20,ap,aq,ar,au,av,aw,ax],[]⟩ wc) :
    Code.wp Tryz.prog (Code.region 5 #[⟨some 14,.move (.tmp 5),3,"check.go:37",#[],none⟩,⟨some 15,.indexAddr 76 (.tmp 4) (.tmp 14),0,"check.go:37",#[⟨0,.data⟩],none⟩,⟨some 16,.load 75 (.tmp 15),75,"check.go:37",#[⟨1,.data⟩],none⟩,⟨some 17,.load 28 (.tmp 1),28,"check.go:37",#[],none⟩,⟨some 18,.call ⟨.value (.tmp 16),#[.tmp 17],#[28]⟩,77,"check.go:37",#[⟨2,.data⟩,⟨3,.data⟩],none⟩,⟨some 13,.move (.tmp 18),77,"check.go:37",#[⟨4,.data⟩],none⟩,⟨some 19,.extract (.tmp 13) 0,3,"check.go:37",#[⟨5,.data⟩],none⟩,⟨some 20,.extract (.tmp 13) 1,29,"check.go:37",#[⟨5,.data⟩,⟨8,.gcOnly .lateStores⟩],none⟩,⟨some 6,.assign (.tmp 19),3,"check.go:37",#[⟨6,.data⟩,⟨4,.chain⟩,⟨0,.phase⟩,⟨1,.phase⟩,⟨2,.phase⟩,⟨3,.phase⟩,⟨4,.phase⟩,⟨5,.phase⟩,⟨6,.phase⟩,⟨7,.textOnly .lateStores⟩],none⟩,⟨some 7,.assign (.tmp 20),29,"check.go:37",#[⟨7,.data⟩,⟨8,.chain⟩,⟨0,.phase⟩,⟨1,.phase⟩,⟨2,.phase⟩,⟨3,.phase⟩,⟨4,.phase⟩,⟨5,.phase⟩,⟨6,.phase⟩,⟨7,.phase⟩,⟨8,.phase⟩],none⟩] true) Q ⟨#[u0,(.pointer (some ⟨cb,0,none⟩)),u2,u3,(.pointer (some ⟨ab,0,none⟩)),(.int .i64 7),u6,u7,u8,u9,aa,ac,ae,af,ag,ah,ai,aj,ak,am,ao,ap,aq,ar,au,av,aw,ax],[]⟩ W := by
  refine wp_region_held_drew (S := fun w' => Below W.heap.size W w') (by kernel_rfl) ?_ (fun hHeld => ?_)
  · exact (Below.refl _ W).drew
  refine tN 0 ?_ rfl (by kernel_rfl) rfl (by intro w;go_simp<;>with_reducible rfl) HPN hHeld
  try simp only [Act.put,yA,yB,yC]
  refine tN 1 ?_ rfl (by kernel_rfl) rfl (by intro w;go_simp<;>with_reducible rfl) HPN hHeld
  try simp only [Act.put,yA,yB,yC]
  refine tY 2 ?_ rfl (by kernel_rfl) rfl (by intro w hSw;(try dsimp only at hSw);obtain ⟨x0,x1,x2,x3,x4,x5,x6,x7⟩ := cells_8 (lies_below HA.out hSw (lies_lt HA.out));clear hSw;go_simp<;>with_reducible rfl) HPN hHeld
  try simp only [Act.put,yA,yB,yC]
  refine tY 3 ?_ rfl (by kernel_rfl) rfl (by intro w hSw;(try dsimp only at hSw);obtain ⟨c0,c1,c2,c3,c4,c5⟩ := cells_6 (lies_below HC.out hSw (lies_lt HC.out));clear hSw;go_simp<;>with_reducible rfl) HPN hHeld
  try simp only [Act.put,yA,yB,yC]
  refine rY 4 [] ?_ (by kernel_rfl)
  refine rC rfl (fun K hK => ?_) AllReadyH.nil
  go_simp
  (go_at_call 34;(with_reducible refine (HP.out _ ((Below.refl _ W).drew)).mono ?_);rintro e Va ⟨rfl,hb⟩;go_wp2_with fail)
  have B1 : Hid (Below W.heap.size W Va) := ((Below.refl _ W).drew).trans hb
  clear hb
  refine hK.out _ _ ?_ (fun hHeld => ?_)
  · exact B1.out
  clear hK K
  try simp only [Act.put,yA,yB,yC]
  refine tN 5 ?_ rfl (by kernel_rfl) rfl (by intro w;go_simp<;>with_reducible rfl) HPN hHeld
  try simp only [Act.put,yA,yB,yC]
  refine tN 6 ?_ rfl (by kernel_rfl) rfl (by intro w;go_simp<;>with_reducible rfl) HPN hHeld
  try simp only [Act.put,yA,yB,yC]
  refine tN 7 ?_ rfl (by kernel_rfl) rfl (by intro w;go_simp<;>with_reducible rfl) HPN hHeld
  try simp only [Act.put,yA,yB,yC]
  refine tN 8 ?_ rfl (by kernel_rfl) rfl (by intro w;go_simp<;>with_reducible rfl) HPN hHeld
  try simp only [Act.put,yA,yB,yC]
  refine tN 9 ?_ rfl (by kernel_rfl) rfl (by intro w;go_simp<;>with_reducible rfl) HPN hHeld
  try simp only [Act.put,yA,yB,yC]
  refine wpAnyH_done (by kernel_rfl) ?_ _
  clear hHeld
  exact hQ _ B1.out _ _ _ _ _ _ _ _
end Go.Proofs.YtdgkanamceeheaaGreat
