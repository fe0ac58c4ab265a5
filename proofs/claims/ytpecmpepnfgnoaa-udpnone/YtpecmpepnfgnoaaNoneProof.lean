/- For every ends, data and other addresses the law UdpNone answers true: a datagram that says that it has no sum is taken from and to any addresses. No conditions. -/
import Derived.Test.YtpecmpepnfgnoaaRows
import Derived.Test.YtpecmpepnfgnoaaEx
import Derived.Test.YtpecmpepnfgnoaaPo
import Derived.WalkKit
import Derived.Deep.Cut
import Derived.Deep.RegionHeld3
import Derived.ProofKit
import Derived.OpenShut
import Derived.ShutString
import Derived.ChangeOld
import Derived.Below
namespace Go.Proofs.Ytpecmpepnfgnoaa
open Go.ChangeShapes Go.WideShapes Go.ChangeAt Go.RowKit
open Go.ChangeMaps (open_string shut_string)
set_option linter.unusedVariables false

theorem udpNone_own : ownKnob Try.prog.godebug = none := by kernel_rfl
theorem udpNone_laid : laidOutB Try.prog = true := by kernel_rfl


open Go.Proofs.PitotIp
open Go.Proofs.Ytpecmpepnfgnoaa.Bi (lies_lt lies_cell lies_frozen lies_alloc)

abbrev ioC (p q : Q4) : Obj := .cells #[.int .u8 p.a.toNat, .int .u8 p.b.toNat, .int .u8 p.c.toNat, .int .u8 p.d.toNat, .int .u8 q.a.toNat, .int .u8 q.b.toNat, .int .u8 q.c.toNat, .int .u8 q.d.toNat] 45
/-- What the law holds: the ends, the other addresses. -/
structure No (w X : World) (a b p q : Q4) (f t : Int) : Prop where
  le : X.heap[w.heap.size]? = some (enC a b f t)
  lo : X.heap[w.heap.size + 1]? = some (ioC p q)
  lb : Below w.heap.size w X
section
variable {w X Y : World} {a b p q : Q4} {f t : Int}
theorem No.below (n : No w X a b p q f t) (hb : Below X.heap.size X Y) : No w Y a b p q f t := ⟨lies_below n.le hb (lies_lt n.le), lies_below n.lo hb (lies_lt n.lo), n.lb.trans (hb.mono n.lb.size)⟩
theorem No.alloc (n : No w X a b p q f t) (o : Obj) : No w (X.alloc o) a b p q f t := ⟨lies_alloc n.le o, lies_alloc n.lo o, n.lb.alloc n.lb.size o⟩
theorem No.drew (n : No w X a b p q f t) : No w X.drew a b p q f t := ⟨n.le, n.lo, n.lb.drew⟩
theorem No.lt (n : No w X a b p q f t) : w.heap.size + 1 < X.heap.size := lies_lt n.lo
theorem No.set (n : No w X a b p q f t) (g k : Nat) (v : Value) (hg : w.heap.size + 1 < g) : No w (X.setCell ⟨g, k, none⟩ v) a b p q f t :=
  ⟨(Below.heap_setCell X _ v _ (by show w.heap.size ≠ g; omega)).trans n.le, (Below.heap_setCell X _ v _ (by show w.heap.size + 1 ≠ g; omega)).trans n.lo, n.lb.setCell (show w.heap.size ≤ (⟨g, k, none⟩ : Addr).block from by show w.heap.size ≤ g; omega) v⟩
end
theorem cells8 {w : World} {g : Nat} {t : TypeId} {x0 x1 x2 x3 x4 x5 x6 x7 : Value} (h : w.heap[g]? = some (.cells #[x0, x1, x2, x3, x4, x5, x6, x7] t)) :
    (w.cell? ⟨g, 0, none⟩ = some x0) ∧ (w.cell? ⟨g, 1, none⟩ = some x1) ∧ (w.cell? ⟨g, 2, none⟩ = some x2) ∧ (w.cell? ⟨g, 3, none⟩ = some x3) ∧ (w.cell? ⟨g, 4, none⟩ = some x4) ∧ (w.cell? ⟨g, 5, none⟩ = some x5) ∧ (w.cell? ⟨g, 6, none⟩ = some x6) ∧ (w.cell? ⟨g, 7, none⟩ = some x7) :=
  ⟨lies_cell h 0, lies_cell h 1, lies_cell h 2, lies_cell h 3, lies_cell h 4, lies_cell h 5, lies_cell h 6, lies_cell h 7⟩
theorem no_store {w W : World} {a b p q : Q4} {f t : Int} {g : Nat} (LO : W.heap[g]? = some enz) (n : No w W a b p q f t) (hg : w.heap.size + 1 < g) (y0 y1 y2 y3 y4 y5 y6 y7 y8 y9 : Value) :
    ((((((((((W.setCell ⟨g, 0, none⟩ y0).setCell ⟨g, 1, none⟩ y1).setCell ⟨g, 2, none⟩ y2).setCell ⟨g, 3, none⟩ y3).setCell ⟨g, 4, none⟩ y4).setCell ⟨g, 5, none⟩ y5).setCell ⟨g, 6, none⟩ y6).setCell ⟨g, 7, none⟩ y7).setCell ⟨g, 8, none⟩ y8).setCell ⟨g, 9, none⟩ y9).heap[g]? = some (.cells #[y0, y1, y2, y3, y4, y5, y6, y7, y8, y9] 25) ∧ No w ((((((((((W.setCell ⟨g, 0, none⟩ y0).setCell ⟨g, 1, none⟩ y1).setCell ⟨g, 2, none⟩ y2).setCell ⟨g, 3, none⟩ y3).setCell ⟨g, 4, none⟩ y4).setCell ⟨g, 5, none⟩ y5).setCell ⟨g, 6, none⟩ y6).setCell ⟨g, 7, none⟩ y7).setCell ⟨g, 8, none⟩ y8).setCell ⟨g, 9, none⟩ y9) a b p q f t :=
  ⟨(read_10 LO).2.2.2.2.2.2.2.2.2.2, No.set (No.set (No.set (No.set (No.set (No.set (No.set (No.set (No.set (No.set n g 0 y0 hg) g 1 y1 hg) g 2 y2 hg) g 3 y3 hg) g 4 y4 hg) g 5 y5 hg) g 6 y6 hg) g 7 y7 hg) g 8 y8 hg) g 9 y9 hg⟩

set_option maxRecDepth 100000 in
set_option maxHeartbeats 4000000 in
theorem udpNone_walk (a b : PitotIp.Q4) (f t : Int) (_hf : (Lit.int .i64 f).wf = true) (_ht : (Lit.int .i64 t).wf = true) (s : ByteArray) (hs : s.size ≤ maxLen) (p q : PitotIp.Q4) (w : World) :
    Calls Try.prog 8 #[en a b f t, .string s, .agg #[.int .u8 p.a.toNat, .int .u8 p.b.toNat, .int .u8 p.c.toNat, .int .u8 p.d.toNat, .int .u8 q.a.toNat, .int .u8 q.b.toNat, .int .u8 q.c.toNat, .int .u8 q.d.toNat]] w fun e w' => e = .returned (.bool true) ∧ Below w.heap.size w w' := by
  unfold maxLen at hs
  clear _hf _ht
  have K0 : Hid (Below w.heap.size w ((w.alloc (enC a b f t)).alloc (ioC p q))) := ((Below.refl _ w).alloc (Nat.le_refl _) _).alloc (by simp) _
  by_cases hbig : 2000 < s.size
  · go_enter Try.func8, Try.ntmps8
    go_wp2_with (go_at_call 9; (with_reducible refine (awake_any _).mono ?_); rintro e w1 ⟨rfl, hb1⟩)
    go_returns
    exact ⟨rfl, K0.out.trans (hb1.mono K0.out.size)⟩
  rcases enc_cases a b f t s (by omega) with ⟨e, he, he', H⟩ | ⟨f, t, rfl, rfl, hmay⟩
  · have H10 := Lib.hid H; clear H
    have he0 : ((e : Int) != 0) = true := by simpa using he
    have he1 : ¬ (e : Int) = 0 := he
    clear he he'
    go_enter Try.func8, Try.ntmps8
    go_wp2_with (first
      | (go_at_call 10; (with_reducible refine (H10.out _).mono ?_); rintro r w1 ⟨rfl, hb1⟩)
      | (go_at_call 9; (with_reducible refine (awake_any _).mono ?_); rintro r w2 ⟨rfl, hb2⟩))
    go_returns
    have k1 : Below w.heap.size w w1 := K0.out.trans (hb1.mono K0.out.size)
    exact ⟨rfl, k1.trans (hb2.mono k1.size)⟩
  have H10 := Lib.hid (fun w => encode_ok a b f t s w hmay)
  have hBs := outB_size a b f t s
  have H13 := fun w => dec_none a b p q f t s hmay w
  obtain ⟨B, HB⟩ : ∃ B, Hid (B = outB a b f t s) := ⟨_, rfl⟩
  rw [← HB.out] at H10 hBs H13
  obtain ⟨P6, HP⟩ : ∃ P, Hid (P = B.extract 0 6) := ⟨_, rfl⟩
  obtain ⟨E8, HE⟩ : ∃ P, Hid (P = B.extract 8 B.size) := ⟨_, rfl⟩
  obtain ⟨M6, HM⟩ : ∃ P, Hid (P = P6 ++ (⟨#[0, 0]⟩ : ByteArray)) := ⟨_, rfl⟩
  rw [← HP.out, ← HE.out, ← HM.out] at H13
  have x6 : B.extract 0 6 = P6 := HP.out.symm
  have x8 : B.extract 8 B.size = E8 := HE.out.symm
  have xM : P6 ++ (⟨#[0, 0]⟩ : ByteArray) = M6 := HM.out.symm
  have zP : P6.size = 6 := by rw [HP.out, ByteArray.size_extract]; omega
  have zE : E8.size ≤ 2000 := by rw [HE.out, ByteArray.size_extract]; omega
  have zM : M6.size = 8 := by rw [HM.out, ByteArray.size_append, zP]; rfl
  have n1 : ¬ 9223372036854775807 < P6.size + (⟨#[0, 0]⟩ : ByteArray).size := by rw [zP, show (⟨#[0, 0]⟩ : ByteArray).size = 2 from rfl]; omega
  have n2 : ¬ 9223372036854775807 < M6.size + E8.size := by omega
  have b1 : (6 : Int) ≤ (B.size : Int) := by omega
  have b2 : (8 : Int) ≤ (B.size : Int) := by omega
  have b3 : B.size ≤ 2008 := by omega
  have H13 := Lib.hid H13
  clear hmay hBs zM zE
  have N0 : No w ((w.alloc (enC a b f t)).alloc (ioC p q)) a b p q f t := by
    refine ⟨lies_alloc (heap_alloc_new w _) _, ?_, K0.out⟩
    have := heap_alloc_new (w.alloc (enC a b f t)) (ioC p q)
    simpa using this
  have N0 := Lib.hid N0
  have hpp := same9 p
  have hqq := same9 q
  go_enter Try.func8, Try.ntmps8
  go_upto_region 8 with (first
    | (go_at_call 10; (with_reducible refine (H10.out _).mono ?_); rintro r w1 ⟨rfl, hb1⟩
       (have N1 := Lib.hid (N0.out.below hb1))
       (clear hb1)))
  have ND : Hid (No w w1.drew a b p q f t) := N1.out.drew
  have NA : Hid (No w (w1.alloc enz).drew a b p q f t) := (N1.out.alloc enz).drew
  have NF : Hid (∀ o, No w (w1.alloc o).drew a b p q f t) := fun o => (N1.out.alloc o).drew
  have NX : Hid (w.heap.size + 1 < w1.heap.size) := N1.out.lt
  have LX : Hid ((w1.alloc enz).drew.heap[w1.heap.size]? = some enz) := heap_alloc_new w1 enz
  go_cut [9, 10, 11] from 12 (fun s9 s10 s11 wc => s10 = .string s ∧ s11 = .int .i64 0 ∧ ∃ gx, s9 = .pointer (some ⟨gx, 0, none⟩) ∧ w.heap.size + 1 < gx ∧ wc.heap[gx]? = some (enC p q f t) ∧ No w wc a b p q f t)
  case first =>
    go_region_held3 (fun w' => w'.cell? ⟨w.heap.size + 1, 0, none⟩ = some (.int .u8 p.a.toNat) ∧ w'.cell? ⟨w.heap.size + 1, 1, none⟩ = some (.int .u8 p.b.toNat) ∧ w'.cell? ⟨w.heap.size + 1, 2, none⟩ = some (.int .u8 p.c.toNat) ∧ w'.cell? ⟨w.heap.size + 1, 3, none⟩ = some (.int .u8 p.d.toNat) ∧ w'.cell? ⟨w.heap.size + 1, 4, none⟩ = some (.int .u8 q.a.toNat) ∧ w'.cell? ⟨w.heap.size + 1, 5, none⟩ = some (.int .u8 q.b.toNat) ∧ w'.cell? ⟨w.heap.size + 1, 6, none⟩ = some (.int .u8 q.c.toNat) ∧ w'.cell? ⟨w.heap.size + 1, 7, none⟩ = some (.int .u8 q.d.toNat))
      (first | (with_reducible exact cells8 ND.out.lo) | (with_reducible exact cells8 (NF.out _).lo) | (with_reducible exact cells8 NB.out.lo) | (with_reducible exact cells8 (NBA.out _).lo) | (with_reducible exact cells8 (NS.out _ _ _ _ _ _ _ _ _ _).2.lo))
      (first
        | (go_at_call 13; (with_reducible refine (H13.out w1.drew).mono ?_); rintro r w2 ⟨rfl, hb⟩
           (have NB : Hid (No w w2 a b p q f t) := ND.out.below hb)
           (have NBA : Hid (∀ o, No w (w2.alloc o) a b p q f t) := fun o => NB.out.alloc o)
           (clear hb))
        | (go_at_call 13; (with_reducible refine (H13.out (w1.alloc enz).drew).mono ?_); rintro r w2 ⟨rfl, hb⟩
           (have NB : Hid (No w w2 a b p q f t) := NA.out.below hb)
           (have LO : Hid (w2.heap[w1.heap.size]? = some enz) := lies_below LX.out hb (lies_lt LX.out))
           (have NS : Hid (∀ y0 y1 y2 y3 y4 y5 y6 y7 y8 y9 : Value, ((((((((((w2.setCell ⟨w1.heap.size, 0, none⟩ y0).setCell ⟨w1.heap.size, 1, none⟩ y1).setCell ⟨w1.heap.size, 2, none⟩ y2).setCell ⟨w1.heap.size, 3, none⟩ y3).setCell ⟨w1.heap.size, 4, none⟩ y4).setCell ⟨w1.heap.size, 5, none⟩ y5).setCell ⟨w1.heap.size, 6, none⟩ y6).setCell ⟨w1.heap.size, 7, none⟩ y7).setCell ⟨w1.heap.size, 8, none⟩ y8).setCell ⟨w1.heap.size, 9, none⟩ y9).heap[w1.heap.size]? = some (.cells #[y0, y1, y2, y3, y4, y5, y6, y7, y8, y9] 25) ∧ No w ((((((((((w2.setCell ⟨w1.heap.size, 0, none⟩ y0).setCell ⟨w1.heap.size, 1, none⟩ y1).setCell ⟨w1.heap.size, 2, none⟩ y2).setCell ⟨w1.heap.size, 3, none⟩ y3).setCell ⟨w1.heap.size, 4, none⟩ y4).setCell ⟨w1.heap.size, 5, none⟩ y5).setCell ⟨w1.heap.size, 6, none⟩ y6).setCell ⟨w1.heap.size, 7, none⟩ y7).setCell ⟨w1.heap.size, 8, none⟩ y8).setCell ⟨w1.heap.size, 9, none⟩ y9) a b p q f t) := fun y0 y1 y2 y3 y4 y5 y6 y7 y8 y9 => no_store LO.out NB.out NX.out y0 y1 y2 y3 y4 y5 y6 y7 y8 y9)
           (obtain ⟨o0, o1, o2, o3, o4, o5, o6, o7, o8, o9⟩ := cells10 LO.out)
           (have z0 := lies_frozen LO.out 0)
           (have z1 := lies_frozen LO.out 1)
           (have z2 := lies_frozen LO.out 2)
           (have z3 := lies_frozen LO.out 3)
           (have z4 := lies_frozen LO.out 4)
           (have z5 := lies_frozen LO.out 5)
           (have z6 := lies_frozen LO.out 6)
           (have z7 := lies_frozen LO.out 7)
           (have z8 := lies_frozen LO.out 8)
           (have z9 := lies_frozen LO.out 9)
           (clear hb)))
    all_goals
      go_wp2
      go_meet
      case rel =>
        first
        | exact ⟨rfl, rfl, _, rfl, NX.out, NS.out _ _ _ _ _ _ _ _ _ _⟩
        | exact ⟨rfl, rfl, _, rfl, NB.out.lt, heap_alloc_new _ _, NBA.out _⟩
  case rest =>
    obtain ⟨rfl, rfl, gx, rfl, hgx, LY, NY⟩ := hcut
    clear ND NA NF NX LX H13 N1
    obtain ⟨c0, c1, c2, c3, c4, c5, c6, c7, c8, c9⟩ := cells10 LY
    obtain ⟨d0, d1, d2, d3, d4, d5, d6, d7, d8, d9⟩ := cells10 NY.le
    obtain ⟨p0, p1, p2, p3, p4, p5, p6, p7⟩ := cells8 NY.lo
    have k0 := Lib.hid NY.lb
    clear LY NY
    go_wp2_with (first
      | (go_at_call 9; (with_reducible refine (awake_any _).mono ?_); rintro r w5 ⟨rfl, hb5⟩))
    go_returns
    exact ⟨rfl, k0.out.trans (hb5.mono k0.out.size)⟩


set_option maxRecDepth 100000 in
theorem udpNone_lifted (os : Os) (started : os.Started) (H : Type) (enc : TypeId × Value → H) :
    ReturnsInHanded {} Try.checked os 8 .any (Rows.udpNoneSpec.pre6 enc Try.prog Try.f8 Rows.udpNoneRow.domain false) (Rows.udpNoneSpec.post enc Try.prog Try.f8 false true false false) := by
  refine returnsInHanded_of_change (C := Try.checked) udpNone_own started (by kernel_rfl) Try.func8
    (ChangeSpec.witness6 (enc := enc) (C := Try.checked) false ⟨#[], #[.agg #[.int .u8 0, .int .u8 0, .int .u8 0, .int .u8 0, .int .u8 0, .int .u8 0, .int .u8 0, .int .u8 0, .int .i64 0, .int .i64 0], .string ByteArray.empty, .agg #[.int .u8 0, .int .u8 0, .int .u8 0, .int .u8 0, .int .u8 0, .int .u8 0, .int .u8 0, .int .u8 0]], []⟩ 8 (by kernel_rfl) (by kernel_rfl) (by kernel_rfl) (by kernel_rfl)) ?_
  intro W base args ds gs before hval0 hW hcnd _
  have hval : ∀ (j : Nat) t v, Try.f8.params[j]? = some t → args[j]? = some v → Value.okWide Try.prog W .any base t v := hval0
  have hW' := hW
  obtain ⟨p, q, hA0, hV, rfl, hfz, hnd⟩ := hW
  have hA : DataW.TrodAll enc Try.prog W 0 (fun _ => true) true Try.f8.params.toList args.toList ds p := hA0
  rw [Try.params8] at hA hval
  obtain ⟨v0, vs0, d0, ds0, p0, q0, hargs, rfl, rfl, h0, r0⟩ := trodAll_cons hA
  obtain ⟨v1, vs1, d1, ds1, p1, q1, rfl, rfl, rfl, h1, r1⟩ := trodAll_cons r0
  obtain ⟨v2, vs2, d2, ds2, p2, q2, rfl, rfl, rfl, h2, r2⟩ := trodAll_cons r1
  obtain ⟨rfl, rfl, rfl⟩ := trodAll_nil r2
  obtain rfl : args = #[v0, v1, v2] := by cases args; simp_all
  obtain ⟨rfl, rfl⟩ := trodVars_none hV
  have k0 := h0
  have lt0 : ∀ x ∈ p0, x.block < W.heap.size := by obtain ⟨m, hm⟩ := k0; exact DataW.trod_lt m _ _ _ hm
  obtain ⟨fu0, hf0⟩ := h0
  obtain ⟨fa0, fb0, ff0, ft0, gf0, gt0, rfl⟩ := ends_open (hval 0 25 v0 rfl rfl) hf0
  obtain ⟨a1, rfl, rfl, rfl, w1⟩ := open_string Try.underlying9 (hval 1 9 v1 rfl rfl) h1
  have k2 := h2
  have lt2 : ∀ x ∈ p2, x.block < W.heap.size := by obtain ⟨m, hm⟩ := k2; exact DataW.trod_lt m _ _ _ hm
  obtain ⟨fu2, hf2⟩ := h2
  obtain ⟨fp2, fq2, rfl⟩ := two_ips_open (hval 2 45 v2 rfl rfl) hf2
  clear hA0 hval0
  have hwalk := udpNone_walk fa0 fb0 ff0 ft0 gf0 gt0 a1 w1 fp2 fq2 W

  refine hwalk.mono fun e W' ⟨he, bel⟩ => ?_
  subst he
  exact ⟨_, rfl, _, _, _, [], _, [], hW', trodAll_mk1 (shut_bool Try.underlying4 _), (trodAll_cons_mk (Below.trod udpNone_laid (by kernel_rfl) (of_decide_eq_true (by kernel_rfl)) k0 bel lt0) (trodAll_cons_mk (shut_string Try.underlying9 w1) (trodAll_cons_mk (Below.trod udpNone_laid (by kernel_rfl) (of_decide_eq_true (by kernel_rfl)) k2 bel lt2) trodAll_mk0))), rfl, bel.frame _, fun h => by cases h⟩

theorem udpNone_over : Rows.udpNoneRow.holds Try.pinned (OpenSpec.ofChange Rows.udpNoneSpec) :=
  OpenClaim.holds_of_wide 8 Try.f8 rfl rfl rfl rfl rfl rfl rfl ⟨rfl, rfl, rfl, rfl, rfl⟩ rfl rfl rfl rfl rfl (by kernel_rfl) Try.func8 (by kernel_rfl)
    (of_decide_eq_true (by kernel_rfl)) (by unfold Func.isWrapper; first | (rw [if_pos (by decide +kernel)]; kernel_rfl) | (rw [if_neg (by decide +kernel)]; exact ⟨rfl, rfl⟩))
    (fun os started H enc _ => udpNone_lifted os started H enc)

theorem udpNone_holds : Rows.UdpNoneSaid := udpNone_over
#print axioms udpNone_holds
end Go.Proofs.Ytpecmpepnfgnoaa
