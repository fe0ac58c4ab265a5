/- For every packets the law ReasmOnly answers true: a packet that comes out has the bytes of the last parts of its Key, joined. No conditions. -/
import Derived.Test.YtgdjcoodjdckkaaRows
import Derived.Test.YtgdjcoodjdckkaaM14
import Derived.WalkKit
import Derived.Deep.RegionHeld3
import Derived.Deep.CutRange
import Derived.StillTailTactics
import Derived.Laws.AppendOwnNone
import Derived.Deep.CutBlock
import Derived.ProofKit
import Derived.OpenShut
import Derived.ShutString
import Derived.ChangeOld
import Derived.Below
set_option linter.unusedVariables false
namespace Go.Proofs.Ytgdjcoodjdckkaa
open Go.ChangeShapes Go.WideShapes Go.ChangeAt Go.RowKit
open Go.ChangeMaps (open_string shut_string)
set_option linter.unusedVariables false

theorem reasmOnly_own : ownKnob Try.prog.godebug = none := by kernel_rfl
theorem reasmOnly_laid : laidOutB Try.prog = true := by kernel_rfl


open Go.Proofs.PitotIp Go.Maps
open Go.Proofs.PitotReasm (Bg Tb Fine bad first next passed passE put keep)
open Go.Proofs.Ytgdjcoodjdckkaa.Bi (lies_lt lies_cell lies_frozen lies_alloc lies_set)
open Go.Proofs.PitotFrag
theorem row_below {W W' : World} {B : Nat} {e : TypeId} {sz : Nat} {v : Value} {n : Nat} {xs : List Value} (h : W.ownsRow B e sz v n xs) (hb : Below W.heap.size W W') : W'.ownsRow B e sz v n xs := h.kept (grown_below hb none) (by cases hh : v.ownBlock <;> simp)
theorem flat_cons (p : Pk) (l : List Pk) : flatP (p :: l) = p.enc ++ flatP l := rfl
theorem flat_one (l : List Pk) : ∀ u ∈ flatP l, u.oneCell' = true := fun u hu => by
  obtain ⟨p, _, hp⟩ := List.mem_flatMap.1 hu
  exact p.enc_one u hp
theorem app_below {V1 wd w5 : World} {zo : Obj} (hb : Below V1.heap.size V1 wd) (hg : ((wd.alloc zo).alloc zo).grownBy w5 (some (wd.heap.size + 1))) : Below V1.heap.size V1 w5 := by
  have hs := hb.size
  have k1 := hb.alloc hs zo
  have k2 := k1.alloc k1.size zo
  exact k2.trans ⟨hg.os, hg.tape, hg.output, hg.size, fun k hk => hg.block k (by have := k2.size; omega) (by simp; omega)⟩
theorem row_new (wd : World) (B : Nat) (p : Pk) (hB : B ≤ wd.heap.size) : ((wd.alloc p.obj).alloc p.obj).ownsRow B 34 14 (.slice (some ⟨wd.heap.size + 1, 0, none⟩) 1 1) 1 p.enc := by
  have e : ((wd.alloc p.obj).alloc p.obj).heap[wd.heap.size + 1]? = some p.obj := by
    have := heap_alloc_new (wd.alloc p.obj) p.obj
    rw [World.size_alloc] at this
    exact this
  exact ⟨rfl, .inr ⟨wd.heap.size + 1, 1, _, rfl, by omega, e, by omega, by unfold maxLen; omega, rfl, rfl⟩⟩
set_option maxRecDepth 100000 in
set_option maxHeartbeats 4000000 in
theorem only_in (Ad : Option Addr) (cap n : Nat) (l : List Wp) (w : World) (Hn : Hid (l.length = n)) (hx : PksAt w Ad (l.map (·.p))) (hz : ∀ q ∈ l, q.p.s.size ≤ maxLen) (h1 : n ≤ 60) : Calls Try.prog 5 #[.slice Ad n cap] w fun e w' => e = .returned (.bool true) ∧ Below w.heap.size w w' := by
  have HX := Lib.hid hx; have HZ := Lib.hid hz
  clear hx hz
  have HA := Lib.hid awake_any
  have HN : Hid (∀ w : World, Calls Try.prog 9 #[.int .i64 64, .int .i64 100] w fun e w' => ∃ tp, e = .returned (.tuple #[.pointer (some ⟨tp, 0, none⟩), .int .i64 0]) ∧ TabAt w.heap.size w' tp ((64 : Nat) : Int) 100 t0 ∧ Below w.heap.size w w') := fun w => new_ok w 64 100 (by omega) (by omega) (by omega) (by omega)
  have e1 : decide (60 < (n : Int)) = false := decide_eq_false (by omega)
  have e1' : decide (60 < n) = false := decide_eq_false (by omega)
  obtain ⟨B, HB⟩ : ∃ B, Hid (w.heap.size = B) := ⟨_, rfl⟩
  go_enter Try.func5, Try.ntmps5
  go_upto_region 4 with (first
    | (go_at_call 9; (with_reducible refine (HN.out _).mono ?_); rintro e V0 ⟨tp, rfl, hT, hb1⟩
       (have K1 := Lib.hid hb1)
       (have T1 := Lib.hid hT)
       (clear hT hb1)))
  clear e1 e1' HN
  rw [HB.out] at T1
  have HBw : Hid (B = w.heap.size) := HB.out.symm
  go_wp2
  go_loopw [5] (fun v5 wr => ∃ (i : Nat) (T : Tb K UInt8), i ≤ n ∧ v5 = .int .i64 i ∧ TabAt B wr tp ((64 : Nat) : Int) 100 T ∧ Run 64 i T ∧ PitotReasm.Inv ((l.take i).reverse.map Wp.pt) T ∧ (∀ q ∈ l.take i, q.p.s.size ≤ 500) ∧ Below w.heap.size w wr) (fun v5 _ => n - (intOf v5).toNat)
  case atStart => exact ⟨0, t0, Nat.zero_le _, rfl, T1.out, run_zero 64, PitotReasm.inv_nil _ rfl, by simp, K1.out⟩
  case round =>
    obtain ⟨i, T, hi, rfl, hT, hR, hI, h5, hb⟩ := hrel
    have hT := Lib.hid hT; have hR := Lib.hid hR; have hb := Lib.hid hb; have hI := Lib.hid hI; have h5 := Lib.hid h5
    by_cases hin : i < n
    · have hil : i < l.length := by rw [Hn.out]; exact hin
      obtain ⟨b', off', rfl, hbl, hat⟩ := HX.out.get (k := i) (by rw [List.length_map]; exact hil)
      rw [List.getElem_map] at hat
      have hzi := HZ.out _ (List.getElem_mem hil)
      have hat := hat.below hb.out hbl
      have HTK : Hid ((l.take (i + 1)).reverse = l[i] :: (l.take i).reverse) := by show _ = _; rw [List.take_succ_eq_append_getElem hil, List.reverse_append]; rfl
      obtain ⟨x, HXI⟩ : ∃ x, Hid (l[i] = x) := ⟨l[i], Lib.hid rfl⟩
      rw [HXI.out] at hat hzi HTK
      have HI : Hid (b' < w.heap.size) := hbl
      have iInt : (i : Int) < n := by omega
      obtain ⟨a0, a1, a2, a3, a4, a5, a6, a7, a8, a9, a10, a11, a12, a13⟩ := hat
      by_cases hbig : 500 < x.p.s.size
      · go_wp2_with (first
          | (go_at_call 11; (with_reducible refine (HA.out _).mono ?_); rintro e w4 ⟨rfl, hb4⟩))
        go_returns
        exact ⟨rfl, hb.out.trans (hb4.mono hb.out.size)⟩
      · have hpz := pass_zero hR.out.now (show (i : Int) ≤ 1125899906842624 by omega)
        have hwt : ∀ b ∈ T.l, (i : Int) - b.t0 ≤ 100 := fun b hb => by have := (hR.out.good.times b hb).1; omega
        have H5 : Hid (∀ q ∈ l.take (i + 1), q.p.s.size ≤ 500) := by
          show ∀ q ∈ l.take (i + 1), q.p.s.size ≤ 500
          intro q hq
          have hq2 : q ∈ (l.take (i + 1)).reverse := List.mem_reverse.2 hq
          rw [HTK.out] at hq2
          rcases List.mem_cons.1 hq2 with h | h
          · rw [h]; omega
          · exact h5.out q (List.mem_reverse.1 h)
        have HP := Lib.hid (run_put hR.out (by omega) (by omega) (show (0 : Int) ≤ 100 by omega) (by omega) x.hw (by omega) hT.out)
        have HR2 := Lib.hid (run_next hR.out (by omega) (by omega) 100 x.k x.p.m x.p.off x.p.d)
        have HI2 := PitotReasm.inv_step (most := 64) hI.out hwt x.pt hpz
        have HOUT := fun out => PitotReasm.out_cases (most := 64) hI.out hwt x.pt (x := out)
        rw [show x.pt :: (l.take i).reverse.map Wp.pt = (l.take (i + 1)).reverse.map Wp.pt by rw [HTK.out]; rfl] at HI2
        have HI2 : Hid (PitotReasm.Inv ((l.take (i + 1)).reverse.map Wp.pt) (put 64 100 T i x.k x.p.m x.p.off x.p.d).1) := HI2
        have HOUT : Hid (∀ out, (put 64 100 T i x.k x.p.m x.p.off x.p.d).2.1 = some out → jn ((gathW x (l.take i).reverse).map Wp.z) = (⟨x.p.id, false, 0, 0, x.p.pr, x.p.a, x.p.b, bl out⟩, 0)) := fun out h => jn_gath (HOUT out h) (by omega)
        clear hpz hwt
        generalize put 64 100 T i x.k x.p.m x.p.off x.p.d = pr at HP HR2 HI2 HOUT
        cases ho : pr.2.1 with
        | none =>
          have HQ : ansP x.p pr.2.1 = pkN := by rw [ho]; rfl
          rw [HQ, ho] at HP
          simp only [Option.isSome_none] at HP
          obtain ⟨Z, HZZ⟩ : ∃ Z, Hid (pkN = Z) := ⟨_, rfl⟩
          rw [HZZ.out] at HP
          clear HQ ho HOUT
          go_wp2_with (first
            | (go_at_call 14; (with_reducible refine (HP.out).mono ?_); rintro e w2 ⟨rfl, hT2, hF2⟩))
          go_roundw
          case rel =>
            have k := hb.out.trans (hF2.below.mono (by rw [HBw.out]; omega))
            exact ⟨i + 1, pr.1, by omega, by go_num, hT2.below ((Below.refl _ w2).alloc (Nat.le_refl _) _), HR2.out, HI2.out, H5.out, k.alloc k.size _⟩
          case measure => simp [intOf] <;> omega
        | some out =>
          have HJ := Lib.hid (HOUT.out out ho)
          obtain ⟨Z, HZZ⟩ : ∃ Z, Hid (whole x.p out = Z) := ⟨_, rfl⟩
          have HQ : ansP x.p pr.2.1 = Z := by rw [ho, ← HZZ.out]; rfl
          rw [HQ, ho] at HP
          simp only [Option.isSome_some] at HP
          have HKEY : Hid (Z.a = x.p.a ∧ Z.b = x.p.b ∧ Z.pr = x.p.pr ∧ Z.id = x.p.id) := by
            show _ ∧ _; rw [← HZZ.out]; exact ⟨rfl, rfl, rfl, rfl⟩
          have HZS : Hid (Z.s = bl out) := by show _ = _; rw [← HZZ.out]; rfl
          clear HQ ho HOUT
          go_upto_region 10 with (first
            | (go_at_call 14; (with_reducible refine (HP.out).mono ?_); rintro e w2 ⟨rfl, hT2, hF2⟩
               (have T2 : Hid (TabAt B (w2.alloc Z.obj) tp ((64 : Nat) : Int) 100 pr.1) := hT2.below ((Below.refl _ w2).alloc (Nat.le_refl _) _))
               (have B2 : Hid (Below w.heap.size w (w2.alloc Z.obj)) := (hb.out.trans (hF2.below.mono (by rw [HBw.out]; omega))).alloc (hb.out.trans (hF2.below.mono (by rw [HBw.out]; omega))).size _)
               (have ZQ : Hid ((w2.alloc Z.obj).heap[w2.heap.size]? = some Z.obj) := heap_alloc_new w2 _)
               (clear hT2 hF2)))
          clear a0 a1 a2 a3 a4 a5 a6 a7 a8 a9 a10 a11 a12 a13
          generalize w2.alloc Z.obj = V1 at T2 B2 ZQ ⊢
          generalize w2.heap.size = gq at ZQ ⊢
          clear HP
          have HLEN : Hid ((gathW x (l.take i).reverse).length ≤ 61) := by
            have := gathW_len x (l.take i).reverse
            rw [List.length_reverse, List.length_take] at this
            show _ ≤ 61
            omega
          go_upto_block 2 with (fail)
          go_cut [9, 10, 11] from 66 to 143 (fun v9 v10 v11 wc => wc.ownsRow V1.heap.size 34 14 v9 (gathW x (l.take i).reverse).length (flatP ((gathW x (l.take i).reverse).map Wp.z)) ∧ Below V1.heap.size V1 wc)
          case first =>
            go_wp2
            go_loopw [9, 10] (fun v9 v10 wr => ∃ (q : Int) (j : Nat) (acc : List Wp), v10 = .int .i64 q ∧ (j : Int) = q + 1 ∧ wr.ownsRow V1.heap.size 34 14 v9 acc.length (flatP (acc.map Wp.z)) ∧ Below V1.heap.size V1 wr ∧ ((j = i + 1 ∧ acc = [] ∧ v9 = .slice none 0 0) ∨ (j ≤ i ∧ 0 < acc.length ∧ ownW ((l.take j).reverse) x.k ++ acc = gathW x (l.take i).reverse))) (fun _ v10 _ => (intOf v10 + 1).toNat)
            case atStart => exact ⟨(i : Int), i + 1, [], rfl, by omega, ⟨rfl, .inl ⟨rfl, rfl⟩⟩, Below.refl _ _, .inl ⟨rfl, rfl, rfl⟩⟩
            case round =>
              obtain ⟨q, j, acc, rfl, hj, hrow, hbw, hst⟩ := hrel
              have HRW := Lib.hid hrow; have HBW := Lib.hid hbw; have HST := Lib.hid hst
              clear hrow hbw hst
              by_cases hq : 0 ≤ q
              · obtain ⟨kk, rfl⟩ : ∃ kk : Nat, q = (kk : Int) := ⟨q.toNat, by omega⟩
                obtain rfl : j = kk + 1 := by omega
                clear hj
                have hki : kk ≤ i := by rcases HST.out with h | h <;> omega
                have hkl : kk < l.length := by omega
                have hkn : kk < n := by omega
                obtain ⟨b2, off2, e2, hbl2, hat2⟩ := HX.out.get (k := kk) (by rw [List.length_map]; exact hkl)
                injection e2 with e2; injection e2 with e2 e3 _; subst e2; subst e3
                rw [List.getElem_map] at hat2
                have HTK2 : Hid ((l.take (kk + 1)).reverse = l[kk] :: (l.take kk).reverse) := by show _ = _; rw [List.take_succ_eq_append_getElem hkl, List.reverse_append]; rfl
                have HEQ : Hid (kk = i → l[kk] = x) := fun e => by subst e; exact HXI.out
                generalize l[kk] = y at hat2 HTK2 HEQ
                have HYW : Hid (PkAt w b' (off' + kk * 14) y.p) := hat2
                have HY : Hid (PkAt wr b' (off' + kk * 14) y.p) := hat2.below (B2.out.trans (HBW.out.mono B2.out.size)) hbl
                have HLT : Hid (b' < wr.heap.size) := Nat.lt_of_lt_of_le (Nat.lt_of_lt_of_le hbl B2.out.size) HBW.out.size
                have ZQ2 : Hid (wr.heap[gq]? = some Z.obj) := lies_below ZQ.out HBW.out (lies_lt ZQ.out)
                clear hat2 hbl2
                go_upto_region 15 with (fail)
                by_cases hs : y.k ≠ x.k ∨ (y.p.off = 0 ∧ y.p.m = false ∧ kk < i)
                · refine skip_yes HY ZQ2 HLT hkn (fun _ _ _ _ _ h => h) ?_ HKEY.out hs
                  intro wd hwd x70 x71 x72 x73 x74 x75 x76 x77 x78 x79 x80 x81 x82 x83 x84 x85 x86 x87 x88 x89 x90 x91 x92 x93 x94 x95 x96 x97 x98 x99 x100 x101 x102 x103 x104 x105 x106 x107 x108 x109 x110 x111 x112 x113 x114 x115 x116 x117 x118 x119 x120 x121 x122 x123 x124 x125 x126 x127
                  have HWD := Lib.hid hwd
                  have HS := Lib.hid hs
                  clear hwd hs
                  go_wp2
                  go_roundw
                  case rel =>
                    refine ⟨(kk : Int) - 1, kk, acc, by go_num, by omega, row_below HRW.out HWD.out, HBW.out.trans (HWD.out.mono HBW.out.size), .inr ?_⟩
                    rcases HST.out with ⟨h1, h2, h3⟩ | ⟨h1, h2, h3⟩
                    · have hki2 : kk = i := by omega
                      have := HEQ.out hki2
                      subst this
                      rcases HS.out with h | h
                      · exact absurd rfl h
                      · omega
                    · refine ⟨by omega, h2, ?_⟩
                      rw [HTK2.out, ownW, if_neg (fun e => HS.out.elim (fun h => h e.1) (fun h => e.2 ⟨h.1, h.2.1⟩))] at h3
                      exact h3
                  case measure => simp [intOf] <;> omega
                · have hs1 : y.k = x.k := Classical.byContradiction fun h => hs (.inl h)
                  have hs2 : ¬ (y.p.off = 0 ∧ y.p.m = false) ∨ kk = i := by
                    by_cases h : kk = i
                    · exact .inr h
                    · exact .inl fun h2 => hs (.inr ⟨h2.1, h2.2, by omega⟩)
                  refine skip_no HY ZQ2 HLT hkn (fun _ _ _ _ _ h => h) ?_ HKEY.out hs1 hs2
                  intro wd hwd x70 x71 x72 x73 x74 x75 x76 x77 x78 x79 x80 x81 x82 x83 x84 x85 x86 x87 x88 x89 x90 x91 x92 x93 x94 x95 x96 x97 x98 x99 x100 x101 x102 x103 x104 x105 x106 x107 x108 x109 x110 x111 x112 x113 x114 x115 x116 x117 x118 x119 x120 x121 x122 x123 x124 x125 x126 x127
                  have HWD := Lib.hid hwd
                  have HSN := Lib.hid (And.intro hs1 hs2)
                  have HYD : Hid (PkAt wd b' (off' + kk * 14) y.p) := HY.out.below hwd HLT.out
                  have BD : Hid (Below V1.heap.size V1 wd) := HBW.out.trans (hwd.mono HBW.out.size)
                  have HRD := Lib.hid (row_below HRW.out hwd)
                  have HLD : Hid (b' < wd.heap.size) := Nat.lt_of_lt_of_le HLT.out hwd.size
                  clear hwd hs hs1 hs2
                  obtain ⟨a0, a1, a2, a3, a4, a5, a6, a7, a8, a9, a10, a11, a12, a13⟩ := HYD.out
                  have HNW : Hid (((wd.alloc (.cells #[.int .i64 y.p.id, .bool y.p.m, .int .i64 y.p.off, .int .i64 0, .int .i64 y.p.pr, .int .u8 y.p.a.a.toNat, .int .u8 y.p.a.b.toNat, .int .u8 y.p.a.c.toNat, .int .u8 y.p.a.d.toNat, .int .u8 y.p.b.a.toNat, .int .u8 y.p.b.b.toNat, .int .u8 y.p.b.c.toNat, .int .u8 y.p.b.d.toNat, .string y.p.s] 34)).alloc (.cells #[.int .i64 y.p.id, .bool y.p.m, .int .i64 y.p.off, .int .i64 0, .int .i64 y.p.pr, .int .u8 y.p.a.a.toNat, .int .u8 y.p.a.b.toNat, .int .u8 y.p.a.c.toNat, .int .u8 y.p.a.d.toNat, .int .u8 y.p.b.a.toNat, .int .u8 y.p.b.b.toNat, .int .u8 y.p.b.c.toNat, .int .u8 y.p.b.d.toNat, .string y.p.s] 34)).ownsRow V1.heap.size 34 14 (.slice (some ⟨wd.heap.size + 1, 0, none⟩) 1 1) 1 y.z.enc) := row_new wd _ y.z BD.out.size
                  have BN : Hid (Below V1.heap.size V1 ((wd.alloc (.cells #[.int .i64 y.p.id, .bool y.p.m, .int .i64 y.p.off, .int .i64 0, .int .i64 y.p.pr, .int .u8 y.p.a.a.toNat, .int .u8 y.p.a.b.toNat, .int .u8 y.p.a.c.toNat, .int .u8 y.p.a.d.toNat, .int .u8 y.p.b.a.toNat, .int .u8 y.p.b.b.toNat, .int .u8 y.p.b.c.toNat, .int .u8 y.p.b.d.toNat, .string y.p.s] 34)).alloc (.cells #[.int .i64 y.p.id, .bool y.p.m, .int .i64 y.p.off, .int .i64 0, .int .i64 y.p.pr, .int .u8 y.p.a.a.toNat, .int .u8 y.p.a.b.toNat, .int .u8 y.p.a.c.toNat, .int .u8 y.p.a.d.toNat, .int .u8 y.p.b.a.toNat, .int .u8 y.p.b.b.toNat, .int .u8 y.p.b.c.toNat, .int .u8 y.p.b.d.toNat, .string y.p.s] 34))) := by
                    have k1 := BD.out.alloc BD.out.size (.cells #[.int .i64 y.p.id, .bool y.p.m, .int .i64 y.p.off, .int .i64 0, .int .i64 y.p.pr, .int .u8 y.p.a.a.toNat, .int .u8 y.p.a.b.toNat, .int .u8 y.p.a.c.toNat, .int .u8 y.p.a.d.toNat, .int .u8 y.p.b.a.toNat, .int .u8 y.p.b.b.toNat, .int .u8 y.p.b.c.toNat, .int .u8 y.p.b.d.toNat, .string y.p.s] 34)
                    exact k1.alloc k1.size _
                  obtain ⟨ii, hii, hzz, hs34, hb34⟩ := info_parts Try.info34
                  have hV : V1.heap.size ≤ ((wd.alloc (.cells #[.int .i64 y.p.id, .bool y.p.m, .int .i64 y.p.off, .int .i64 0, .int .i64 y.p.pr, .int .u8 y.p.a.a.toNat, .int .u8 y.p.a.b.toNat, .int .u8 y.p.a.c.toNat, .int .u8 y.p.a.d.toNat, .int .u8 y.p.b.a.toNat, .int .u8 y.p.b.b.toNat, .int .u8 y.p.b.c.toNat, .int .u8 y.p.b.d.toNat, .string y.p.s] 34)).alloc (.cells #[.int .i64 y.p.id, .bool y.p.m, .int .i64 y.p.off, .int .i64 0, .int .i64 y.p.pr, .int .u8 y.p.a.a.toNat, .int .u8 y.p.a.b.toNat, .int .u8 y.p.a.c.toNat, .int .u8 y.p.a.d.toNat, .int .u8 y.p.b.a.toNat, .int .u8 y.p.b.b.toNat, .int .u8 y.p.b.c.toNat, .int .u8 y.p.b.d.toNat, .string y.p.s] 34)).heap.size := BN.out.size
                  rcases HST.out with ⟨h1, h2, h3⟩ | ⟨h1, h2, h3⟩
                  · have hki2 : kk = i := by omega
                    have hyx := HEQ.out hki2
                    subst h2; subst h3; subst hyx
                    have HKI := Lib.hid hki2
                    clear h1 hki2
                    go_upto_region 19 with (first
                      | (at_builtin; refine wpList_append_own_none rfl _ _ 57 (by rfl) V1.heap.size 34 ii 14 Try.underlying57 hii _ 1 _ (by rfl) HNW.out (by rfl) ?_))
                    clear a0 a1 a2 a3 a4 a5 a6 a7 a8 a9 a10 a11 a12 a13
                    generalize (wd.alloc (.cells #[.int .i64 y.p.id, .bool y.p.m, .int .i64 y.p.off, .int .i64 0, .int .i64 y.p.pr, .int .u8 y.p.a.a.toNat, .int .u8 y.p.a.b.toNat, .int .u8 y.p.a.c.toNat, .int .u8 y.p.a.d.toNat, .int .u8 y.p.b.a.toNat, .int .u8 y.p.b.b.toNat, .int .u8 y.p.b.c.toNat, .int .u8 y.p.b.d.toNat, .string y.p.s] 34)).alloc (.cells #[.int .i64 y.p.id, .bool y.p.m, .int .i64 y.p.off, .int .i64 0, .int .i64 y.p.pr, .int .u8 y.p.a.a.toNat, .int .u8 y.p.a.b.toNat, .int .u8 y.p.a.c.toNat, .int .u8 y.p.a.d.toNat, .int .u8 y.p.b.a.toNat, .int .u8 y.p.b.b.toNat, .int .u8 y.p.b.c.toNat, .int .u8 y.p.b.d.toNat, .string y.p.s] 34) = W5 at HNW BN hV ⊢
                    have c2 : W5.cell? ⟨b', off' + kk * 14 + 2, none⟩ = some (.int .i64 y.p.off) := (HYW.out.below (B2.out.trans (BN.out.mono B2.out.size)) HI.out).2.2.1
                    have HROW : Hid (W5.ownsRow V1.heap.size 34 14 (.slice (some ⟨wd.heap.size + 1, 0, none⟩) 1 1) [y].length (flatP ([y].map Wp.z))) := by
                      show W5.ownsRow _ _ _ _ 1 _
                      rw [List.map_cons, List.map_nil, flat_cons, show flatP [] = [] from rfl, List.append_nil]
                      exact HNW.out
                    by_cases ho : y.p.off = 0
                    · have ho' : (y.p.off == 0) = true := by simpa using ho
                      have HG : Hid (gathW y (l.take i).reverse = [y]) := by show _ = _; unfold gathW; rw [if_pos ho]
                      clear ho
                      go_wp2
                      go_meet
                      case rel =>
                        rw [HG.out]
                        exact ⟨HROW.out, BN.out⟩
                    · have ho' : (y.p.off == 0) = false := by simpa using ho
                      have HG : Hid (ownW ((l.take kk).reverse) y.k ++ [y] = gathW y (l.take i).reverse) := by show _ = _; rw [HKI.out]; unfold gathW; rw [if_neg ho]
                      clear ho
                      go_wp2
                      go_roundw
                      case rel => exact ⟨(kk : Int) - 1, kk, [y], by go_num, by omega, HROW.out, BN.out, .inr ⟨by omega, by simp, HG.out⟩⟩
                      case measure => simp [intOf] <;> omega
                  · obtain ⟨g, cap2, hv9, hg, hgl⟩ := HRD.out.form h2
                    subst hv9
                    have HNEWS : Hid (∀ j u, (flatP (acc.map Wp.z))[j]? = some u → ((wd.alloc (.cells #[.int .i64 y.p.id, .bool y.p.m, .int .i64 y.p.off, .int .i64 0, .int .i64 y.p.pr, .int .u8 y.p.a.a.toNat, .int .u8 y.p.a.b.toNat, .int .u8 y.p.a.c.toNat, .int .u8 y.p.a.d.toNat, .int .u8 y.p.b.a.toNat, .int .u8 y.p.b.b.toNat, .int .u8 y.p.b.c.toNat, .int .u8 y.p.b.d.toNat, .string y.p.s] 34)).alloc (.cells #[.int .i64 y.p.id, .bool y.p.m, .int .i64 y.p.off, .int .i64 0, .int .i64 y.p.pr, .int .u8 y.p.a.a.toNat, .int .u8 y.p.a.b.toNat, .int .u8 y.p.a.c.toNat, .int .u8 y.p.a.d.toNat, .int .u8 y.p.b.a.toNat, .int .u8 y.p.b.b.toNat, .int .u8 y.p.b.c.toNat, .int .u8 y.p.b.d.toNat, .string y.p.s] 34)).cell? ((⟨g, 0, none⟩ : Addr).add j) = some u) := ((HRD.out.alloc _).alloc _).cells rfl
                    have HLN : Hid ((flatP (acc.map Wp.z)).length = acc.length * 14) := by show _ = _; rw [flatP_length, List.length_map]
                    have ha61 : acc.length ≤ 61 := by
                      have e := congrArg List.length h3
                      rw [List.length_append] at e
                      have := HLEN.out
                      omega
                    have HKI : Hid (kk ≠ i) := by show kk ≠ i; omega
                    have HN1 : Hid (¬ (y.p.off = 0 ∧ y.p.m = false)) := by
                      show ¬ _
                      rcases HSN.out.2 with h | h
                      · exact h
                      · exact absurd h HKI.out
                    have H3 := Lib.hid h3
                    clear h3
                    go_upto_region 19 with (first
                      | (at_builtin; refine wpList_append_lies _ rfl _ _ 57 (by rfl) V1.heap.size 34 ii _ 14 64 Try.underlying57 hii hzz hs34 hb34 rfl (by omega) _ 1 y.z.enc (by rfl) HNW.out ⟨g, 0, none⟩ acc.length cap2 (flatP (acc.map Wp.z)) (by rfl) HLN.out HNEWS.out (flat_one _) h2 (by unfold maxLen; omega) (by omega) hV _ rfl ?_; intro g5 c5 w5 hrow5 hg5 hgb5 hgl5))
                    clear a0 a1 a2 a3 a4 a5 a6 a7 a8 a9 a10 a11 a12 a13
                    have BN2 : Hid (Below V1.heap.size V1 w5) := app_below BD.out hg5
                    have HROW : Hid (w5.ownsRow V1.heap.size 34 14 (.slice (some ⟨g5, 0, none⟩) (1 + acc.length) c5) (y :: acc).length (flatP ((y :: acc).map Wp.z))) := by
                      show w5.ownsRow _ _ _ _ (acc.length + 1) _
                      rw [Nat.add_comm acc.length 1]
                      exact hrow5
                    clear hrow5 hg5 hgb5 hgl5 HNEWS HNW
                    have c2 : w5.cell? ⟨b', off' + kk * 14 + 2, none⟩ = some (.int .i64 y.p.off) := (HYW.out.below (B2.out.trans (BN2.out.mono B2.out.size)) HI.out).2.2.1
                    by_cases ho : y.p.off = 0
                    · have ho' : (y.p.off == 0) = true := by simpa using ho
                      have HG : Hid (gathW x (l.take i).reverse = y :: acc) := by
                        show _ = _
                        have h3 := H3.out
                        rw [HTK2.out, ownW, if_pos ⟨HSN.out.1, HN1.out⟩, if_pos ho] at h3
                        exact h3.symm
                      clear ho
                      go_wp2
                      go_meet
                      case rel =>
                        rw [HG.out]
                        exact ⟨HROW.out, BN2.out⟩
                    · have ho' : (y.p.off == 0) = false := by simpa using ho
                      have HG : Hid (ownW ((l.take kk).reverse) x.k ++ (y :: acc) = gathW x (l.take i).reverse) := by
                        show _ = _
                        have h3 := H3.out
                        rw [HTK2.out, ownW, if_pos ⟨HSN.out.1, HN1.out⟩, if_neg ho, List.append_assoc] at h3
                        exact h3
                      clear ho
                      go_wp2
                      go_roundw
                      case rel => exact ⟨(kk : Int) - 1, kk, y :: acc, by go_num, by omega, HROW.out, BN2.out, .inr ⟨by omega, by simp, HG.out⟩⟩
                      case measure => simp [intOf] <;> omega
              · obtain rfl : j = 0 := by omega
                have hq1 : q < 0 := by omega
                have hqd : decide (0 ≤ q) = false := decide_eq_false hq
                clear hj
                go_wp2
                go_meet
                case rel =>
                  rcases HST.out with ⟨h1, h2, h3⟩ | ⟨h1, h2, h3⟩
                  · omega
                  · have e : acc = gathW x (l.take i).reverse := h3
                    subst e
                    exact ⟨HRW.out, HBW.out⟩
          case rest =>
            obtain ⟨hrow, hbw⟩ := hcut
            obtain ⟨g, cap2, rfl, hg, hgl, hpk⟩ := PksAt.of_row hrow (by rw [List.length_map]) (gathW_pos _ _)
            have HJN := join_any (some ⟨g, 0, none⟩) cap2 ((gathW x (l.take i).reverse).map Wp.z) wc hpk (by rw [List.length_map]; have := HLEN.out; omega) (fun p hp => by
              obtain ⟨y, hy, rfl⟩ := List.mem_map.1 hp
              show y.p.s.size ≤ 10000
              rcases gathW_mem _ _ y hy with rfl | h
              · omega
              · have := h5.out y (List.mem_reverse.1 h); omega) (gathW x (l.take i).reverse).length (by rw [List.length_map]) (by rw [List.length_map]; exact gathW_pos _ _)
            rw [HJ.out] at HJN
            obtain ⟨PJ, HPJ⟩ : ∃ PJ : Pk, Hid ((⟨x.p.id, false, 0, 0, x.p.pr, x.p.a, x.p.b, bl out⟩ : Pk) = PJ) := ⟨_, rfl⟩
            simp only [HPJ.out] at HJN
            have HPS : Hid (PJ.s = bl out) := by show _ = _; rw [← HPJ.out]
            have HJN := Lib.hid HJN
            have BW : Hid (Below w.heap.size w wc) := B2.out.trans (hbw.mono B2.out.size)
            have TW : Hid (TabAt B wc tp ((64 : Nat) : Int) 100 pr.1) := T2.out.below hbw
            have ZW : Hid (wc.heap[gq]? = some Z.obj) := lies_below ZQ.out hbw (lies_lt ZQ.out)
            clear hrow hbw hg hgl hpk
            obtain ⟨U, HU⟩ : ∃ U, Hid (bl out = U) := ⟨_, rfl⟩
            rw [HU.out] at HPS HZS
            go_upto_region 21 with (first
              | (go_at_call 21; (with_reducible refine (HJN.out).mono ?_); rintro e w3 ⟨rfl, hb3⟩
                 (have B3 : Hid (Below w.heap.size w (w3.alloc PJ.obj)) := (BW.out.trans (hb3.mono BW.out.size)).alloc (BW.out.trans (hb3.mono BW.out.size)).size _)
                 (have T3 : Hid (TabAt B (w3.alloc PJ.obj) tp ((64 : Nat) : Int) 100 pr.1) := (TW.out.below hb3).below ((Below.refl _ w3).alloc (Nat.le_refl _) _))
                 (have Z3 : Hid ((w3.alloc PJ.obj).heap[gq]? = some Z.obj) := lies_alloc (lies_below ZW.out hb3 (lies_lt ZW.out)) _)
                 (have J3 : Hid ((w3.alloc PJ.obj).heap[w3.heap.size]? = some PJ.obj) := heap_alloc_new w3 _)
                 (clear hb3)))
            generalize w3.alloc PJ.obj = W3 at B3 T3 Z3 J3 ⊢
            generalize w3.heap.size = gj at J3 ⊢
            have cz : W3.cell? ⟨gq, 13, none⟩ = some (.string U) := by rw [← HZS.out]; exact lies_cell Z3.out 13
            have cj : W3.cell? ⟨gj, 13, none⟩ = some (.string U) := by rw [← HPS.out]; exact lies_cell J3.out 13
            go_wp2
            go_roundw
            case rel => exact ⟨i + 1, pr.1, by omega, by go_num, T3.out, HR2.out, HI2.out, H5.out, B3.out⟩
            case measure => simp [intOf] <;> omega
    · obtain rfl : i = n := by omega
      go_wp2_with (first
        | (go_at_call 11; (with_reducible refine (HA.out _).mono ?_); rintro e w4 ⟨rfl, hb4⟩))
      go_returns
      exact ⟨rfl, hb.out.trans (hb4.mono hb.out.size)⟩

set_option maxRecDepth 100000 in
set_option maxHeartbeats 4000000 in
theorem only_out (Ad : Option Addr) (cap n : Nat) (w : World) (h : 60 < n) : Calls Try.prog 5 #[.slice Ad n cap] w fun e w' => e = .returned (.bool true) ∧ Below w.heap.size w w' := by
  have HA := Lib.hid awake_any
  have HN : Hid (∀ w : World, Calls Try.prog 9 #[.int .i64 64, .int .i64 100] w fun e w' => ∃ tp, e = .returned (.tuple #[.pointer (some ⟨tp, 0, none⟩), .int .i64 0]) ∧ TabAt w.heap.size w' tp ((64 : Nat) : Int) 100 t0 ∧ Below w.heap.size w w') := fun w => new_ok w 64 100 (by omega) (by omega) (by omega) (by omega)
  have e1 : decide (60 < (n : Int)) = true := decide_eq_true (by omega)
  have e1' : decide (60 < n) = true := decide_eq_true h
  clear h
  go_enter Try.func5, Try.ntmps5
  go_wp2_with (first
    | (go_at_call 9; (with_reducible refine (HN.out _).mono ?_); rintro e V1 ⟨tp, rfl, hT, hb1⟩
       (have K1 := Lib.hid hb1)
       (clear hT hb1))
    | (go_at_call 11; (with_reducible refine (HA.out _).mono ?_); rintro e w4 ⟨rfl, hb4⟩))
  go_returns
  exact ⟨rfl, K1.out.trans (hb4.mono K1.out.size)⟩

theorem wps : ∀ (l : List Pk), (∀ q ∈ l, q.s.size ≤ maxLen ∧ q.Wf) → ∃ L : List Wp, L.map (·.p) = l ∧ ∀ q ∈ L, q.p.s.size ≤ maxLen
  | [], _ => ⟨[], rfl, by simp⟩
  | p :: r, h => by
    obtain ⟨L, hL, h2⟩ := wps r (fun q hq => h q (List.mem_cons_of_mem _ hq))
    have hp := h p (List.mem_cons_self ..)
    exact ⟨⟨p, hp.2⟩ :: L, by rw [List.map_cons, hL], fun q hq => by
      rcases List.mem_cons.1 hq with rfl | hq
      · exact hp.1
      · exact h2 q hq⟩
theorem reasmOnly_walk (Ad : Option Addr) (cap : Nat) (l : List Pk) {w0 : World} (hx : PksAt w0 Ad l) (_hl : l.length ≤ maxLen) (hz : ∀ q ∈ l, q.s.size ≤ maxLen ∧ q.Wf) (w : World) (hww : w0 = w := by rfl) : Calls Try.prog 5 #[.slice Ad l.length cap] w fun e w' => e = .returned (.bool true) ∧ Below w.heap.size w w' := by
  subst hww
  by_cases h : 60 < l.length
  · exact only_out Ad cap l.length w0 h
  · obtain ⟨L, rfl, h2⟩ := wps l hz
    exact only_in Ad cap _ L w0 (by show _ = _; rw [List.length_map]) hx h2 (by omega)


set_option maxRecDepth 100000 in
theorem reasmOnly_lifted (os : Os) (started : os.Started) (H : Type) (enc : TypeId × Value → H) :
    ReturnsInHanded {} Try.checked os 5 .any (Rows.reasmOnlySpec.pre6 enc Try.prog Try.f5 Rows.reasmOnlyRow.domain false) (Rows.reasmOnlySpec.post enc Try.prog Try.f5 false true false false) := by
  refine returnsInHanded_of_change (C := Try.checked) reasmOnly_own started (by kernel_rfl) Try.func5
    (ChangeSpec.witness6 (enc := enc) (C := Try.checked) false ⟨#[], #[.slice none 0 0], []⟩ 8 (by kernel_rfl) (by kernel_rfl) (by kernel_rfl) (by kernel_rfl)) ?_
  intro W base args ds gs before hval0 hW hcnd _
  have hval : ∀ (j : Nat) t v, Try.f5.params[j]? = some t → args[j]? = some v → Value.okWide Try.prog W .any base t v := hval0
  have hW' := hW
  obtain ⟨p, q, hA0, hV, rfl, hfz, hnd⟩ := hW
  have hA : DataW.TrodAll enc Try.prog W 0 (fun _ => true) true Try.f5.params.toList args.toList ds p := hA0
  rw [Try.params5] at hA hval
  obtain ⟨v0, vs0, d0, ds0, p0, q0, hargs, rfl, rfl, h0, r0⟩ := trodAll_cons hA
  obtain ⟨rfl, rfl, rfl⟩ := trodAll_nil r0
  obtain rfl : args = #[v0] := by cases args; simp_all
  obtain ⟨rfl, rfl⟩ := trodVars_none hV
  obtain ⟨c0, len0, cap0, rfl⟩ := okWide_slice Try.underlying57 (hval 0 57 v0 rfl rfl)
  have k0 := h0
  have lt0 : ∀ x ∈ p0, x.block < W.heap.size := by obtain ⟨m, hm⟩ := k0; exact DataW.trod_lt m _ _ _ hm
  obtain ⟨fu0, hf0⟩ := h0
  obtain ⟨Ad0, cap0, l0, e0, hx0, hl0, hz0⟩ := packets_open (v := .slice c0 len0 cap0) (by simpa [Value.cells] using hf0)
  clear hA0 hval0
  have hwalk := reasmOnly_walk Ad0 cap0 l0 hx0 hl0 hz0 W
  rw [← e0] at hwalk
  refine hwalk.mono fun e W' ⟨he, bel⟩ => ?_
  subst he
  exact ⟨_, rfl, _, _, _, [], _, [], hW', trodAll_mk1 (shut_bool Try.underlying4 _), (trodAll_cons_mk (Below.trod reasmOnly_laid (by kernel_rfl) (of_decide_eq_true (by kernel_rfl)) k0 bel lt0) trodAll_mk0), rfl, bel.frame _, fun h => by cases h⟩

theorem reasmOnly_over : Rows.reasmOnlyRow.holds Try.pinned (OpenSpec.ofChange Rows.reasmOnlySpec) :=
  OpenClaim.holds_of_wide 5 Try.f5 rfl rfl rfl rfl rfl rfl rfl ⟨rfl, rfl, rfl, rfl, rfl⟩ rfl rfl rfl rfl rfl (by kernel_rfl) Try.func5 (by kernel_rfl)
    (of_decide_eq_true (by kernel_rfl)) (by unfold Func.isWrapper; first | (rw [if_pos (by decide +kernel)]; kernel_rfl) | (rw [if_neg (by decide +kernel)]; exact ⟨rfl, rfl⟩))
    (fun os started H enc _ => reasmOnly_lifted os started H enc)

theorem reasmOnly_holds : Rows.ReasmOnlySaid := reasmOnly_over
#print axioms reasmOnly_holds
end Go.Proofs.Ytgdjcoodjdckkaa
