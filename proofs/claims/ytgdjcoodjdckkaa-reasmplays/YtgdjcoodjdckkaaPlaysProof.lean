/- For every room, wait and calls the law ReasmPlays answers true: the program's table answers each call as the document's, and has the same packets begun. No conditions. -/
import Derived.Test.YtgdjcoodjdckkaaRows
import Derived.Test.YtgdjcoodjdckkaaM20
import Derived.Test.YtgdjcoodjdckkaaM21
import Derived.Test.YtgdjcoodjdckkaaM15
import Derived.WalkKit
import Derived.Deep.RegionHeld3
import Derived.Deep.CutRange
import Derived.StillTailTactics
import Derived.ProofKit
import Derived.OpenShut
import Derived.ShutString
import Derived.ChangeOld
import Derived.Below
set_option linter.unusedVariables false
namespace Go.Proofs.Ytgdjcoodjdckkaa
open Go.ChangeShapes Go.WideShapes Go.ChangeAt Go.RowKit
open Go.ChangeMaps (open_string shut_string)
set_option linter.unusedVariables false

theorem reasmPlays_own : ownKnob Try.prog.godebug = none := by kernel_rfl
theorem reasmPlays_laid : laidOutB Try.prog = true := by kernel_rfl


open Go.Proofs.PitotIp Go.Maps
open Go.Proofs.PitotReasm (Bg Tb Fine bad first next passed passE put keep)
open Go.Proofs.Ytgdjcoodjdckkaa.Bi (lies_lt lies_cell lies_frozen lies_alloc lies_set)
set_option maxRecDepth 100000 in
set_option maxHeartbeats 4000000 in
theorem plays_bad (most wait : Int) (Ad : Option Addr) (cap : Nat) (l : List Oq) (w : World) (h : most < 1 ∨ 64 < most ∨ wait < 0 ∨ 1125899906842624 < wait) : Calls Try.prog 3 #[.int .i64 most, .int .i64 wait, .slice Ad l.length cap] w fun e w' => e = .returned (.bool true) ∧ Below w.heap.size w w' := by
  have HA := Lib.hid awake_any
  have H9 := Lib.hid (fun w => new_bad w most wait h)
  have H10 := Lib.hid (fun w => refNew_bad w most wait h)
  clear h
  go_enter Try.func3, Try.ntmps3
  go_wp2_with (first
    | (go_at_call 9; (with_reducible refine (H9.out _).mono ?_); rintro e w1 ⟨rfl, rfl⟩)
    | (go_at_call 10; (with_reducible refine (H10.out _).mono ?_); rintro e w2 ⟨rfl, rfl⟩)
    | (go_at_call 11; (with_reducible refine (HA.out _).mono ?_); rintro e w3 ⟨rfl, hb3⟩))
  go_returns
  exact ⟨rfl, hb3⟩

set_option maxRecDepth 100000 in
set_option maxHeartbeats 4000000 in
theorem plays_ok (most : Nat) (wait : Int) (Ad : Option Addr) (cap : Nat) (l : List Oq) (w : World) (hx : OqsAt w Ad l) (hz : ∀ o ∈ l, o.p.s.size ≤ maxLen ∧ o.p.Wf ∧ (Lit.int .i64 o.now).wf = true) (h1 : 1 ≤ most) (h2 : most ≤ 64) (h3 : 0 ≤ wait) (h4 : wait ≤ 1125899906842624) : Calls Try.prog 3 #[.int .i64 most, .int .i64 wait, .slice Ad l.length cap] w fun e w' => e = .returned (.bool true) ∧ Below w.heap.size w w' := by
  have HA := Lib.hid awake_any
  have HX := Lib.hid hx; have HZ := Lib.hid hz
  have H9 := Lib.hid (fun w => new_ok w most wait h1 h2 h3 h4)
  have H10 := Lib.hid (fun w => refNew_ok w most wait h1 h2 h3 h4)
  obtain ⟨n, Hn⟩ : ∃ n, Hid (l.length = n) := ⟨_, rfl⟩
  rw [Hn.out]
  clear hx hz
  obtain ⟨B, HB⟩ : ∃ B, Hid (w.heap.size = B) := ⟨_, rfl⟩
  go_enter Try.func3, Try.ntmps3
  go_upto_region 7 with (first
    | (go_at_call 9; (with_reducible refine (H9.out _).mono ?_); rintro e V1 ⟨tp, rfl, hT1, hb1⟩)
    | (go_at_call 10; (with_reducible refine (H10.out _).mono ?_); rintro e V2 ⟨rp, rfl, hR2, hb2⟩))
  have T2 : Hid (Two B V2 tp rp most wait [] 0 0) := ⟨by rw [← HB.out]; exact hT1.below hb2, (hR2.mono (by have := hb1.size; rw [← HB.out]; exact this)), good_new most⟩
  have B2 : Hid (Below w.heap.size w V2) := hb1.trans (hb2.mono hb1.size)
  clear hT1 hb1 hR2 hb2
  go_wp2
  go_loopw [11] (fun v11 wr => ∃ (i : Nat) (L : List Rb) (now : Int) (d : Nat), i ≤ n ∧ i ≤ 100 ∧ v11 = .int .i64 i ∧ Two B wr tp rp most wait L now d ∧ d ≤ i * 128 ∧ Below w.heap.size w wr) (fun v11 _ => n - (intOf v11).toNat)
  case atStart => exact ⟨0, [], 0, 0, Nat.zero_le _, by omega, rfl, T2.out, Nat.zero_le _, B2.out⟩
  case round =>
    obtain ⟨i, L, now, d, hi, hi1, rfl, hT, hd, hb⟩ := hrel
    have hT := Lib.hid hT; have hb := Lib.hid hb
    by_cases hin : i < n
    · have iInt : decide ((i : Int) < (n : Int)) = true := decide_eq_true (by omega)
      have iInt' : (i : Int) < (n : Int) := by omega
      by_cases h100 : i < 100
      · have i100 : decide ((i : Int) < 100) = true := decide_eq_true (by omega)
        have i100' : decide (i < 100) = true := decide_eq_true h100
        have iIn' : decide (i < n) = true := decide_eq_true hin
        have hil : i < l.length := by rw [Hn.out]; exact hin
        obtain ⟨b', off', rfl, hbl, hat⟩ := HX.out.get hil
        have hxz := HZ.out _ (List.getElem_mem hil)
        have hat := hat.below hb.out hbl
        generalize l[i] = x at hat hxz
        have HI : Hid (b' < w.heap.size) := hbl
        obtain ⟨a0, a1, a2, a3, a4, a5, a6, a7, a8, a9, a10, a11, a12, a13, a14, a15⟩ := hat
        have hbs := hb.out.size
        have T0 : Hid (Two B (wr.alloc x.obj) tp rp most wait L now d) := hT.out.below ((Below.refl _ wr).alloc (Nat.le_refl _) _)
        have O0 : Hid ((wr.alloc x.obj).heap[wr.heap.size]? = some x.obj) := heap_alloc_new wr _
        have B0 : Hid (Below w.heap.size w (wr.alloc x.obj)) := hb.out.alloc hb.out.size _
        go_upto_region 11 with (fail)
        clear a0 a1 a2 a3 a4 a5 a6 a7 a8 a9 a10 a11 a12 a13 a14 a15
        generalize wr.alloc x.obj = W1 at T0 O0 B0 ⊢
        generalize wr.heap.size = ob at O0 ⊢
        have o15 : W1.cell? ⟨ob, 15, none⟩ = some (.string x.p.s) := lies_cell O0.out 15
        have o0 : W1.cell? ⟨ob, 0, none⟩ = some (.bool x.pass) := lies_cell O0.out 0
        by_cases hbig : 9000 < x.p.s.size
        · go_wp2_with (first
            | (go_at_call 11; (with_reducible refine (HA.out _).mono ?_); rintro e w4 ⟨rfl, hb4⟩))
          go_returns
          exact ⟨rfl, B0.out.trans (hb4.mono B0.out.size)⟩
        · have HBw : Hid (B ≤ w.heap.size) := Nat.le_of_eq HB.out.symm
          have HBw2 : Hid (w.heap.size ≤ B) := Nat.le_of_eq HB.out
          go_upto_if 68 with (fail)
          clear o15
          go_cut [13, 14, 15, 16, 17, 18] from 47 to 172 (fun v13 v14 v15 v16 v17 v18 wc => ∃ (L' : List Rb) (now' : Int) (d' : Nat), Two B wc tp rp most wait L' now' d' ∧ d' ≤ d + 128 ∧ Below w.heap.size w wc)
          case first =>
            cases hps : x.pass
            case true =>
              rw [hps] at o0
              have Hps := Lib.hid hps; clear hps
              obtain ⟨E, L', now', d', hd', hGd, hPA, hPR⟩ := two_pass T0.out h2 (by omega) h3 h4 x.now
              have HPA := Lib.hid hPA; have HPR := Lib.hid hPR
              have T1 : Hid (TabAt B W1.drew tp most wait (tbl L now d)) := T0.out.tab.drewN 1
              have R1 : Hid (RefAt B W1.drew rp most wait L now d) := T0.out.ref.below ((Below.refl _ W1).drew)
              have O1 : Hid (W1.drew.heap[ob]? = some x.obj) := O0.out
              have B1 : Hid (Below w.heap.size w W1.drew) := B0.out.drew
              clear hPA hPR
              go_upto_region 14 with (fail)
              refine wp_region_held_drew (S := fun w' => w'.heap[ob]? = some x.obj) (by kernel_rfl) ?_ (fun hHeld => ?_)
              · exact O1.out
              refine wpAnyH_take (i := 0) (oi := { dst := some 69, op := Go.Op.move (Go.Operand.tmp 7), type := 23, pos := "law.go:55", after := #[], guard := none }) (v := ?_) rfl (by kernel_rfl) (by kernel_rfl) (by kernel_rfl) (fun _ _ _ h => h) (Or.inl ⟨by rfl, ?_⟩) (by assumption) ?_
              rotate_left
              focus ((intro w hSw; (try dsimp only at hSw); clear hSw; go_simp) <;> (with_reducible rfl))
              try simp only [Act.put, List.setIfInBounds_toArray, List.set_cons_zero, List.set_cons_succ]
              refine wpAnyH_take (i := 1) (oi := { dst := some 70, op := Go.Op.fieldAddr 36 (Go.Operand.tmp 12) 1, type := 0, pos := "law.go:55", after := #[], guard := none }) (v := ?_) rfl (by kernel_rfl) (by kernel_rfl) (by kernel_rfl) (fun _ _ _ h => h) (Or.inl ⟨by rfl, ?_⟩) (by assumption) ?_
              rotate_left
              focus ((intro w hSw; (try dsimp only at hSw); clear hSw; go_simp) <;> (with_reducible rfl))
              try simp only [Act.put, List.setIfInBounds_toArray, List.set_cons_zero, List.set_cons_succ]
              refine wpAnyH_take (i := 2) (oi := { dst := some 71, op := Go.Op.load 3 (Go.Operand.tmp 70), type := 3, pos := "law.go:55", after := #[{ on := 1, ground := Go.Ground.data }], guard := none }) (v := ?_) rfl (by kernel_rfl) (by kernel_rfl) (by kernel_rfl) (fun _ _ _ h => h) (Or.inl ⟨by rfl, ?_⟩) (by assumption) ?_
              rotate_left
              focus ((intro w hSw; (try dsimp only at hSw); have hc : w.cell? ⟨ob, 1, none⟩ = some (.int .i64 x.now) := lies_cell hSw 1; clear hSw; go_simp) <;> (with_reducible rfl))
              try simp only [Act.put, List.setIfInBounds_toArray, List.set_cons_zero, List.set_cons_succ]
              refine wpAnyH_take (i := 4) (oi := { dst := some 73, op := Go.Op.move (Go.Operand.tmp 9), type := 27, pos := "law.go:55", after := #[], guard := none }) (v := ?_) rfl (by kernel_rfl) (by kernel_rfl) (by kernel_rfl) (fun _ _ _ h => h) (Or.inl ⟨by rfl, ?_⟩) (by assumption) ?_
              rotate_left
              focus ((intro w hSw; (try dsimp only at hSw); clear hSw; go_simp) <;> (with_reducible rfl))
              try simp only [Act.put, List.setIfInBounds_toArray, List.set_cons_zero, List.set_cons_succ]
              refine wpAnyH_take (i := 5) (oi := { dst := some 74, op := Go.Op.fieldAddr 36 (Go.Operand.tmp 12) 1, type := 0, pos := "law.go:55", after := #[], guard := none }) (v := ?_) rfl (by kernel_rfl) (by kernel_rfl) (by kernel_rfl) (fun _ _ _ h => h) (Or.inl ⟨by rfl, ?_⟩) (by assumption) ?_
              rotate_left
              focus ((intro w hSw; (try dsimp only at hSw); clear hSw; go_simp) <;> (with_reducible rfl))
              try simp only [Act.put, List.setIfInBounds_toArray, List.set_cons_zero, List.set_cons_succ]
              refine wpAnyH_take (i := 6) (oi := { dst := some 75, op := Go.Op.load 3 (Go.Operand.tmp 74), type := 3, pos := "law.go:55", after := #[{ on := 5, ground := Go.Ground.data }], guard := none }) (v := ?_) rfl (by kernel_rfl) (by kernel_rfl) (by kernel_rfl) (fun _ _ _ h => h) (Or.inl ⟨by rfl, ?_⟩) (by assumption) ?_
              rotate_left
              focus ((intro w hSw; (try dsimp only at hSw); have hc : w.cell? ⟨ob, 1, none⟩ = some (.int .i64 x.now) := lies_cell hSw 1; clear hSw; go_simp) <;> (with_reducible rfl))
              try simp only [Act.put, List.setIfInBounds_toArray, List.set_cons_zero, List.set_cons_succ]
              refine wpAnyH_ready (rs := [3]) (by kernel_rfl) (by simp) ?_
              refine AllReadyH.cons (o := { dst := some 72, op := Go.Op.call { callee := Go.Callee.value (Go.Operand.func 12), args := #[Go.Operand.tmp 69, Go.Operand.tmp 71], argTypes := #[23, 3] }, type := 24, pos := "law.go:55", after := #[{ on := 0, ground := Go.Ground.data }, { on := 2, ground := Go.Ground.data }], guard := none }) rfl (fun K hK => ?_) AllReadyH.nil
              go_simp
              (go_at_call 12; (with_reducible refine (HPA.out _ T1.out).mono ?_); rintro e Va ⟨rfl, hTa, hFa⟩; go_wp2_with fail)
              have TAVa := Lib.hid hTa; have RAVa := Lib.hid (RefAt.fr R1.out hFa); have OAVa := Lib.hid (fr_op O1.out hFa); have BAVa := Lib.hid hFa.below; clear hTa hFa
              refine hK.out _ _ ?_ (fun hHeld => ?_)
              · exact OAVa.out
              clear hK K
              try simp only [Act.put, List.setIfInBounds_toArray, List.set_cons_zero, List.set_cons_succ]
              refine wpAnyH_ready (rs := [7]) (by kernel_rfl) (by simp) ?_
              refine AllReadyH.cons (o := { dst := some 76, op := Go.Op.call { callee := Go.Callee.value (Go.Operand.func 13), args := #[Go.Operand.tmp 73, Go.Operand.tmp 75], argTypes := #[27, 3] }, type := 24, pos := "law.go:55", after := #[{ on := 4, ground := Go.Ground.data }, { on := 6, ground := Go.Ground.data }, { on := 3, ground := Go.Ground.chain }], guard := none }) rfl (fun K hK => ?_) AllReadyH.nil
              go_simp
              (go_at_call 13; (with_reducible refine (HPR.out _ RAVa.out).mono ?_); rintro e Vb ⟨rfl, hTa, hFa⟩; go_wp2_with fail)
              have RAVb := Lib.hid hTa; have TAVb := Lib.hid (TabAt.fq TAVa.out hFa); have OAVb := Lib.hid (fq_op OAVa.out hFa); have BAVb := Lib.hid hFa.below; clear hTa hFa
              refine hK.out _ _ ?_ (fun hHeld => ?_)
              · exact OAVb.out
              clear hK K
              try simp only [Act.put, List.setIfInBounds_toArray, List.set_cons_zero, List.set_cons_succ]
              refine wpAnyH_take (i := 8) (oi := { dst := some 77, op := Go.Op.binOp Go.BinOp.neq 24 (Go.Operand.tmp 72) (Go.Operand.tmp 76) 24, type := 4, pos := "law.go:55", after := #[{ on := 3, ground := Go.Ground.data }, { on := 7, ground := Go.Ground.data }], guard := none }) (v := ?_) rfl (by kernel_rfl) (by kernel_rfl) (by kernel_rfl) (fun _ _ _ h => h) (Or.inl ⟨by rfl, ?_⟩) (by assumption) ?_
              rotate_left
              focus ((intro w hSw; (try dsimp only at hSw); clear hSw; go_simp) <;> (with_reducible rfl))
              try simp only [Act.put, List.setIfInBounds_toArray, List.set_cons_zero, List.set_cons_succ]
              refine wpAnyH_done (by kernel_rfl) ?_ _
              clear hHeld
              go_wp2
              go_meet
              case rel =>
                refine ⟨_, _, _, ⟨TAVb.out, RAVb.out, hGd⟩, hd', ?_⟩
                have k2 := B1.out.trans (BAVa.out.mono HBw2.out)
                exact k2.trans (BAVb.out.mono HBw2.out)
            case false =>
              rw [hps] at o0
              have Hps := Lib.hid hps; clear hps
              obtain ⟨Z, is, E, id, m, off, ttl, pr, A2, B2, s2, T', hdr, hGd, hP, hPR, hPT⟩ := two_put2 T0.out h2 (by omega) h3 h4 x.now x.p hxz.2.1 (by omega)
              have HGd := Lib.hid hGd
              have HDD := Lib.hid hdr
              have HP := Lib.hid hP; have HPR := Lib.hid hPR; have HPT := Lib.hid hPT
              have HPF := Lib.hid (fun V => plain_false x.p.id x.p.m x.p.off x.p.ttl x.p.pr x.p.a x.p.b x.p.s V)
              clear hP hPR hPT hGd hdr
              have q1 : W1.cell? ⟨ob, 1, none⟩ = some (.int .i64 x.now) := lies_cell O0.out 1
              have q2 : W1.cell? ⟨ob, 2, none⟩ = some (.int .i64 x.p.id) := lies_cell O0.out 2
              have q3 : W1.cell? ⟨ob, 3, none⟩ = some (.bool x.p.m) := lies_cell O0.out 3
              have q4 : W1.cell? ⟨ob, 4, none⟩ = some (.int .i64 x.p.off) := lies_cell O0.out 4
              have q5 : W1.cell? ⟨ob, 5, none⟩ = some (.int .i64 x.p.ttl) := lies_cell O0.out 5
              have q6 : W1.cell? ⟨ob, 6, none⟩ = some (.int .i64 x.p.pr) := lies_cell O0.out 6
              have q7 : W1.cell? ⟨ob, 7, none⟩ = some (.int .u8 x.p.a.a.toNat) := lies_cell O0.out 7
              have q8 : W1.cell? ⟨ob, 8, none⟩ = some (.int .u8 x.p.a.b.toNat) := lies_cell O0.out 8
              have q9 : W1.cell? ⟨ob, 9, none⟩ = some (.int .u8 x.p.a.c.toNat) := lies_cell O0.out 9
              have q10 : W1.cell? ⟨ob, 10, none⟩ = some (.int .u8 x.p.a.d.toNat) := lies_cell O0.out 10
              have q11 : W1.cell? ⟨ob, 11, none⟩ = some (.int .u8 x.p.b.a.toNat) := lies_cell O0.out 11
              have q12 : W1.cell? ⟨ob, 12, none⟩ = some (.int .u8 x.p.b.b.toNat) := lies_cell O0.out 12
              have q13 : W1.cell? ⟨ob, 13, none⟩ = some (.int .u8 x.p.b.c.toNat) := lies_cell O0.out 13
              have q14 : W1.cell? ⟨ob, 14, none⟩ = some (.int .u8 x.p.b.d.toNat) := lies_cell O0.out 14
              have q15 : W1.cell? ⟨ob, 15, none⟩ = some (.string x.p.s) := lies_cell O0.out 15
              go_upto_region 17 with (first
                | (go_at_call 14; (with_reducible refine (HP.out _ T0.out.tab).mono ?_); rintro e Va ⟨rfl, hTa, hFa⟩
                   (have K0 : Hid (Bl B w (Va.alloc Z.obj) ob x Va.heap.size Z tp rp most wait T' L now d) := ⟨hTa.below ((Below.refl _ Va).alloc (Nat.le_refl _) _), (RefAt.fr T0.out.ref hFa).below ((Below.refl _ Va).alloc (Nat.le_refl _) _), lies_alloc (fr_op O0.out hFa) _, heap_alloc_new Va _, (B0.out.trans (hFa.below.mono HBw2.out)).alloc (B0.out.trans (hFa.below.mono HBw2.out)).size _⟩)
                   (clear hTa hFa)))
              clear q1 q2 q3 q4 q5 q6 q7 q8 q9 q10 q11 q12 q13 q14 q15
              generalize Va.alloc Z.obj = V1 at K0 ⊢
              generalize Va.heap.size = gp at K0 ⊢
              refine reg17 K0 HBw2 HPR (fun _ _ _ _ _ h => h) ?_
              intro gr L' now' d' wc hrel x89 x90 x91 x92 x93 x94 x95 x88 x96 x97 x98
              have HTT := Lib.hid hrel.1; have HZ := Lib.hid hrel.2.1; have K1 := Lib.hid hrel.2.2
              clear hrel K0
              go_upto_region 18 with (fail)
              refine reg18 K1 HZ HPT (fun _ _ _ _ _ h => h) ?_
              intro wd hK x99 x100 x101 x102 x103 x104 x105 x106 x107 x108 x109 x110 x111 x112 x113
              have K2 := Lib.hid hK
              clear hK K1 HZ
              go_wp2
              go_meet
              case rel =>
                have k := K2.out
                exact ⟨_, _, _, ⟨by rw [HTT.out]; exact k.tab, k.ref, by rw [HTT.out]; exact HGd.out⟩, by have := HDD.out; rw [← HTT.out] at this; exact this, k.bel⟩
          case rest =>
            obtain ⟨L', now', d', hT, hd', hB⟩ := hcut
            have HT2 := Lib.hid hT; have HB2 := Lib.hid hB
            have HD2 : Hid (d' ≤ (i + 1) * 128) := by show _ ≤ _; omega
            have hL64 : L'.length ≤ 64 := by
              have := hT.good.room
              have e : (tbl L' now' d').l.length = L'.length := by simp [tbl]
              omega
            clear hT hB T0 O0 B0 o0
            obtain ⟨m, Hm⟩ : ∃ m, Hid (L'.length = m) := ⟨_, rfl⟩
            rw [Hm.out] at hL64
            obtain ⟨dI, HdI⟩ : ∃ x : Int, Hid (((d' : Nat) : Int) = x) := ⟨_, rfl⟩
            have hKY : ∀ V, TabAt B V tp most wait (tbl L' now' d') → Calls Try.prog 17 #[.pointer (some ⟨tp, 0, none⟩)] V fun e V' => (∃ A c, e = .returned (.slice A m c) ∧ KsAt V' A (L'.map (·.k))) ∧ Below V.heap.size V V' := fun V hV => by
              have e : (tbl L' now' d').l.length = m := by rw [← Hm.out]; simp [tbl]
              have e2 : (tbl L' now' d').l.map (·.k) = L'.map (·.k) := by simp only [tbl, List.map_map]; rfl
              have := keys_any hV (by omega)
              rw [e, e2] at this
              exact this
            have hDR : ∀ V, TabAt B V tp most wait (tbl L' now' d') → Calls Try.prog 18 #[.pointer (some ⟨tp, 0, none⟩)] V fun e V' => e = .returned (.int .i64 dI) ∧ V' = V := fun V hV => by
              have := dropped_any hV
              rw [show (((tbl L' now' d').dr : Nat) : Int) = dI from HdI.out] at this
              exact this
            have HKY := Lib.hid hKY; have HDR := Lib.hid hDR
            clear hKY hDR
            go_upto_region 21 with (first
              | (go_at_call 17; (with_reducible refine (HKY.out _ HT2.out.tab).mono ?_); rintro e Vk ⟨⟨A, c, rfl, hks⟩, hbk⟩))
            obtain ⟨lv, hlv⟩ := HT2.out.ref.below hbk
            obtain ⟨A2, c2, rfl⟩ := ref_slice hlv
            rw [Hm.out] at hlv
            have I1 : Hid (In B Vk tp rp most wait L' now' d' A (.slice A2 m c2)) := ⟨HT2.out.tab.below hbk, hlv, hks⟩
            have B3 : Hid (Below w.heap.size w Vk) := HB2.out.trans (hbk.mono HB2.out.size)
            have TR : Hid (Vk.heap[rp]? = some (refC (.slice A2 m c2) most wait now' dI)) := by
              have := hlv.tab
              rw [HdI.out] at this
              exact this
            have TT : Hid (TabAt B Vk tp most wait (tbl L' now' d')) := I1.out.tab
            clear hbk hlv hks
            refine reg21 TT TR HDR (fun _ _ _ _ _ h => h) ?_
            intro wd hwd x117 x118 x119 x120 x121 x122 x123 x124 x125 x126 x127 x128 x129 x130 x131 x132
            have I2 : Hid (In B wd tp rp most wait L' now' d' A (.slice A2 m c2)) := by show In _ _ _ _ _ _ _ _ _ _ _; rw [hwd]; exact I1.out.below ((Below.refl _ Vk).drew)
            have B4 : Hid (Below w.heap.size w wd) := by show Below _ _ _; rw [hwd]; exact B3.out.drew
            clear hwd I1 B3 TR TT
            go_wp2
            go_loopw [20] (fun v20 wr => ∃ k : Nat, k ≤ m ∧ v20 = .int .i64 k ∧ Below wd.heap.size wd wr) (fun v20 _ => m - (intOf v20).toNat)
            case atStart => exact ⟨0, Nat.zero_le _, rfl, Below.refl _ _⟩
            case round =>
              obtain ⟨k, hk, rfl, hbi⟩ := hrel
              have HBI := Lib.hid hbi
              have I3 : Hid (In B wr tp rp most wait L' now' d' A (.slice A2 m c2)) := I2.out.below hbi
              clear hbi
              by_cases hkm : k < m
              · have hkI : decide ((k : Int) < (m : Int)) = true := decide_eq_true (by omega)
                have hkI' : decide (k < m) = true := decide_eq_true hkm
                have hkl : k < L'.length := by rw [Hm.out]; exact hkm
                obtain ⟨g, rfl, hg, hka⟩ := I3.out.key k hkl
                obtain ⟨o, cap2, e2, ho, hba⟩ := I3.out.rb k hkl
                injection e2 with e2 e3 e4
                subst e2; subst e4
                generalize L'[k] = rb at hka hba
                have HSA := Lib.hid (fun V => key_same rb V)
                have HKK := Lib.hid hka; have HBA := Lib.hid hba; have HG := Lib.hid hg; have HO := Lib.hid ho
                clear hka hba hg ho e3
                go_upto_region 26 with (fail)
                refine reg26 HKK HG hkm (fun _ _ _ _ _ h => h) ?_
                intro gx we hwe x140 x141 x142 x143 x144 x145 x146 x147 x148 x149 x150 x151 x152 x153 x154 x155 x156 x157 x158 x159 x160 x161
                have HX := Lib.hid hwe.1; have BE := Lib.hid hwe.2
                have TR : Hid (we.heap[rp]? = some (refC (.slice (some ⟨o, 0, none⟩) m c2) most wait now' dI)) := by
                  have := (I3.out.ref.below BE.out).tab
                  rw [HdI.out] at this
                  exact this
                have HBE : Hid (BAt we o (k * 10) rb) := HBA.out.below BE.out HO.out
                have HOE : Hid (o < we.heap.size) := Nat.lt_of_lt_of_le HO.out BE.out.size
                clear hwe
                go_upto_region 27 with (fail)
                refine reg27 HX TR HBE HOE hkm HSA (fun _ _ _ _ _ h => h) ?_
                intro wf hwf x162 x163 x164 x165 x166 x167 x168 x169 x170 x171
                have BF := Lib.hid hwf
                clear hwf
                go_wp2
                go_roundw
                case rel => exact ⟨k + 1, by omega, by go_num, (HBI.out.trans (BE.out.mono HBI.out.size)).trans (BF.out.mono (HBI.out.trans (BE.out.mono HBI.out.size)).size)⟩
                case measure => simp [intOf]; omega
              · have hkI : decide ((k : Int) < (m : Int)) = false := decide_eq_false (by omega)
                have hkI' : decide (k < m) = false := decide_eq_false hkm
                go_wp2
                go_roundw
                case rel => exact ⟨i + 1, L', now', d', by omega, by omega, by go_num, HT2.out.good |> fun gd => ⟨I3.out.tab, ⟨_, I3.out.ref⟩, gd⟩, HD2.out, B4.out.trans (HBI.out.mono B4.out.size)⟩
                case measure => simp [intOf]; omega
      · have i100 : decide ((i : Int) < 100) = false := decide_eq_false (by omega)
        have i100' : decide (i < 100) = false := decide_eq_false h100
        go_wp2_with (first
          | (go_at_call 11; (with_reducible refine (HA.out _).mono ?_); rintro e w4 ⟨rfl, hb4⟩))
        go_returns
        exact ⟨rfl, hb.out.trans (hb4.mono hb.out.size)⟩
    · have iInt : decide ((i : Int) < (n : Int)) = false := decide_eq_false (by omega)
      have iIn' : decide (i < n) = false := decide_eq_false hin
      go_wp2_with (first
        | (go_at_call 11; (with_reducible refine (HA.out _).mono ?_); rintro e w4 ⟨rfl, hb4⟩))
      go_returns
      exact ⟨rfl, hb.out.trans (hb4.mono hb.out.size)⟩

theorem reasmPlays_walk (most : Int) (_h1 : (Lit.int .i64 most).wf = true) (wait : Int) (_h2 : (Lit.int .i64 wait).wf = true) (Ad : Option Addr) (cap : Nat) (l : List Oq) {w0 : World} (hx : OqsAt w0 Ad l) (_hl : l.length ≤ maxLen) (hz : ∀ o ∈ l, o.p.s.size ≤ maxLen ∧ o.p.Wf ∧ (Lit.int .i64 o.now).wf = true) (w : World) (hww : w0 = w := by rfl) : Calls Try.prog 3 #[.int .i64 most, .int .i64 wait, .slice Ad l.length cap] w fun e w' => e = .returned (.bool true) ∧ Below w.heap.size w w' := by
  subst hww
  by_cases h : most < 1 ∨ 64 < most ∨ wait < 0 ∨ 1125899906842624 < wait
  · exact plays_bad most wait Ad cap l w0 h
  · obtain ⟨m, rfl⟩ : ∃ m : Nat, most = m := ⟨most.toNat, by omega⟩
    exact plays_ok m wait Ad cap l w0 hx hz (by omega) (by omega) (by omega) (by omega)


set_option maxRecDepth 100000 in
theorem reasmPlays_lifted (os : Os) (started : os.Started) (H : Type) (enc : TypeId × Value → H) :
    ReturnsInHanded {} Try.checked os 3 .any (Rows.reasmPlaysSpec.pre6 enc Try.prog Try.f3 Rows.reasmPlaysRow.domain false) (Rows.reasmPlaysSpec.post enc Try.prog Try.f3 false true false false) := by
  refine returnsInHanded_of_change (C := Try.checked) reasmPlays_own started (by kernel_rfl) Try.func3
    (ChangeSpec.witness6 (enc := enc) (C := Try.checked) false ⟨#[], #[.int .i64 0, .int .i64 0, .slice none 0 0], []⟩ 8 (by kernel_rfl) (by kernel_rfl) (by kernel_rfl) (by kernel_rfl)) ?_
  intro W base args ds gs before hval0 hW hcnd _
  have hval : ∀ (j : Nat) t v, Try.f3.params[j]? = some t → args[j]? = some v → Value.okWide Try.prog W .any base t v := hval0
  have hW' := hW
  obtain ⟨p, q, hA0, hV, rfl, hfz, hnd⟩ := hW
  have hA : DataW.TrodAll enc Try.prog W 0 (fun _ => true) true Try.f3.params.toList args.toList ds p := hA0
  rw [Try.params3] at hA hval
  obtain ⟨v0, vs0, d0, ds0, p0, q0, hargs, rfl, rfl, h0, r0⟩ := trodAll_cons hA
  obtain ⟨v1, vs1, d1, ds1, p1, q1, rfl, rfl, rfl, h1, r1⟩ := trodAll_cons r0
  obtain ⟨v2, vs2, d2, ds2, p2, q2, rfl, rfl, rfl, h2, r2⟩ := trodAll_cons r1
  obtain ⟨rfl, rfl, rfl⟩ := trodAll_nil r2
  obtain rfl : args = #[v0, v1, v2] := by cases args; simp_all
  obtain ⟨rfl, rfl⟩ := trodVars_none hV
  obtain ⟨a0, rfl, rfl, rfl, w0⟩ := open_int Try.underlying3 (hval 0 3 v0 rfl rfl) h0
  obtain ⟨a1, rfl, rfl, rfl, w1⟩ := open_int Try.underlying3 (hval 1 3 v1 rfl rfl) h1
  obtain ⟨c2, len2, cap2, rfl⟩ := okWide_slice Try.underlying22 (hval 2 22 v2 rfl rfl)
  have k2 := h2
  have lt2 : ∀ x ∈ p2, x.block < W.heap.size := by obtain ⟨m, hm⟩ := k2; exact DataW.trod_lt m _ _ _ hm
  obtain ⟨fu2, hf2⟩ := h2
  obtain ⟨Ad2, cap2, l2, e2, hx2, hl2, hz2⟩ := ops_open (v := .slice c2 len2 cap2) (by simpa [Value.cells] using hf2)
  clear hA0 hval0
  have hwalk := reasmPlays_walk a0 w0 a1 w1 Ad2 cap2 l2 hx2 hl2 hz2 W
  rw [← e2] at hwalk
  refine hwalk.mono fun e W' ⟨he, bel⟩ => ?_
  subst he
  exact ⟨_, rfl, _, _, _, [], _, [], hW', trodAll_mk1 (shut_bool Try.underlying4 _), (trodAll_cons_mk (shut_int Try.underlying3 w0) (trodAll_cons_mk (shut_int Try.underlying3 w1) (trodAll_cons_mk (Below.trod reasmPlays_laid (by kernel_rfl) (of_decide_eq_true (by kernel_rfl)) k2 bel lt2) trodAll_mk0))), rfl, bel.frame _, fun h => by cases h⟩

theorem reasmPlays_over : Rows.reasmPlaysRow.holds Try.pinned (OpenSpec.ofChange Rows.reasmPlaysSpec) :=
  OpenClaim.holds_of_wide 3 Try.f3 rfl rfl rfl rfl rfl rfl rfl ⟨rfl, rfl, rfl, rfl, rfl⟩ rfl rfl rfl rfl rfl (by kernel_rfl) Try.func3 (by kernel_rfl)
    (of_decide_eq_true (by kernel_rfl)) (by unfold Func.isWrapper; first | (rw [if_pos (by decide +kernel)]; kernel_rfl) | (rw [if_neg (by decide +kernel)]; exact ⟨rfl, rfl⟩))
    (fun os started H enc _ => reasmPlays_lifted os started H enc)

theorem reasmPlays_holds : Rows.ReasmPlaysSaid := reasmPlays_over
#print axioms reasmPlays_holds
end Go.Proofs.Ytgdjcoodjdckkaa
