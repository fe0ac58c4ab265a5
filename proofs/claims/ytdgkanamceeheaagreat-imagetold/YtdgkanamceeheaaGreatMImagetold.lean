/- For every network, place and turn of a byte the law ImageTold answers true: an image of which one byte is another one is ErrSum. No conditions. -/
import Derived.Test.YtdgkanamceeheaaGreatRows
import Derived.Test.YtdgkanamceeheaaGreatM48
import Derived.WalkKit
import Derived.Handy
import Derived.Deep.RegionHeld3
import Derived.StillTailTactics
import Derived.ProofKit
import Derived.OpenShut
import Derived.ShutString
import Derived.ChangeOld
import Derived.Below
set_option linter.unusedVariables false
namespace Go.Proofs.YtdgkanamceeheaaGreat
open Go.ChangeShapes Go.WideShapes Go.ChangeAt Go.RowKit
open Go.ChangeMaps (open_string shut_string)
set_option linter.unusedVariables false

theorem imageTold_own : ownKnob Tryz.prog.godebug = none := by kernel_rfl
theorem imageTold_laid : laidOutB Tryz.prog = true := by kernel_rfl

set_option maxRecDepth 100000 in
set_option maxHeartbeats 8000000 in
theorem imageTold_walk {w : World} (c : Cx) (co : c.Ok) (ch : c.Held w) (ck : c.Caps) (at_ : Int) (hat : (Lit.int .i64 at_).wf = true) (turn : Int) (ht : (Lit.int .u8 turn).wf = true) (_w : World) :
    Calls Tryz.prog 6 #[c.val, .int .i64 at_, .int .u8 turn] w fun e w' => e = .returned (.bool true) ∧ Below w.heap.size w w' := by
  have hab := bounds_i64 hat
  have htb := bounds_u8 ht
  clear hat ht
  have HA := Lib.hid Im.awake_any
  have HF := Lib.hid (fun (w' : World) (hb : Below w.heap.size w w') => few_any c w' (ch.below hb) ⟨co.2.1, co.2.2.2.2.1, co.2.2.2.2.2.2.1, co.2.2.2.2.2.2.2.2.1⟩)
  have HE := Lib.hid (fun (h : few c = true) (w' : World) (hb : Below w.heap.size w w') => Im.Encode_any c (Im.few_im co h) w' (ch.below hb))
  have HTD := Lib.hid (fun (h : few c = true) => Im.load_told c (Im.few_im co h))
  have HLN := Lib.hid (fun (h : few c = true) (l : List UInt8) (he : PitotImg.encode c.pl = .ok l) => Im.enc_len (Im.few_im co h) he)
  obtain ⟨ER, hER⟩ : ∃ r, PitotImg.encode c.pl = r := ⟨_, rfl⟩
  have hEE : Im.encRes c = Im.encV ER := by rw [← hER]; rfl
  rw [hEE] at HE
  rw [hER] at HTD HLN
  have HEN : Hid (∀ k, ER = .error k → k ≠ 0) := fun k h => Im.enc_err (hER.trans h)
  clear hEE hER ch ck co
  generalize few c = fw at HF HE HTD HLN
  obtain ⟨hosts, pA, pc, parts, major, wA, wk, wins, vA, vc, vls, qA, qc, ports⟩ := c
  simp only [Cx.val] at HF HE ⊢
  generalize wins.length = wl, parts.length = pl, vls.length = vl, ports.length = ql at HF HE ⊢
  have CB0 : Hid ((w.alloc (.cells #[.int .i64 hosts, .slice pA pl pc, .int .i64 major, .slice wA wl wk, .slice vA vl vc, .slice qA ql qc] 28)).heap[w.heap.size]? = some (.cells #[.int .i64 hosts, .slice pA pl pc, .int .i64 major, .slice wA wl wk, .slice vA vl vc, .slice qA ql qc] 28)) := heap_alloc_new w _
  have BB0 : Hid (Below w.heap.size w (w.alloc (.cells #[.int .i64 hosts, .slice pA pl pc, .int .i64 major, .slice wA wl wk, .slice vA vl vc, .slice qA ql qc] 28))) := (Below.refl _ w).alloc (Nat.le_refl _) _
  go_enter Tryz.func6, Tryz.ntmps6
  go_upto_region 1 with (fail)
  have CB := CB0
  have BB := BB0
  clear CB0 BB0
  generalize w.alloc (.cells #[.int .i64 hosts, .slice pA pl pc, .int .i64 major, .slice wA wl wk, .slice vA vl vc, .slice qA ql qc] 28) = Wi at CB BB ⊢
  obtain ⟨c0, c1, c2, c3, c4, c5⟩ := cells_6 CB.out
  cases fw
  · go_wp2_with (first
      | (go_at_call 11; (with_reducible refine (HF.out _ BB.out).mono ?_); rintro e w2 ⟨rfl, hb2⟩
         (have CX := Lib.hid (lies_below CB.out hb2 (lies_lt CB.out)))
         (have BX := Lib.hid (BB.out.trans (hb2.mono BB.out.size)))
         (clear hb2 CB BB c0 c1 c2 c3 c4 c5)
         (have CB := CX)
         (have BB := BX)
         (clear CX BX)
         (obtain ⟨c0, c1, c2, c3, c4, c5⟩ := cells_6 CB.out))
      | (go_at_call 7; (with_reducible refine (HA.out _).mono ?_); rintro e w2 ⟨rfl, hb2⟩
         (have CX := Lib.hid (lies_below CB.out hb2 (lies_lt CB.out)))
         (have BX := Lib.hid (BB.out.trans (hb2.mono BB.out.size)))
         (clear hb2 CB BB c0 c1 c2 c3 c4 c5)
         (have CB := CX)
         (have BB := BX)
         (clear CX BX)
         (obtain ⟨c0, c1, c2, c3, c4, c5⟩ := cells_6 CB.out)))
    go_returns
    exact ⟨rfl, BB.out⟩
  have HEW := Lib.hid (HE.out rfl)
  have HTDW := Lib.hid (HTD.out rfl)
  have HLNW := Lib.hid (HLN.out rfl)
  clear HE HTD HLN
  cases ER with
  | error k =>
    have hk := HEN.out k rfl
    have g1 : (k == 0) = false := by simpa using hk
    have g2 : (k != 0) = true := by simpa using hk
    have HEW2 : Hid (∀ (w' : World), Below w.heap.size w w' → Calls Tryz.prog 12 #[.agg #[.int .i64 hosts, .slice pA pl pc, .int .i64 major, .slice wA wl wk, .slice vA vl vc, .slice qA ql qc]] w' fun e w'' => e = .returned (.tuple #[.string ⟨#[]⟩, .int .i64 k]) ∧ Below w'.heap.size w' w'') := HEW.out
    clear HEW HTDW HLNW HEN hk
    go_wp2_with (first
    | (go_at_call 11; (with_reducible refine (HF.out _ BB.out).mono ?_); rintro e w2 ⟨rfl, hb2⟩
       (have CX := Lib.hid (lies_below CB.out hb2 (lies_lt CB.out)))
       (have BX := Lib.hid (BB.out.trans (hb2.mono BB.out.size)))
       (clear hb2 CB BB c0 c1 c2 c3 c4 c5)
       (have CB := CX)
       (have BB := BX)
       (clear CX BX)
       (obtain ⟨c0, c1, c2, c3, c4, c5⟩ := cells_6 CB.out))
    | (go_at_call 12; (with_reducible refine (HEW2.out _ BB.out).mono ?_); rintro e w2 ⟨rfl, hb2⟩
       (have CX := Lib.hid (lies_below CB.out hb2 (lies_lt CB.out)))
       (have BX := Lib.hid (BB.out.trans (hb2.mono BB.out.size)))
       (clear hb2 CB BB c0 c1 c2 c3 c4 c5)
       (have CB := CX)
       (have BB := BX)
       (clear CX BX)
       (obtain ⟨c0, c1, c2, c3, c4, c5⟩ := cells_6 CB.out))
    | (go_at_call 7; (with_reducible refine (HA.out _).mono ?_); rintro e w2 ⟨rfl, hb2⟩
       (have CX := Lib.hid (lies_below CB.out hb2 (lies_lt CB.out)))
       (have BX := Lib.hid (BB.out.trans (hb2.mono BB.out.size)))
       (clear hb2 CB BB c0 c1 c2 c3 c4 c5)
       (have CB := CX)
       (have BB := BX)
       (clear CX BX)
       (obtain ⟨c0, c1, c2, c3, c4, c5⟩ := cells_6 CB.out)))
    go_returns
    exact ⟨rfl, BB.out⟩
  | ok l =>
    have HEW2 : Hid (∀ (w' : World), Below w.heap.size w w' → Calls Tryz.prog 12 #[.agg #[.int .i64 hosts, .slice pA pl pc, .int .i64 major, .slice wA wl wk, .slice vA vl vc, .slice qA ql qc]] w' fun e w'' => e = .returned (.tuple #[.string ⟨l.toArray⟩, .int .i64 0]) ∧ Below w'.heap.size w' w'') := HEW.out
    have hz0 := HLNW.out l rfl
    have HTD := Lib.hid (HTDW.out l rfl)
    clear HEW HTDW HLNW HEN
    obtain ⟨B, HB⟩ : ∃ B : ByteArray, Hid (B = ⟨l.toArray⟩) := ⟨_, Lib.hid rfl⟩
    rw [← HB.out] at HEW2
    have hBs0 : B.size = l.length := by rw [HB.out]; exact Bi.size_list l
    obtain ⟨z, hz⟩ : ∃ z, l.length = z := ⟨_, rfl⟩
    have hBs : B.size = z := hBs0.trans hz
    have hz1 : z ≤ 90004 := by omega
    have hBl : B.data.toList = l := by rw [HB.out]
    have HHl := Lib.hid hz
    clear hBs0 hz0 hz
    by_cases h1 : at_ < 0
    · clear hBl
      go_wp2_with (first
    | (go_at_call 11; (with_reducible refine (HF.out _ BB.out).mono ?_); rintro e w2 ⟨rfl, hb2⟩
       (have CX := Lib.hid (lies_below CB.out hb2 (lies_lt CB.out)))
       (have BX := Lib.hid (BB.out.trans (hb2.mono BB.out.size)))
       (clear hb2 CB BB c0 c1 c2 c3 c4 c5)
       (have CB := CX)
       (have BB := BX)
       (clear CX BX)
       (obtain ⟨c0, c1, c2, c3, c4, c5⟩ := cells_6 CB.out))
    | (go_at_call 12; (with_reducible refine (HEW2.out _ BB.out).mono ?_); rintro e w2 ⟨rfl, hb2⟩
       (have CX := Lib.hid (lies_below CB.out hb2 (lies_lt CB.out)))
       (have BX := Lib.hid (BB.out.trans (hb2.mono BB.out.size)))
       (clear hb2 CB BB c0 c1 c2 c3 c4 c5)
       (have CB := CX)
       (have BB := BX)
       (clear CX BX)
       (obtain ⟨c0, c1, c2, c3, c4, c5⟩ := cells_6 CB.out))
    | (go_at_call 7; (with_reducible refine (HA.out _).mono ?_); rintro e w2 ⟨rfl, hb2⟩
       (have CX := Lib.hid (lies_below CB.out hb2 (lies_lt CB.out)))
       (have BX := Lib.hid (BB.out.trans (hb2.mono BB.out.size)))
       (clear hb2 CB BB c0 c1 c2 c3 c4 c5)
       (have CB := CX)
       (have BB := BX)
       (clear CX BX)
       (obtain ⟨c0, c1, c2, c3, c4, c5⟩ := cells_6 CB.out)))
      go_returns
      exact ⟨rfl, BB.out⟩
    by_cases h2 : (z : Int) ≤ at_
    · clear hBl
      go_wp2_with (first
    | (go_at_call 11; (with_reducible refine (HF.out _ BB.out).mono ?_); rintro e w2 ⟨rfl, hb2⟩
       (have CX := Lib.hid (lies_below CB.out hb2 (lies_lt CB.out)))
       (have BX := Lib.hid (BB.out.trans (hb2.mono BB.out.size)))
       (clear hb2 CB BB c0 c1 c2 c3 c4 c5)
       (have CB := CX)
       (have BB := BX)
       (clear CX BX)
       (obtain ⟨c0, c1, c2, c3, c4, c5⟩ := cells_6 CB.out))
    | (go_at_call 12; (with_reducible refine (HEW2.out _ BB.out).mono ?_); rintro e w2 ⟨rfl, hb2⟩
       (have CX := Lib.hid (lies_below CB.out hb2 (lies_lt CB.out)))
       (have BX := Lib.hid (BB.out.trans (hb2.mono BB.out.size)))
       (clear hb2 CB BB c0 c1 c2 c3 c4 c5)
       (have CB := CX)
       (have BB := BX)
       (clear CX BX)
       (obtain ⟨c0, c1, c2, c3, c4, c5⟩ := cells_6 CB.out))
    | (go_at_call 7; (with_reducible refine (HA.out _).mono ?_); rintro e w2 ⟨rfl, hb2⟩
       (have CX := Lib.hid (lies_below CB.out hb2 (lies_lt CB.out)))
       (have BX := Lib.hid (BB.out.trans (hb2.mono BB.out.size)))
       (clear hb2 CB BB c0 c1 c2 c3 c4 c5)
       (have CB := CX)
       (have BB := BX)
       (clear CX BX)
       (obtain ⟨c0, c1, c2, c3, c4, c5⟩ := cells_6 CB.out)))
      go_returns
      exact ⟨rfl, BB.out⟩
    by_cases h3 : turn = 0
    · subst h3
      clear hBl
      go_wp2_with (first
    | (go_at_call 11; (with_reducible refine (HF.out _ BB.out).mono ?_); rintro e w2 ⟨rfl, hb2⟩
       (have CX := Lib.hid (lies_below CB.out hb2 (lies_lt CB.out)))
       (have BX := Lib.hid (BB.out.trans (hb2.mono BB.out.size)))
       (clear hb2 CB BB c0 c1 c2 c3 c4 c5)
       (have CB := CX)
       (have BB := BX)
       (clear CX BX)
       (obtain ⟨c0, c1, c2, c3, c4, c5⟩ := cells_6 CB.out))
    | (go_at_call 12; (with_reducible refine (HEW2.out _ BB.out).mono ?_); rintro e w2 ⟨rfl, hb2⟩
       (have CX := Lib.hid (lies_below CB.out hb2 (lies_lt CB.out)))
       (have BX := Lib.hid (BB.out.trans (hb2.mono BB.out.size)))
       (clear hb2 CB BB c0 c1 c2 c3 c4 c5)
       (have CB := CX)
       (have BB := BX)
       (clear CX BX)
       (obtain ⟨c0, c1, c2, c3, c4, c5⟩ := cells_6 CB.out))
    | (go_at_call 7; (with_reducible refine (HA.out _).mono ?_); rintro e w2 ⟨rfl, hb2⟩
       (have CX := Lib.hid (lies_below CB.out hb2 (lies_lt CB.out)))
       (have BX := Lib.hid (BB.out.trans (hb2.mono BB.out.size)))
       (clear hb2 CB BB c0 c1 c2 c3 c4 c5)
       (have CB := CX)
       (have BB := BX)
       (clear CX BX)
       (obtain ⟨c0, c1, c2, c3, c4, c5⟩ := cells_6 CB.out)))
      go_returns
      exact ⟨rfl, BB.out⟩
    obtain ⟨j, rfl⟩ := Int.eq_ofNat_of_zero_le (show 0 ≤ at_ by omega)
    have hj : j < z := by omega
    obtain ⟨t, rfl⟩ := Int.eq_ofNat_of_zero_le htb.1
    have ht0 : ((t : Int) == 0) = false := by simp; omega
    have ht1 : t ≤ 255 := by omega
    have ht2 : ¬ t = 0 := by omega
    obtain ⟨C, h0⟩ := Classical.skolem.1 (fun w => Im.bytes_of B z hBs (by omega) w)
    obtain ⟨V, hall⟩ := Classical.skolem.1 h0
    clear h0
    have hjl : j < l.length := by rw [HHl.out]; exact hj
    have hcell' : ∀ w2 i (h : i < l.length), (V w2).cell? ⟨w2.heap.size, i, none⟩ = some (.int .u8 (l[i]).toNat) := by
      intro w2 i hi
      have := (hall w2).2.1 i (by rw [hBl]; exact hi)
      rw [this]
      simp only [hBl]
    obtain ⟨x, hx⟩ : ∃ x, x = l[j] := ⟨_, rfl⟩
    have hx8 := x.toNat_lt
    have cc1 := fun w2 => hcell' w2 j hjl
    rw [← hx] at cc1
    have ff1 := fun w2 => (hall w2).2.2.1 j hj
    have hcv := fun w2 => (hall w2).1
    have HV : Hid (∀ w2, Below w2.heap.size w2 (V w2)) := fun w2 => (hall w2).2.2.2.1
    have hxt : x.toNat ^^^ t < 256 := Nat.xor_lt_two_pow (n := 8) hx8 (by omega)
    have ex : bits .xor .u8 (x.toNat : Int) (t : Int) = ((x.toNat ^^^ t : Nat) : Int) := u8_xor_nat _ _ hx8 (by omega)
    have hv : (UInt8.ofNat (x.toNat ^^^ t)).toNat = x.toNat ^^^ t := by rw [UInt8.toNat_ofNat']; omega
    have hne : UInt8.ofNat (x.toNat ^^^ t) ≠ x := by
      intro e
      have e2 := congrArg UInt8.toNat e
      rw [hv] at e2
      apply ht2
      have e3 := congrArg (fun y => x.toNat ^^^ y) e2
      simpa [← Nat.xor_assoc] using e3
    have hbk := fun w2 => Im.bytes_back (V w2) w2.heap.size j (C w2) z l HHl.out (UInt8.ofNat (x.toNat ^^^ t)) ((x.toNat ^^^ t : Nat) : Int) (by rw [hv]) hj (hcell' w2)
    have hop := fun w => HTD.out j hjl (UInt8.ofNat (x.toNat ^^^ t)) (by rw [← hx]; exact hne) w
    obtain ⟨T, HT⟩ : ∃ T, Hid (T = (⟨(l.set j (UInt8.ofNat (x.toNat ^^^ t))).toArray⟩ : ByteArray)) := ⟨_, rfl⟩
    rw [← HT.out] at hop
    simp only [← HT.out] at hbk
    have HOP := Lib.hid hop
    obtain ⟨y, Hy⟩ : ∃ y, Hid (y = x.toNat ^^^ t) := ⟨_, rfl⟩
    rw [← Hy.out] at ex
    simp only [← Hy.out] at hbk
    clear hop hne hv hxt hcell' hx hBl hall HTD hjl
    have hzc := Im.zero_cf
    go_wp2_with (first
      | (go_at_call 11; (with_reducible refine (HF.out _ BB.out).mono ?_); rintro e w2 ⟨rfl, hb2⟩
         (have CX := Lib.hid (lies_below CB.out hb2 (lies_lt CB.out)))
         (have BX := Lib.hid (BB.out.trans (hb2.mono BB.out.size)))
         (clear hb2 CB BB c0 c1 c2 c3 c4 c5)
         (have CB := CX)
         (have BB := BX)
         (clear CX BX)
         (obtain ⟨c0, c1, c2, c3, c4, c5⟩ := cells_6 CB.out))
      | (go_at_call 12; (with_reducible refine (HEW2.out _ BB.out).mono ?_); rintro e w2 ⟨rfl, hb2⟩
         (have CX := Lib.hid (lies_below CB.out hb2 (lies_lt CB.out)))
         (have BX := Lib.hid (BB.out.trans (hb2.mono BB.out.size)))
         (clear hb2 CB BB c0 c1 c2 c3 c4 c5)
         (have CB := CX)
         (have BB := BX)
         (clear CX BX)
         (obtain ⟨c0, c1, c2, c3, c4, c5⟩ := cells_6 CB.out))
      | (go_at_call 7; (with_reducible refine (HA.out _).mono ?_); rintro e w5 ⟨rfl, hb5⟩)
      | (go_at_call 8; (with_reducible refine (HOP.out _).mono ?_); rintro r w3 ⟨rfl, hb3⟩))
    go_returns
    have k3 := BB.out.trans ((HV.out w2).mono BB.out.size)
    have k4 := k3.setCell (p := ⟨w2.heap.size, j, none⟩) BB.out.size (.int .u8 (y : Nat))
    have k5 := k4.trans (hb3.mono k4.size)
    have k6 := k5.alloc k5.size (.cells #[.int .i64 0, .slice none 0 0, .int .i64 0, .slice none 0 0, .slice none 0 0, .slice none 0 0] 28)
    exact ⟨rfl, k6.trans (hb5.mono k6.size)⟩


set_option maxRecDepth 100000 in
theorem imageTold_lifted (os : Os) (started : os.Started) (H : Type) (enc : TypeId × Value → H) :
    ReturnsInHanded {} Tryz.checked os 6 .any (Rows.imageToldSpec.pre6 enc Tryz.prog Tryz.f6 Rows.imageToldRow.domain false) (Rows.imageToldSpec.post enc Tryz.prog Tryz.f6 false true false false) := by
  refine returnsInHanded_of_change (C := Tryz.checked) imageTold_own started (by kernel_rfl) Tryz.func6
    (ChangeSpec.witness6 (enc := enc) (C := Tryz.checked) false ⟨#[], #[.agg #[.int .i64 0, .slice none 0 0, .int .i64 0, .slice none 0 0, .slice none 0 0, .slice none 0 0], .int .i64 0, .int .u8 0], []⟩ 8 (by kernel_rfl) (by kernel_rfl) (by kernel_rfl) (by kernel_rfl)) ?_
  intro W base args ds gs before hval0 hW hcnd _
  have hval : ∀ (j : Nat) t v, Tryz.f6.params[j]? = some t → args[j]? = some v → Value.okWide Tryz.prog W .any base t v := hval0
  have hW' := hW
  obtain ⟨p, q, hA0, hV, rfl, hfz, hnd⟩ := hW
  have hA : DataW.TrodAll enc Tryz.prog W 0 (fun _ => true) true Tryz.f6.params.toList args.toList ds p := hA0
  rw [Tryz.params6] at hA hval
  obtain ⟨v0, vs0, d0, ds0, p0, q0, hargs, rfl, rfl, h0, r0⟩ := trodAll_cons hA
  obtain ⟨v1, vs1, d1, ds1, p1, q1, rfl, rfl, rfl, h1, r1⟩ := trodAll_cons r0
  obtain ⟨v2, vs2, d2, ds2, p2, q2, rfl, rfl, rfl, h2, r2⟩ := trodAll_cons r1
  obtain ⟨rfl, rfl, rfl⟩ := trodAll_nil r2
  obtain rfl : args = #[v0, v1, v2] := by cases args; simp_all
  obtain ⟨rfl, rfl⟩ := trodVars_none hV
  have k0 := h0
  have lt0 : ∀ x ∈ p0, x.block < W.heap.size := by obtain ⟨m, hm⟩ := k0; exact DataW.trod_lt m _ _ _ hm
  obtain ⟨fu0, hf0⟩ := h0
  obtain ⟨c0, co0, ch0, ck0, rfl⟩ := Cx_open2 (hval 0 28 v0 rfl rfl) hf0
  obtain ⟨a1, rfl, rfl, rfl, w1⟩ := open_int Tryz.underlying3 (hval 1 3 v1 rfl rfl) h1
  obtain ⟨a2, rfl, rfl, rfl, w2⟩ := open_int Tryz.underlying5 (hval 2 5 v2 rfl rfl) h2
  clear hA0 hval0
  have hwalk := imageTold_walk c0 co0 ch0 ck0 a1 w1 a2 w2 W

  refine hwalk.mono fun e W' ⟨he, bel⟩ => ?_
  subst he
  exact ⟨_, rfl, _, _, _, [], _, [], hW', trodAll_mk1 (shut_bool Tryz.underlying4 _), (trodAll_cons_mk (Below.trod imageTold_laid (by kernel_rfl) (of_decide_eq_true (by kernel_rfl)) k0 bel lt0) (trodAll_cons_mk (shut_int Tryz.underlying3 w1) (trodAll_cons_mk (shut_int Tryz.underlying5 w2) trodAll_mk0))), rfl, bel.frame _, fun h => by cases h⟩

theorem imageTold_over : Rows.imageToldRow.holds Tryz.pinned (OpenSpec.ofChange Rows.imageToldSpec) :=
  OpenClaim.holds_of_wide 6 Tryz.f6 rfl rfl rfl rfl rfl rfl rfl ⟨rfl, rfl, rfl, rfl, rfl⟩ rfl rfl rfl rfl rfl (by kernel_rfl) Tryz.func6 (by kernel_rfl)
    (of_decide_eq_true (by kernel_rfl)) (by unfold Func.isWrapper; first | (rw [if_pos (by decide +kernel)]; kernel_rfl) | (rw [if_neg (by decide +kernel)]; exact ⟨rfl, rfl⟩))
    (fun os started H enc _ => imageTold_lifted os started H enc)

theorem imageTold_holds : Rows.ImageToldSaid := imageTold_over
#print axioms imageTold_holds
end Go.Proofs.YtdgkanamceeheaaGreat
