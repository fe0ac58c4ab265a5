/- For every packet, place and turn of a byte the law Ipv4Told answers true: a packet of which one byte of the first twenty is another one is not taken for one. No conditions. -/
import Derived.Test.YtneiemaepdknjaaRows
import Derived.Test.YtneiemaepdknjaaEx
import Derived.Test.YtneiemaepdknjaaPo
import Derived.Test.YtneiemaepdknjaaEq
import Derived.WalkKit
import Derived.ProofKit
import Derived.OpenShut
import Derived.ShutString
import Derived.ChangeOld
import Derived.Below
namespace Go.Proofs.Ytneiemaepdknjaa
open Go.ChangeShapes Go.WideShapes Go.ChangeAt Go.RowKit
open Go.ChangeMaps (open_string shut_string)
set_option linter.unusedVariables false

theorem ipv4Told_own : ownKnob Try.prog.godebug = none := by kernel_rfl
theorem ipv4Told_laid : laidOutB Try.prog = true := by kernel_rfl


open Go.Proofs.PitotIp
theorem bytes_back (V : World) (g k C n : Nat) (l : List UInt8) (hn : l.length = n) (v : UInt8) (x : Int) (hx : x = v.toNat) (hk : k < n)
    (hcell : ∀ j (h : j < l.length), V.cell? ⟨g, j, none⟩ = some (.int .u8 (l[j]).toNat)) :
    (convert 41 9 (.slice (some ⟨g, 0, none⟩) n C)).run Try.prog (V.setCell ⟨g, k, none⟩ (.int .u8 x)) = .ok (.string ⟨(l.set k v).toArray⟩) (V.setCell ⟨g, k, none⟩ (.int .u8 x)) := by
  subst hx
  have h := run_convert_bytes_back (P := Try.prog) (V.setCell ⟨g, k, none⟩ (.int .u8 v.toNat)) 41 9 5 ⟨g, 0, none⟩ C (l.set k v) Try.underlying41 Try.underlying5 Try.underlying9 (fun j hj => by
    have hj' : j < l.length := by simpa using hj
    have e : (⟨g, 0, none⟩ : Addr).add j = ⟨g, j, none⟩ := by unfold Addr.add; split <;> simp_all
    rw [e, List.getElem_set]
    by_cases hkj : k = j
    · subst hkj
      rw [if_pos rfl]
      exact World.cell?_setCell_same _ _ _ (hcell k hj')
    · rw [if_neg hkj, World.cell?_setCell_other _ _ _ _ (by intro e; injection e with _ e2; exact hkj e2)]
      exact hcell j hj')
  rw [List.length_set, hn] at h
  exact h

set_option maxRecDepth 100000 in
set_option maxHeartbeats 2000000 in
theorem ipv4Told_walk (id : Int) (m : Bool) (off ttl pr : Int) (a b : PitotIp.Q4) (s : ByteArray) (_hi : (Lit.int .i64 id).wf = true) (_ho : (Lit.int .i64 off).wf = true) (_ht : (Lit.int .i64 ttl).wf = true) (_hp : (Lit.int .i64 pr).wf = true) (hs : s.size ≤ maxLen)
    (at_ : Int) (hat : (Lit.int .i64 at_).wf = true) (turn : Int) (ht : (Lit.int .u8 turn).wf = true) (w : World) :
    Calls Try.prog 7 #[pk id m off ttl pr a b s, .int .i64 at_, .int .u8 turn] w fun e w' => e = .returned (.bool true) ∧ Below w.heap.size w w' := by
  unfold maxLen at hs
  have hab := bounds_i64 hat
  have htb := bounds_u8 ht
  clear hat ht _hi _ho _ht _hp
  by_cases hbig : 5000 < s.size
  · go_enter Try.func7, Try.ntmps7
    go_wp2_with (go_at_call 9; (with_reducible refine (awake_any _).mono ?_); rintro e w1 ⟨rfl, hb1⟩)
    go_returns
    exact ⟨rfl, ((Below.refl _ w).alloc (Nat.le_refl _) _).trans (hb1.mono (by simp))⟩
  · rcases enc_cases id m off ttl pr a b s (by omega) with ⟨e, he, H⟩ | ⟨i, o, tt, p, rfl, rfl, rfl, rfl, hmay⟩
    · have H10 := Lib.hid H; clear H
      have he0 : ((e : Int) != 0) = true := by simpa using he
      have he1 : ¬ (e : Int) = 0 := he
      clear he
      go_enter Try.func7, Try.ntmps7
      go_wp2_with (first
        | (go_at_call 10; (with_reducible refine (H10.out _).mono ?_); rintro r w1 ⟨rfl, hb1⟩)
        | (go_at_call 9; (with_reducible refine (awake_any _).mono ?_); rintro r w2 ⟨rfl, hb2⟩))
      go_returns
      have k1 : Below w.heap.size w w1 := ((Below.refl _ w).alloc (Nat.le_refl _) _).trans (hb1.mono (by simp))
      exact ⟨rfl, k1.trans (hb2.mono k1.size)⟩
    · have H10 := Lib.hid (fun w => encode_ok i m o tt p a b s w hmay)
      have hBs := outB_size i m o tt p a b s
      have hd2 := hmay.d
      obtain ⟨B, HB⟩ : ∃ B, Hid (B = outB i m o tt p a b s) := ⟨_, rfl⟩
      rw [← HB.out] at H10 hBs
      obtain ⟨z, Hz⟩ : ∃ z, Hid (z = 20 + s.size) := ⟨_, rfl⟩
      have hz1 : z ≤ 5020 := by rw [Hz.out]; omega
      have hz2 : 20 ≤ z := by rw [Hz.out]; omega
      rw [← Hz.out] at hBs
      have hend : ∀ (w1 w2 : World) (hb1 : Below (w.alloc (pkC i m o tt p a b s)).heap.size (w.alloc (pkC i m o tt p a b s)) w1) (hb2 : Below w1.heap.size w1 w2), Below w.heap.size w w2 := fun w1 w2 hb1 hb2 => by
        have k1 : Below w.heap.size w w1 := ((Below.refl _ w).alloc (Nat.le_refl _) _).trans (hb1.mono (by simp))
        exact k1.trans (hb2.mono k1.size)
      have HEND := Lib.hid hend; clear hend
      by_cases hin : at_ < 0 ∨ 20 ≤ at_ ∨ turn = 0
      · by_cases h1 : at_ < 0
        · clear hin hmay
          go_enter Try.func7, Try.ntmps7
          go_wp2_with (first
            | (go_at_call 10; (with_reducible refine (H10.out _).mono ?_); rintro r w1 ⟨rfl, hb1⟩)
            | (go_at_call 9; (with_reducible refine (awake_any _).mono ?_); rintro r w2 ⟨rfl, hb2⟩))
          go_returns
          exact ⟨rfl, HEND.out _ _ hb1 hb2⟩
        · by_cases h2 : 20 ≤ at_
          · clear hin hmay
            go_enter Try.func7, Try.ntmps7
            go_wp2_with (first
              | (go_at_call 10; (with_reducible refine (H10.out _).mono ?_); rintro r w1 ⟨rfl, hb1⟩)
              | (go_at_call 9; (with_reducible refine (awake_any _).mono ?_); rintro r w2 ⟨rfl, hb2⟩))
            go_returns
            exact ⟨rfl, HEND.out _ _ hb1 hb2⟩
          · have h3 : turn = 0 := by omega
            subst h3
            clear hin hmay
            go_enter Try.func7, Try.ntmps7
            go_wp2_with (first
              | (go_at_call 10; (with_reducible refine (H10.out _).mono ?_); rintro r w1 ⟨rfl, hb1⟩)
              | (go_at_call 9; (with_reducible refine (awake_any _).mono ?_); rintro r w2 ⟨rfl, hb2⟩))
            go_returns
            exact ⟨rfl, HEND.out _ _ hb1 hb2⟩
      · have h1 : 0 ≤ at_ := by omega
        obtain ⟨j, rfl⟩ := Int.eq_ofNat_of_zero_le h1
        have hj0 : j < 20 := by omega
        have hj : j < z := by omega
        obtain ⟨t, rfl⟩ := Int.eq_ofNat_of_zero_le htb.1
        have ht0 : ((t : Int) == 0) = false := by simp; omega
        have ht1 : t ≤ 255 := by omega
        have ht2 : ¬ t = 0 := by omega
        clear hin
        obtain ⟨C, h0⟩ := Classical.skolem.1 (fun w => bytes_of B z hBs (by omega) w)
        obtain ⟨V, hall⟩ := Classical.skolem.1 h0
        clear h0
        obtain ⟨L, HL⟩ : ∃ L, Hid (L = (outB i m o tt p a b s).data.toList) := ⟨_, rfl⟩
        have hBl : B.data.toList = L := by rw [HB.out, HL.out]
        have hlen : L.length = z := by rw [← hBl, ← size_toList, hBs]
        have hjl : j < L.length := by omega
        have hcell' : ∀ w2 i (h : i < L.length), (V w2).cell? ⟨w2.heap.size, i, none⟩ = some (.int .u8 (L[i]).toNat) := by
          intro w2 i hi
          have := (hall w2).2.1 i (by rw [hBl]; exact hi)
          rw [this]
          simp only [hBl]
        obtain ⟨x, hx⟩ : ∃ x, x = L[j] := ⟨_, rfl⟩
        have hx8 := x.toNat_lt
        have c1 := fun w2 => hcell' w2 j hjl
        rw [← hx] at c1
        have f1 := fun w2 => (hall w2).2.2.1 j hj
        have hcv := fun w2 => (hall w2).1
        have HV : Hid (∀ w2, Below w2.heap.size w2 (V w2)) := fun w2 => (hall w2).2.2.2.1
        have hxt : x.toNat ^^^ t < 256 := Nat.xor_lt_two_pow (n := 8) hx8 (by omega)
        have ex : bits .xor .u8 (x.toNat : Int) (t : Int) = ((x.toNat ^^^ t : Nat) : Int) := u8_xor_nat _ _ hx8 (by omega)
        have hv : (UInt8.ofNat (x.toNat ^^^ t)).toNat = x.toNat ^^^ t := by rw [UInt8.toNat_ofNat']; omega
        have hne : UInt8.ofNat (x.toNat ^^^ t) ≠ x := by
          intro e
          have e2 := congrArg UInt8.toNat e
          rw [hv] at e2
          apply ht2
          have e3 := congrArg (fun y => x.toNat ^^^ y) e2
          simpa [← Nat.xor_assoc] using e3
        have hbk := fun w2 => bytes_back (V w2) w2.heap.size j (C w2) z _ hlen (UInt8.ofNat (x.toNat ^^^ t)) ((x.toNat ^^^ t : Nat) : Int) (by rw [hv]) hj (hcell' w2)
        obtain ⟨c, hc, hop⟩ := dec_told i m o tt p a b s hmay j hj0 (UInt8.ofNat (x.toNat ^^^ t)) L HL.out (by rw [List.getElem?_eq_getElem hjl, ← hx]; intro e; exact hne (Option.some.inj e).symm)
        obtain ⟨T, HT⟩ : ∃ T, Hid (T = (⟨(L.set j (UInt8.ofNat (x.toNat ^^^ t))).toArray⟩ : ByteArray)) := ⟨_, rfl⟩
        rw [← HT.out] at hop
        simp only [← HT.out] at hbk
        have HOP := Lib.hid hop
        obtain ⟨y, Hy⟩ : ∃ y, Hid (y = x.toNat ^^^ t) := ⟨_, rfl⟩
        rw [← Hy.out] at ex
        simp only [← Hy.out] at hbk
        have HX := Lib.hid hx
        have hc0 : ((c : Int) != 0) = true := by simpa using hc
        have hc1 : ¬ (c : Int) = 0 := hc
        clear hop hne hv hxt hcell' hx hBl hall hmay hc
        have hHl := Lib.hid hlen
        clear hlen
        have hz9 := zero9
        go_enter Try.func7, Try.ntmps7
        go_wp2_with (first
          | (go_at_call 10; (with_reducible refine (H10.out _).mono ?_); rintro r w1 ⟨rfl, hb1⟩)
          | (go_at_call 13; (with_reducible refine (HOP.out _).mono ?_); rintro r w3 ⟨rfl, hb3⟩)
          | (go_at_call 9; (with_reducible refine (awake_any _).mono ?_); rintro r w5 ⟨rfl, hb5⟩))
        go_returns
        have k2 : Below w.heap.size w w1 := ((Below.refl _ w).alloc (Nat.le_refl _) _).trans (hb1.mono (by simp))
        have k3 := k2.trans ((HV.out w1).mono k2.size)
        have k4 := k3.setCell (p := ⟨w1.heap.size, j, none⟩) k2.size (.int .u8 (y : Nat))
        have k5 := k4.trans (hb3.mono k4.size)
        have k6 := k5.alloc k5.size pkz
        exact ⟨rfl, k6.trans (hb5.mono k6.size)⟩


set_option maxRecDepth 100000 in
theorem ipv4Told_lifted (os : Os) (started : os.Started) (H : Type) (enc : TypeId × Value → H) :
    ReturnsInHanded {} Try.checked os 7 .any (Rows.ipv4ToldSpec.pre6 enc Try.prog Try.f7 Rows.ipv4ToldRow.domain false) (Rows.ipv4ToldSpec.post enc Try.prog Try.f7 false true false false) := by
  refine returnsInHanded_of_change (C := Try.checked) ipv4Told_own started (by kernel_rfl) Try.func7
    (ChangeSpec.witness6 (enc := enc) (C := Try.checked) false ⟨#[], #[.agg #[.int .i64 0, .bool false, .int .i64 0, .int .i64 0, .int .i64 0, .int .u8 0, .int .u8 0, .int .u8 0, .int .u8 0, .int .u8 0, .int .u8 0, .int .u8 0, .int .u8 0, .string ByteArray.empty], .int .i64 0, .int .u8 0], []⟩ 8 (by kernel_rfl) (by kernel_rfl) (by kernel_rfl) (by kernel_rfl)) ?_
  intro W base args ds gs before hval0 hW hcnd _
  have hval : ∀ (j : Nat) t v, Try.f7.params[j]? = some t → args[j]? = some v → Value.okWide Try.prog W .any base t v := hval0
  have hW' := hW
  obtain ⟨p, q, hA0, hV, rfl, hfz, hnd⟩ := hW
  have hA : DataW.TrodAll enc Try.prog W 0 (fun _ => true) true Try.f7.params.toList args.toList ds p := hA0
  rw [Try.params7] at hA hval
  obtain ⟨v0, vs0, d0, ds0, p0, q0, hargs, rfl, rfl, h0, r0⟩ := trodAll_cons hA
  obtain ⟨v1, vs1, d1, ds1, p1, q1, rfl, rfl, rfl, h1, r1⟩ := trodAll_cons r0
  obtain ⟨v2, vs2, d2, ds2, p2, q2, rfl, rfl, rfl, h2, r2⟩ := trodAll_cons r1
  obtain ⟨rfl, rfl, rfl⟩ := trodAll_nil r2
  obtain rfl : args = #[v0, v1, v2] := by cases args; simp_all
  obtain ⟨rfl, rfl⟩ := trodVars_none hV
  have k0 := h0
  have lt0 : ∀ x ∈ p0, x.block < W.heap.size := by obtain ⟨m, hm⟩ := k0; exact DataW.trod_lt m _ _ _ hm
  obtain ⟨fu0, hf0⟩ := h0
  obtain ⟨fi0, fm0, fo0, ft0, fp0, fa0, fb0, fs0, gi0, go0, gt0, gp0, gs0, rfl⟩ := packet_open (hval 0 25 v0 rfl rfl) hf0
  obtain ⟨a1, rfl, rfl, rfl, w1⟩ := open_int Try.underlying3 (hval 1 3 v1 rfl rfl) h1
  obtain ⟨a2, rfl, rfl, rfl, w2⟩ := open_int Try.underlying5 (hval 2 5 v2 rfl rfl) h2
  clear hA0 hval0
  have hwalk := ipv4Told_walk fi0 fm0 fo0 ft0 fp0 fa0 fb0 fs0 gi0 go0 gt0 gp0 gs0 a1 w1 a2 w2 W

  refine hwalk.mono fun e W' ⟨he, bel⟩ => ?_
  subst he
  exact ⟨_, rfl, _, _, _, [], _, [], hW', trodAll_mk1 (shut_bool Try.underlying4 _), (trodAll_cons_mk (Below.trod ipv4Told_laid (by kernel_rfl) (of_decide_eq_true (by kernel_rfl)) k0 bel lt0) (trodAll_cons_mk (shut_int Try.underlying3 w1) (trodAll_cons_mk (shut_int Try.underlying5 w2) trodAll_mk0))), rfl, bel.frame _, fun h => by cases h⟩

theorem ipv4Told_over : Rows.ipv4ToldRow.holds Try.pinned (OpenSpec.ofChange Rows.ipv4ToldSpec) :=
  OpenClaim.holds_of_wide 7 Try.f7 rfl rfl rfl rfl rfl rfl rfl ⟨rfl, rfl, rfl, rfl, rfl⟩ rfl rfl rfl rfl rfl (by kernel_rfl) Try.func7 (by kernel_rfl)
    (of_decide_eq_true (by kernel_rfl)) (by unfold Func.isWrapper; first | (rw [if_pos (by decide +kernel)]; kernel_rfl) | (rw [if_neg (by decide +kernel)]; exact ⟨rfl, rfl⟩))
    (fun os started H enc _ => ipv4Told_lifted os started H enc)

theorem ipv4Told_holds : Rows.Ipv4ToldSaid := ipv4Told_over
#print axioms ipv4Told_holds
end Go.Proofs.Ytneiemaepdknjaa
