/- For every string, place and turn of a byte the law CrcBack answers true: what was sealed is opened, and a sealed text of which one byte is another one is ErrSum. No conditions. -/
import Derived.Test.YtplknfdbgcdaoaaRows
import Derived.Test.YtplknfdbgcdaoaaOp
import Derived.WalkKit
import Derived.ProofKit
import Derived.OpenShut
import Derived.ShutString
import Derived.ChangeOld
import Derived.Below
namespace Go.Proofs.Ytplknfdbgcdaoaa
open Go.ChangeShapes Go.WideShapes Go.ChangeAt Go.RowKit
open Go.ChangeMaps (open_string shut_string)
set_option linter.unusedVariables false

theorem crcBack_own : ownKnob Try.prog.godebug = none := by kernel_rfl
theorem crcBack_laid : laidOutB Try.prog = true := by kernel_rfl

theorem bytes_of (B : ByteArray) (n : Nat) (hn : B.size = n) (w : World) : ∃ C V, (convert 9 38 (.string B)).run Try.prog w = .ok (.slice (some ⟨w.heap.size, 0, none⟩) n C) V ∧
    (∀ j (h : j < B.data.toList.length), V.cell? ⟨w.heap.size, j, none⟩ = some (.int .u8 (B.data.toList[j]).toNat)) ∧ (∀ j, j < n → V.frozen? ⟨w.heap.size, j, none⟩ = false) ∧ Below w.heap.size w V ∧ V.heap.size = w.heap.size + 1 := by
  have h := run_bytes_of_string (P := Try.prog) w 9 38 5 B Try.underlying9 Try.underlying38 Try.underlying5
  rw [hn] at h
  generalize grownCap w n 0 5 = c at h
  have hsz : B.data.toList.length ≤ (bytesRow B c).size := by simp [bytesRow]
  have hcell : ∀ j (h : j < B.data.toList.length), (bytesRow B c)[j]? = some (.int .u8 (B.data.toList[j]).toNat) := by
    intro j hj
    have hj' : j < B.data.size := by simpa using hj
    unfold bytesRow
    rw [Array.getElem?_append_left (by simpa using hj'), Array.getElem?_map, Array.getElem?_eq_getElem hj']
    rfl
  have hl : B.data.toList.length = n := by simpa using hn
  generalize bytesRow B c = R at h hsz hcell
  refine ⟨c, _, h, fun j hj => ?_, fun j hj => ?_, ?_, by simp⟩
  · have := World.cell?_alloc_mark w.drew R 5 (R.size, R.size + 1) j
    exact this.trans (hcell j hj)
  · have hh : (w.drew.alloc (.cells R 5 (R.size, R.size + 1))).heap[w.heap.size]? = some (.cells R 5 (R.size, R.size + 1)) := heap_alloc_new w.drew _
    simp only [World.frozen?, hh]
    simp
    omega
  · exact (Below.refl _ _).drew.alloc (Nat.le_refl _) _

theorem bytes_back (V : World) (g k C n : Nat) (l : List UInt8) (hn : l.length = n) (v : UInt8) (x : Int) (hx : x = v.toNat) (hk : k < n)
    (hcell : ∀ j (h : j < l.length), V.cell? ⟨g, j, none⟩ = some (.int .u8 (l[j]).toNat)) :
    (convert 38 9 (.slice (some ⟨g, 0, none⟩) n C)).run Try.prog (V.setCell ⟨g, k, none⟩ (.int .u8 x)) = .ok (.string ⟨(l.set k v).toArray⟩) (V.setCell ⟨g, k, none⟩ (.int .u8 x)) := by
  subst hx
  have h := run_convert_bytes_back (P := Try.prog) (V.setCell ⟨g, k, none⟩ (.int .u8 v.toNat)) 38 9 5 ⟨g, 0, none⟩ C (l.set k v) Try.underlying38 Try.underlying5 Try.underlying9 (fun j hj => by
    have hj' : j < l.length := by simpa using hj
    have e : (⟨g, 0, none⟩ : Addr).add j = ⟨g, j, none⟩ := by unfold Addr.add; split <;> simp_all
    rw [e, List.getElem_set]
    by_cases hkj : k = j
    · subst hkj
      rw [if_pos rfl]
      exact World.cell?_setCell_same _ _ _ (hcell k hj')
    · rw [if_neg hkj, World.cell?_setCell_other _ _ _ _ (by intro e; injection e with _ e2; exact hkj e2)]
      exact hcell j hj')
  rw [List.length_set, hn] at h
  exact h

open Go.Proofs.PitotCrc in
theorem open_sealed (s : ByteArray) (w : World) (hs : s.size ≤ 5000) :
    Calls Try.prog 16 #[.string (sealB s)] w fun e w' => e = .returned (.tuple #[.string s, .int .i64 0]) ∧ Below w.heap.size w w' := by
  refine (open_long (sealB s) w s.size (sealB_size s) (by rw [sealB_size]; omega)).mono fun e w' ⟨he, hb⟩ => ⟨?_, hb⟩
  rw [he.out, sealB_list, if_pos (opened_sealed _)]
  have : (sealB s).extract 0 s.size = s := by
    apply ByteArray.ext
    rw [← Array.toList_inj, extract_list, List.drop_zero, sealB_list]
    simp [sealed]
  rw [this]

open Go.Proofs.PitotCrc in
theorem open_turned (s : ByteArray) (k : Nat) (hk : k < s.size + 4) (v : UInt8) (hv : v ≠ (sealed s.data.toList)[k]'(by rw [sealed_length]; simpa using hk)) (w : World) (hs : s.size ≤ 5000) :
    Calls Try.prog 16 #[.string ⟨((sealed s.data.toList).set k v).toArray⟩] w fun e w' => e = .returned (.tuple #[.string ⟨#[]⟩, .int .i64 12]) ∧ Below w.heap.size w w' := by
  have hz : (⟨((sealed s.data.toList).set k v).toArray⟩ : ByteArray).size = s.size + 4 := by
    show (((sealed s.data.toList).set k v).toArray).size = _
    simp [sealed_length]
  refine (open_long _ w s.size hz (by omega)).mono fun e w' ⟨he, hb⟩ => ⟨?_, hb⟩
  have ho := opened_turn s.data.toList k (by rw [sealed_length]; simpa using hk) v hv
  rw [he.out, if_neg]
  simp [ho]

open Go.Proofs.PitotCrc in
set_option maxRecDepth 100000 in
set_option maxHeartbeats 1000000 in
theorem crcBack_walk (s : ByteArray) (_hs : s.size ≤ maxLen) (at_ : Int) (hat : (Lit.int .i64 at_).wf = true) (turn : Int) (ht : (Lit.int .u8 turn).wf = true) (w : World) :
    Calls Try.prog 6 #[.string s, .int .i64 at_, .int .u8 turn] w fun e w' => e = .returned (.bool true) ∧ Below w.heap.size w w' := by
  unfold maxLen at _hs
  have hab := bounds_i64 hat
  have htb := bounds_u8 ht
  clear hat ht
  by_cases hb : 5000 < s.size
  · go_enter Try.func6, Try.ntmps6
    go_wp2_with (go_at_call 10; refine (awake_any _).mono ?_; rintro e w1 ⟨rfl, hb1⟩)
    go_returns
    exact ⟨rfl, hb1⟩
  · have hs : s.size ≤ 100000 := by omega
    have hs5 : s.size ≤ 5000 := by omega
    obtain ⟨B, HB⟩ : ∃ B, Hid (B = sealB s) := ⟨_, rfl⟩
    have hBs : B.size = s.size + 4 := by rw [HB.out, sealB_size]
    have h16 := fun w => open_sealed s w hs5
    rw [← HB.out] at h16
    have H16 := Lib.hid h16; clear h16
    by_cases hin : at_ < 0 ∨ (s.size : Int) + 4 ≤ at_ ∨ turn = 0
    · by_cases h1 : at_ < 0
      · clear hin
        go_enter Try.func6, Try.ntmps6
        go_wp2_with (first
          | (go_at_call 18; refine (seal_any s _ hs).mono ?_; rintro e w1 ⟨rfl, hb1⟩; rw [← HB.out])
          | (go_at_call 16; refine (H16.out _).mono ?_; rintro e w2 ⟨rfl, hb2⟩)
          | (go_at_call 10; refine (awake_any _).mono ?_; rintro e w5 ⟨rfl, hb5⟩))
        go_returns
        have k2 := hb1.trans (hb2.mono hb1.size)
        exact ⟨rfl, k2.trans (hb5.mono k2.size)⟩
      · by_cases h2 : (s.size : Int) + 4 ≤ at_
        · clear hin
          go_enter Try.func6, Try.ntmps6
          go_wp2_with (first
            | (go_at_call 18; refine (seal_any s _ hs).mono ?_; rintro e w1 ⟨rfl, hb1⟩; rw [← HB.out])
            | (go_at_call 16; refine (H16.out _).mono ?_; rintro e w2 ⟨rfl, hb2⟩)
            | (go_at_call 10; refine (awake_any _).mono ?_; rintro e w5 ⟨rfl, hb5⟩))
          go_returns
          have k2 := hb1.trans (hb2.mono hb1.size)
          exact ⟨rfl, k2.trans (hb5.mono k2.size)⟩
        · have h3 : turn = 0 := by omega
          subst h3
          clear hin
          go_enter Try.func6, Try.ntmps6
          go_wp2_with (first
            | (go_at_call 18; refine (seal_any s _ hs).mono ?_; rintro e w1 ⟨rfl, hb1⟩; rw [← HB.out])
            | (go_at_call 16; refine (H16.out _).mono ?_; rintro e w2 ⟨rfl, hb2⟩)
            | (go_at_call 10; refine (awake_any _).mono ?_; rintro e w5 ⟨rfl, hb5⟩))
          go_returns
          have k2 := hb1.trans (hb2.mono hb1.size)
          exact ⟨rfl, k2.trans (hb5.mono k2.size)⟩
    · have h1 : 0 ≤ at_ := by omega
      obtain ⟨k, rfl⟩ := Int.eq_ofNat_of_zero_le h1
      have hk : k < s.size + 4 := by omega
      obtain ⟨t, rfl⟩ := Int.eq_ofNat_of_zero_le htb.1
      have ht0 : ((t : Int) == 0) = false := by simp; omega
      have ht1 : t ≤ 255 := by omega
      have ht2 : ¬ t = 0 := by omega
      clear hin
      obtain ⟨C, h0⟩ := Classical.skolem.1 (fun w => bytes_of B (s.size + 4) hBs w)
      obtain ⟨V, hall⟩ := Classical.skolem.1 h0
      clear h0
      have hBl : B.data.toList = sealed s.data.toList := by rw [HB.out, sealB_list]
      have hlen : (sealed s.data.toList).length = s.size + 4 := by rw [sealed_length]; simp
      have hkl : k < (sealed s.data.toList).length := by omega
      have hcell' : ∀ w2 j (h : j < (sealed s.data.toList).length), (V w2).cell? ⟨w2.heap.size, j, none⟩ = some (.int .u8 ((sealed s.data.toList)[j]).toNat) := by
        intro w2 j hj
        have := (hall w2).2.1 j (by rw [hBl]; exact hj)
        rw [this]
        simp only [hBl]
      obtain ⟨x, hx⟩ : ∃ x, x = (sealed s.data.toList)[k] := ⟨_, rfl⟩
      have hx8 := x.toNat_lt
      have c1 := fun w2 => hcell' w2 k hkl
      rw [← hx] at c1
      have f1 := fun w2 => (hall w2).2.2.1 k hk
      have hcv := fun w2 => (hall w2).1
      have HV : Hid (∀ w2, Below w2.heap.size w2 (V w2)) := fun w2 => (hall w2).2.2.2.1
      have hxt : x.toNat ^^^ t < 256 := Nat.xor_lt_two_pow (n := 8) hx8 (by omega)
      have ex : bits .xor .u8 (x.toNat : Int) (t : Int) = ((x.toNat ^^^ t : Nat) : Int) := u8_xor_nat _ _ hx8 (by omega)
      have hv : (UInt8.ofNat (x.toNat ^^^ t)).toNat = x.toNat ^^^ t := by rw [UInt8.toNat_ofNat']; omega
      have hne : UInt8.ofNat (x.toNat ^^^ t) ≠ x := by
        intro e
        have e2 := congrArg UInt8.toNat e
        rw [hv] at e2
        apply ht2
        have e3 := congrArg (fun y => x.toNat ^^^ y) e2
        simpa [← Nat.xor_assoc] using e3
      have hbk := fun w2 => bytes_back (V w2) w2.heap.size k (C w2) (s.size + 4) _ hlen (UInt8.ofNat (x.toNat ^^^ t)) ((x.toNat ^^^ t : Nat) : Int) (by rw [hv]) hk (hcell' w2)
      have hop := fun w => open_turned s k hk (UInt8.ofNat (x.toNat ^^^ t)) (by rw [← hx]; exact hne) w hs5
      obtain ⟨T, HT⟩ : ∃ T, Hid (T = (⟨((sealed s.data.toList).set k (UInt8.ofNat (x.toNat ^^^ t))).toArray⟩ : ByteArray)) := ⟨_, rfl⟩
      rw [← HT.out] at hop
      simp only [← HT.out] at hbk
      have HOP := Lib.hid hop
      obtain ⟨y, Hy⟩ : ∃ y, Hid (y = x.toNat ^^^ t) := ⟨_, rfl⟩
      rw [← Hy.out] at ex
      simp only [← Hy.out] at hbk
      have HX := Lib.hid hx
      clear hop hne hv hxt hcell' hx hBl hall
      have hHl := Lib.hid hlen
      clear hlen
      go_enter Try.func6, Try.ntmps6
      go_wp2_with (first
        | (go_at_call 18; refine (seal_any s _ hs).mono ?_; rintro e w1 ⟨rfl, hb1⟩; rw [← HB.out])
        | (go_at_call 16; (with_reducible refine (H16.out _).mono ?_); rintro e w2 ⟨rfl, hb2⟩)
        | (go_at_call 16; (with_reducible refine (HOP.out _).mono ?_); rintro e w3 ⟨rfl, hb3⟩)
        | (go_at_call 10; refine (awake_any _).mono ?_; rintro e w5 ⟨rfl, hb5⟩))
      go_returns
      have k2 := hb1.trans (hb2.mono hb1.size)
      have k3 := k2.trans ((HV.out w2).mono k2.size)
      have k4 := k3.setCell (p := ⟨w2.heap.size, k, none⟩) k2.size (.int .u8 (y : Nat))
      have k5 := k4.trans (hb3.mono k4.size)
      exact ⟨rfl, k5.trans (hb5.mono k5.size)⟩

set_option maxRecDepth 100000 in
theorem crcBack_lifted (os : Os) (started : os.Started) (H : Type) (enc : TypeId × Value → H) :
    ReturnsInHanded {} Try.checked os 6 .any (Rows.crcBackSpec.pre6 enc Try.prog Try.f6 Rows.crcBackRow.domain false) (Rows.crcBackSpec.post enc Try.prog Try.f6 false true false false) := by
  refine returnsInHanded_of_change (C := Try.checked) crcBack_own started (by kernel_rfl) Try.func6
    (ChangeSpec.witness6 (enc := enc) (C := Try.checked) false ⟨#[], #[.string ByteArray.empty, .int .i64 0, .int .u8 0], []⟩ 8 (by kernel_rfl) (by kernel_rfl) (by kernel_rfl) (by kernel_rfl)) ?_
  intro W base args ds gs before hval0 hW hcnd _
  have hval : ∀ (j : Nat) t v, Try.f6.params[j]? = some t → args[j]? = some v → Value.okWide Try.prog W .any base t v := hval0
  have hW' := hW
  obtain ⟨p, q, hA0, hV, rfl, hfz, hnd⟩ := hW
  have hA : DataW.TrodAll enc Try.prog W 0 (fun _ => true) true Try.f6.params.toList args.toList ds p := hA0
  rw [Try.params6] at hA hval
  obtain ⟨v0, vs0, d0, ds0, p0, q0, hargs, rfl, rfl, h0, r0⟩ := trodAll_cons hA
  obtain ⟨v1, vs1, d1, ds1, p1, q1, rfl, rfl, rfl, h1, r1⟩ := trodAll_cons r0
  obtain ⟨v2, vs2, d2, ds2, p2, q2, rfl, rfl, rfl, h2, r2⟩ := trodAll_cons r1
  obtain ⟨rfl, rfl, rfl⟩ := trodAll_nil r2
  obtain rfl : args = #[v0, v1, v2] := by cases args; simp_all
  obtain ⟨rfl, rfl⟩ := trodVars_none hV
  obtain ⟨a0, rfl, rfl, rfl, w0⟩ := open_string Try.underlying9 (hval 0 9 v0 rfl rfl) h0
  obtain ⟨a1, rfl, rfl, rfl, w1⟩ := open_int Try.underlying3 (hval 1 3 v1 rfl rfl) h1
  obtain ⟨a2, rfl, rfl, rfl, w2⟩ := open_int Try.underlying5 (hval 2 5 v2 rfl rfl) h2
  clear hA0 hval0
  have hwalk := crcBack_walk a0 w0 a1 w1 a2 w2 W

  refine hwalk.mono fun e W' ⟨he, bel⟩ => ?_
  subst he
  exact ⟨_, rfl, _, _, _, [], _, [], hW', trodAll_mk1 (shut_bool Try.underlying4 _), (trodAll_cons_mk (shut_string Try.underlying9 w0) (trodAll_cons_mk (shut_int Try.underlying3 w1) (trodAll_cons_mk (shut_int Try.underlying5 w2) trodAll_mk0))), rfl, bel.frame _, fun h => by cases h⟩

theorem crcBack_over : Rows.crcBackRow.holds Try.pinned (OpenSpec.ofChange Rows.crcBackSpec) :=
  OpenClaim.holds_of_wide 6 Try.f6 rfl rfl rfl rfl rfl rfl rfl ⟨rfl, rfl, rfl, rfl, rfl⟩ rfl rfl rfl rfl rfl (by kernel_rfl) Try.func6 (by kernel_rfl)
    (of_decide_eq_true (by kernel_rfl)) (by unfold Func.isWrapper; first | (rw [if_pos (by decide +kernel)]; kernel_rfl) | (rw [if_neg (by decide +kernel)]; exact ⟨rfl, rfl⟩))
    (fun os started H enc _ => crcBack_lifted os started H enc)

theorem crcBack_holds : Rows.CrcBackSaid := crcBack_over
#print axioms crcBack_holds
end Go.Proofs.Ytplknfdbgcdaoaa
