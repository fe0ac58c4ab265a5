/- For every ends, data, place and turn of a byte the law UdpTold answers true: a datagram of which one byte is another one, but of the length and of a sum that becomes 0, is ErrSum. No conditions. -/
import Derived.Test.YtpecmpepnfgnoaaRows
import Derived.Test.YtpecmpepnfgnoaaEx
import Derived.Test.YtpecmpepnfgnoaaPo
import Derived.WalkKit
import Derived.Deep.Cut
import Derived.Deep.RegionHeld3
import Derived.ProofKit
import Derived.OpenShut
import Derived.ShutString
import Derived.ChangeOld
import Derived.Below
namespace Go.Proofs.Ytpecmpepnfgnoaa
open Go.ChangeShapes Go.WideShapes Go.ChangeAt Go.RowKit
open Go.ChangeMaps (open_string shut_string)
set_option linter.unusedVariables false

theorem udpTold_own : ownKnob Try.prog.godebug = none := by kernel_rfl
theorem udpTold_laid : laidOutB Try.prog = true := by kernel_rfl


open Go.Proofs.PitotIp
open Go.Proofs.Ytpecmpepnfgnoaa.Bi (lies_lt lies_cell lies_frozen lies_alloc)

theorem bytes_of (B : ByteArray) (n : Nat) (hn : B.size = n) (hm : n ≤ 100000) (w : World) : ∃ C V, (convert 9 42 (.string B)).run Try.prog w = .ok (.slice (some ⟨w.heap.size, 0, none⟩) n C) V ∧
    (∀ j (h : j < B.data.toList.length), V.cell? ⟨w.heap.size, j, none⟩ = some (.int .u8 (B.data.toList[j]).toNat)) ∧ (∀ j, j < n → V.frozen? ⟨w.heap.size, j, none⟩ = false) ∧ Below w.heap.size w V ∧ V.heap.size = w.heap.size + 1 ∧ n ≤ C ∧ C ≤ maxLen := by
  have h := run_bytes_of_string (P := Try.prog) w 9 42 5 B Try.underlying9 Try.underlying42 Try.underlying5
  rw [hn] at h
  have hc1 := grownCap_ge w n 0 5
  have hc2 := grownCap_le_maxLen w n 0 5 (by unfold maxLen; omega)
  generalize grownCap w n 0 5 = c at h hc1 hc2
  have hsz : B.data.toList.length ≤ (bytesRow B c).size := by simp [bytesRow]
  have hcell : ∀ j (h : j < B.data.toList.length), (bytesRow B c)[j]? = some (.int .u8 (B.data.toList[j]).toNat) := by
    intro j hj
    have hj' : j < B.data.size := by simpa using hj
    unfold bytesRow
    rw [Array.getElem?_append_left (by simpa using hj'), Array.getElem?_map, Array.getElem?_eq_getElem hj']
    rfl
  have hl : B.data.toList.length = n := by simpa using hn
  generalize bytesRow B c = R at h hsz hcell
  refine ⟨c, _, h, fun j hj => ?_, fun j hj => ?_, ?_, by simp, hc1, hc2⟩
  · have := World.cell?_alloc_mark w.drew R 5 (R.size, R.size + 1) j
    exact this.trans (hcell j hj)
  · have hh : (w.drew.alloc (.cells R 5 (R.size, R.size + 1))).heap[w.heap.size]? = some (.cells R 5 (R.size, R.size + 1)) := heap_alloc_new w.drew _
    simp only [World.frozen?, hh]
    simp
    omega
  · exact (Below.refl _ _).drew.alloc (Nat.le_refl _) _

theorem cell_set (V : World) (g k : Nat) (l : List UInt8) (v : UInt8) (x : Int) (hx : x = v.toNat) (hcell : ∀ j (h : j < l.length), V.cell? ⟨g, j, none⟩ = some (.int .u8 (l[j]).toNat)) (j : Nat) (u : UInt8) (hu : (l.set k v)[j]? = some u) :
    (V.setCell ⟨g, k, none⟩ (.int .u8 x)).cell? ⟨g, j, none⟩ = some (.int .u8 u.toNat) := by
  subst hx
  obtain ⟨hj, rfl⟩ := List.getElem?_eq_some_iff.1 hu
  have hj' : j < l.length := by simpa using hj
  rw [List.getElem_set]
  by_cases hkj : k = j
  · subst hkj
    rw [if_pos rfl]
    exact World.cell?_setCell_same _ _ _ (hcell k hj')
  · rw [if_neg hkj, World.cell?_setCell_other _ _ _ _ (by intro e; injection e with _ e2; exact hkj e2)]
    exact hcell j hj'

theorem bytes_back (V : World) (g k C n : Nat) (l : List UInt8) (hn : l.length = n) (v : UInt8) (x : Int) (hx : x = v.toNat)
    (hcell : ∀ j (h : j < l.length), V.cell? ⟨g, j, none⟩ = some (.int .u8 (l[j]).toNat)) :
    (convert 42 9 (.slice (some ⟨g, 0, none⟩) n C)).run Try.prog (V.setCell ⟨g, k, none⟩ (.int .u8 x)) = .ok (.string ⟨(l.set k v).toArray⟩) (V.setCell ⟨g, k, none⟩ (.int .u8 x)) := by
  have h := run_convert_bytes_back (P := Try.prog) (V.setCell ⟨g, k, none⟩ (.int .u8 x)) 42 9 5 ⟨g, 0, none⟩ C (l.set k v) Try.underlying42 Try.underlying5 Try.underlying9 (fun j hj => by
    have e : (⟨g, 0, none⟩ : Addr).add j = ⟨g, j, none⟩ := by unfold Addr.add; split <;> simp_all
    rw [e]
    exact cell_set V g k l v x hx hcell j _ (List.getElem?_eq_getElem hj))
  rw [List.length_set, hn] at h
  exact h

abbrev tiC (m n : Int) : Obj := .cells #[.int .i64 m, .int .i64 n] 41

set_option maxRecDepth 100000 in
set_option maxHeartbeats 4000000 in
theorem udpTold_walk (a b : PitotIp.Q4) (f t : Int) (_hf : (Lit.int .i64 f).wf = true) (_ht : (Lit.int .i64 t).wf = true) (s : ByteArray) (hs : s.size ≤ maxLen) (at_ n : Int) (hat : (Lit.int .i64 at_).wf = true) (hn : (Lit.int .i64 n).wf = true) (w : World) :
    Calls Try.prog 6 #[en a b f t, .string s, .agg #[.int .i64 at_, .int .i64 n]] w fun e w' => e = .returned (.bool true) ∧ Below w.heap.size w w' := by
  unfold maxLen at hs
  have hab := bounds_i64 hat
  clear hat hn _hf _ht
  have K0 : Hid (Below w.heap.size w ((w.alloc (enC a b f t)).alloc (tiC at_ n))) := ((Below.refl _ w).alloc (Nat.le_refl _) _).alloc (by simp) _
  have LE : Hid (((w.alloc (enC a b f t)).alloc (tiC at_ n)).heap[w.heap.size]? = some (enC a b f t)) := lies_alloc (heap_alloc_new w _) _
  have LT : Hid (((w.alloc (enC a b f t)).alloc (tiC at_ n)).heap[w.heap.size + 1]? = some (tiC at_ n)) := by
    have := heap_alloc_new (w.alloc (enC a b f t)) (tiC at_ n)
    show _ = _
    simpa using this
  obtain ⟨tn, htn⟩ : ∃ tn : Nat, IntKind.u8.wrap n = (tn : Int) ∧ tn < 256 := by
    refine ⟨(n % 256).toNat, ?_, by omega⟩
    have e1 : IntKind.u8.wrap n = n % 256 := by simp [IntKind.wrap, IntKind.bits, IntKind.signed]
    rw [e1]; omega
  obtain ⟨hw8, htn⟩ := htn
  by_cases hbig : 2000 < s.size
  · go_enter Try.func6, Try.ntmps6
    go_wp2_with (go_at_call 9; (with_reducible refine (awake_any _).mono ?_); rintro e w1 ⟨rfl, hb1⟩)
    go_returns
    exact ⟨rfl, K0.out.trans (hb1.mono K0.out.size)⟩
  rcases enc_cases a b f t s (by omega) with ⟨e, he, he', H⟩ | ⟨f, t, rfl, rfl, hmay⟩
  · have H10 := Lib.hid H; clear H
    have he0 : ((e : Int) != 0) = true := by simpa using he
    have he1 : ¬ (e : Int) = 0 := he
    clear he he'
    go_enter Try.func6, Try.ntmps6
    go_wp2_with (first
      | (go_at_call 10; (with_reducible refine (H10.out _).mono ?_); rintro r w1 ⟨rfl, hb1⟩
         (have T1 := lies_below LT.out hb1 (lies_lt LT.out))
         (have t0 := lies_cell T1 0)
         (have t1 := lies_cell T1 1)
         (clear T1))
      | (go_at_call 9; (with_reducible refine (awake_any _).mono ?_); rintro r w2 ⟨rfl, hb2⟩))
    go_returns
    have k1 : Below w.heap.size w w1 := K0.out.trans (hb1.mono K0.out.size)
    exact ⟨rfl, k1.trans (hb2.mono k1.size)⟩
  have H10 := Lib.hid (fun w => encode_ok a b f t s w hmay)
  have hBs := outB_size a b f t s
  obtain ⟨B, HB⟩ : ∃ B, Hid (B = outB a b f t s) := ⟨_, rfl⟩
  rw [← HB.out] at H10 hBs
  obtain ⟨z, Hz⟩ : ∃ z, Hid (z = 8 + s.size) := ⟨_, rfl⟩
  have hz1 : z ≤ 2008 := by rw [Hz.out]; omega
  have hz2 : 8 ≤ z := by rw [Hz.out]; omega
  rw [← Hz.out] at hBs
  by_cases h1 : at_ < 0
  · clear hmay
    go_enter Try.func6, Try.ntmps6
    go_wp2_with (first
      | (go_at_call 10; (with_reducible refine (H10.out _).mono ?_); rintro r w1 ⟨rfl, hb1⟩
         (have T1 := lies_below LT.out hb1 (lies_lt LT.out))
         (have t0 := lies_cell T1 0)
         (have t1 := lies_cell T1 1)
         (clear T1))
      | (go_at_call 9; (with_reducible refine (awake_any _).mono ?_); rintro r w2 ⟨rfl, hb2⟩))
    go_returns
    have k1 : Below w.heap.size w w1 := K0.out.trans (hb1.mono K0.out.size)
    exact ⟨rfl, k1.trans (hb2.mono k1.size)⟩
  obtain ⟨j, rfl⟩ := Int.eq_ofNat_of_zero_le (by omega : 0 ≤ at_)
  by_cases h2 : z ≤ j
  · clear hmay
    go_enter Try.func6, Try.ntmps6
    go_wp2_with (first
      | (go_at_call 10; (with_reducible refine (H10.out _).mono ?_); rintro r w1 ⟨rfl, hb1⟩
         (have T1 := lies_below LT.out hb1 (lies_lt LT.out))
         (have t0 := lies_cell T1 0)
         (have t1 := lies_cell T1 1)
         (clear T1))
      | (go_at_call 9; (with_reducible refine (awake_any _).mono ?_); rintro r w2 ⟨rfl, hb2⟩))
    go_returns
    have k1 : Below w.heap.size w w1 := K0.out.trans (hb1.mono K0.out.size)
    exact ⟨rfl, k1.trans (hb2.mono k1.size)⟩
  have hj : j < z := by omega
  by_cases h4 : j = 4
  · subst h4
    clear hmay
    go_enter Try.func6, Try.ntmps6
    go_wp2_with (first
      | (go_at_call 10; (with_reducible refine (H10.out _).mono ?_); rintro r w1 ⟨rfl, hb1⟩
         (have T1 := lies_below LT.out hb1 (lies_lt LT.out))
         (have t0 := lies_cell T1 0)
         (have t1 := lies_cell T1 1)
         (clear T1))
      | (go_at_call 9; (with_reducible refine (awake_any _).mono ?_); rintro r w2 ⟨rfl, hb2⟩))
    go_returns
    have k1 : Below w.heap.size w w1 := K0.out.trans (hb1.mono K0.out.size)
    exact ⟨rfl, k1.trans (hb2.mono k1.size)⟩
  by_cases h5 : j = 5
  · subst h5
    clear hmay
    go_enter Try.func6, Try.ntmps6
    go_wp2_with (first
      | (go_at_call 10; (with_reducible refine (H10.out _).mono ?_); rintro r w1 ⟨rfl, hb1⟩
         (have T1 := lies_below LT.out hb1 (lies_lt LT.out))
         (have t0 := lies_cell T1 0)
         (have t1 := lies_cell T1 1)
         (clear T1))
      | (go_at_call 9; (with_reducible refine (awake_any _).mono ?_); rintro r w2 ⟨rfl, hb2⟩))
    go_returns
    have k1 : Below w.heap.size w w1 := K0.out.trans (hb1.mono K0.out.size)
    exact ⟨rfl, k1.trans (hb2.mono k1.size)⟩
  have h4' : ((j : Int) == 4) = false := by simp; omega
  have h5' : ((j : Int) == 5) = false := by simp; omega
  have h4i : ¬ (j : Int) = 4 := by omega
  have h5i : ¬ (j : Int) = 5 := by omega
  by_cases ht0 : tn = 0
  · subst ht0
    clear hmay
    go_enter Try.func6, Try.ntmps6
    go_wp2_with (first
      | (go_at_call 10; (with_reducible refine (H10.out _).mono ?_); rintro r w1 ⟨rfl, hb1⟩
         (have T1 := lies_below LT.out hb1 (lies_lt LT.out))
         (have t0 := lies_cell T1 0)
         (have t1 := lies_cell T1 1)
         (clear T1))
      | (go_at_call 9; (with_reducible refine (awake_any _).mono ?_); rintro r w2 ⟨rfl, hb2⟩))
    go_returns
    have k1 : Below w.heap.size w w1 := K0.out.trans (hb1.mono K0.out.size)
    exact ⟨rfl, k1.trans (hb2.mono k1.size)⟩
  have ht0' : ((tn : Int) == 0) = false := by simp; omega
  obtain ⟨C, h0⟩ := Classical.skolem.1 (fun w => bytes_of B z hBs (by omega) w)
  obtain ⟨V, hall⟩ := Classical.skolem.1 h0
  clear h0
  obtain ⟨L, HL⟩ : ∃ L, Hid (L = (outB a b f t s).data.toList) := ⟨_, rfl⟩
  have hBl : B.data.toList = L := by rw [HB.out, HL.out]
  have hlen : L.length = z := by rw [← hBl, ← size_toList, hBs]
  have hjl : j < L.length := by omega
  have hcell' : ∀ w2 i (h : i < L.length), (V w2).cell? ⟨w2.heap.size, i, none⟩ = some (.int .u8 (L[i]).toNat) := by
    intro w2 i hi
    have := (hall w2).2.1 i (by rw [hBl]; exact hi)
    rw [this]
    simp only [hBl]
  obtain ⟨x, hx⟩ : ∃ x, x = L[j] := ⟨_, rfl⟩
  have hx8 := x.toNat_lt
  have c1 := fun w2 => hcell' w2 j hjl
  rw [← hx] at c1
  have f1 := fun w2 => (hall w2).2.2.1 j hj
  have hcv := fun w2 => (hall w2).1
  have HV : Hid (∀ w2, Below w2.heap.size w2 (V w2)) := fun w2 => (hall w2).2.2.2.1
  have hxt : x.toNat ^^^ tn < 256 := Nat.xor_lt_two_pow (n := 8) hx8 (by omega)
  have ex : bits .xor .u8 (x.toNat : Int) (tn : Int) = ((x.toNat ^^^ tn : Nat) : Int) := u8_xor_nat _ _ hx8 (by omega)
  have hv : (UInt8.ofNat (x.toNat ^^^ tn)).toNat = x.toNat ^^^ tn := by rw [UInt8.toNat_ofNat']; omega
  have hne : UInt8.ofNat (x.toNat ^^^ tn) ≠ x := by
    intro e
    have e2 := congrArg UInt8.toNat e
    rw [hv] at e2
    apply ht0
    have e3 := congrArg (fun y => x.toNat ^^^ y) e2
    simpa [← Nat.xor_assoc] using e3
  obtain ⟨v, Hv⟩ : ∃ v, Hid (v = UInt8.ofNat (x.toNat ^^^ tn)) := ⟨_, rfl⟩
  obtain ⟨y, Hy⟩ : ∃ y, Hid (y = x.toNat ^^^ tn) := ⟨_, rfl⟩
  have hyv : (y : Int) = v.toNat := by rw [Hy.out, Hv.out, hv]
  have hzl : (L.set j v).length = z := by rw [List.length_set, hlen]
  obtain ⟨x6, h6⟩ : ∃ u, (L.set j v)[6]? = some u := ⟨_, List.getElem?_eq_getElem (by omega)⟩
  obtain ⟨x7, h7⟩ : ∃ u, (L.set j v)[7]? = some u := ⟨_, List.getElem?_eq_getElem (by omega)⟩
  have C6 := Lib.hid (fun w2 => cell_set (V w2) w2.heap.size j L v y hyv (hcell' w2) 6 x6 h6)
  have C7 := Lib.hid (fun w2 => cell_set (V w2) w2.heap.size j L v y hyv (hcell' w2) 7 x7 h7)
  have hbk := fun w2 => bytes_back (V w2) w2.heap.size j (C w2) z _ hlen v y hyv (hcell' w2)
  obtain ⟨T, HT⟩ : ∃ T, Hid (T = (⟨(L.set j v).toArray⟩ : ByteArray)) := ⟨_, rfl⟩
  simp only [← HT.out] at hbk
  have HBK := Lib.hid hbk
  have hxne : L[j]? ≠ some v := by rw [List.getElem?_eq_getElem hjl, ← hx, Hv.out]; intro e; exact hne (Option.some.inj e).symm
  have HOP : Hid ((x6.toNat ≠ 0 ∨ x7.toNat ≠ 0) → ∀ w, Calls Try.prog 13 #[ip4 a, ip4 b, .string T] w fun e w' => e = .returned (.tuple #[en0, .string ⟨#[]⟩, .int .i64 12]) ∧ Below w.heap.size w w') := fun hz w => by
    rw [HT.out]
    exact dec_told a b f t s hmay j (by rw [← Hz.out]; exact hj) h4 h5 v L HL.out hxne x6 x7 h6 h7 hz w
  rw [← Hy.out] at ex
  have HX := Lib.hid hx
  clear hne hv hxt hcell' hx hBl hall hmay hbk hxne h6 h7 hzl hlen hyv h1 h2 h4 h5 ht0
  have hz9 := zero9
  go_enter Try.func6, Try.ntmps6
  go_upto_region 10 with (first
    | (go_at_call 10; (with_reducible refine (H10.out _).mono ?_); rintro r w1 ⟨rfl, hb1⟩
       (have T1 := lies_below LT.out hb1 (lies_lt LT.out))
       (have t0 := lies_cell T1 0)
       (have t1 := lies_cell T1 1)
       (clear T1)))
  have kY : Hid (Below w.heap.size w ((V w1).setCell ⟨w1.heap.size, j, none⟩ (.int .u8 (y : Nat)))) := by
    have k1 : Below w.heap.size w w1 := K0.out.trans (hb1.mono K0.out.size)
    have k3 := k1.trans ((HV.out w1).mono k1.size)
    exact k3.setCell (p := ⟨w1.heap.size, j, none⟩) k1.size (.int .u8 (y : Nat))
  have LY : ((V w1).setCell ⟨w1.heap.size, j, none⟩ (.int .u8 (y : Nat))).heap[w.heap.size]? = some (enC a b f t) := by
    have l1 := lies_below LE.out hb1 (lies_lt LE.out)
    have l2 := lies_below l1 (HV.out w1) (lies_lt l1)
    exact (Below.heap_setCell (V w1) _ _ _ (by show w.heap.size ≠ w1.heap.size; have := lies_lt l1; omega)).trans l2
  have u6 := C6.out w1
  have u7 := C7.out w1
  have hbk := HBK.out w1
  clear C6 C7 HBK hb1 c1 f1 hcv t0 t1
  generalize C w1 = cc at hbk ⊢
  generalize (V w1).setCell ⟨w1.heap.size, j, none⟩ (.int .u8 (y : Nat)) = Y at kY LY u6 u7 hbk ⊢
  obtain ⟨c0, c1, c2, c3, c4, c5, c6, c7, c8, c9⟩ := cells10 LY
  clear LY
  by_cases g6 : x6.toNat = 0
  · have g6' : ((x6.toNat : Int) == 0) = true := by rw [g6]; rfl
    by_cases g7 : x7.toNat = 0
    · have g7' : ((x7.toNat : Int) == 0) = true := by rw [g7]; rfl
      rw [g6] at u6
      rw [g7] at u7
      go_wp2_with (first
        | (go_at_call 9; (with_reducible refine (awake_any _).mono ?_); rintro r w5 ⟨rfl, hb5⟩))
      go_returns
      exact ⟨rfl, kY.out.trans (hb5.mono kY.out.size)⟩
    · have g7' : ((x7.toNat : Int) == 0) = false := by simp; exact fun e => g7 (by rw [e])
      have HOP := Lib.hid (HOP.out (.inr g7))
      rw [g6] at u6
      go_wp2_with (first
        | (go_at_call 13; (with_reducible refine (HOP.out _).mono ?_); rintro r w3 ⟨rfl, hb3⟩)
        | (go_at_call 9; (with_reducible refine (awake_any _).mono ?_); rintro r w5 ⟨rfl, hb5⟩))
      go_returns
      have k5 := kY.out.trans (hb3.mono kY.out.size)
      have k6 := k5.alloc k5.size enz
      exact ⟨rfl, k6.trans (hb5.mono k6.size)⟩
  · have g6' : ((x6.toNat : Int) == 0) = false := by simp; exact fun e => g6 (by rw [e])
    have HOP := Lib.hid (HOP.out (.inl g6))
    go_wp2_with (first
      | (go_at_call 13; (with_reducible refine (HOP.out _).mono ?_); rintro r w3 ⟨rfl, hb3⟩)
      | (go_at_call 9; (with_reducible refine (awake_any _).mono ?_); rintro r w5 ⟨rfl, hb5⟩))
    go_returns
    have k5 := kY.out.trans (hb3.mono kY.out.size)
    have k6 := k5.alloc k5.size enz
    exact ⟨rfl, k6.trans (hb5.mono k6.size)⟩


set_option maxRecDepth 100000 in
theorem udpTold_lifted (os : Os) (started : os.Started) (H : Type) (enc : TypeId × Value → H) :
    ReturnsInHanded {} Try.checked os 6 .any (Rows.udpToldSpec.pre6 enc Try.prog Try.f6 Rows.udpToldRow.domain false) (Rows.udpToldSpec.post enc Try.prog Try.f6 false true false false) := by
  refine returnsInHanded_of_change (C := Try.checked) udpTold_own started (by kernel_rfl) Try.func6
    (ChangeSpec.witness6 (enc := enc) (C := Try.checked) false ⟨#[], #[.agg #[.int .u8 0, .int .u8 0, .int .u8 0, .int .u8 0, .int .u8 0, .int .u8 0, .int .u8 0, .int .u8 0, .int .i64 0, .int .i64 0], .string ByteArray.empty, .agg #[.int .i64 0, .int .i64 0]], []⟩ 8 (by kernel_rfl) (by kernel_rfl) (by kernel_rfl) (by kernel_rfl)) ?_
  intro W base args ds gs before hval0 hW hcnd _
  have hval : ∀ (j : Nat) t v, Try.f6.params[j]? = some t → args[j]? = some v → Value.okWide Try.prog W .any base t v := hval0
  have hW' := hW
  obtain ⟨p, q, hA0, hV, rfl, hfz, hnd⟩ := hW
  have hA : DataW.TrodAll enc Try.prog W 0 (fun _ => true) true Try.f6.params.toList args.toList ds p := hA0
  rw [Try.params6] at hA hval
  obtain ⟨v0, vs0, d0, ds0, p0, q0, hargs, rfl, rfl, h0, r0⟩ := trodAll_cons hA
  obtain ⟨v1, vs1, d1, ds1, p1, q1, rfl, rfl, rfl, h1, r1⟩ := trodAll_cons r0
  obtain ⟨v2, vs2, d2, ds2, p2, q2, rfl, rfl, rfl, h2, r2⟩ := trodAll_cons r1
  obtain ⟨rfl, rfl, rfl⟩ := trodAll_nil r2
  obtain rfl : args = #[v0, v1, v2] := by cases args; simp_all
  obtain ⟨rfl, rfl⟩ := trodVars_none hV
  have k0 := h0
  have lt0 : ∀ x ∈ p0, x.block < W.heap.size := by obtain ⟨m, hm⟩ := k0; exact DataW.trod_lt m _ _ _ hm
  obtain ⟨fu0, hf0⟩ := h0
  obtain ⟨fa0, fb0, ff0, ft0, gf0, gt0, rfl⟩ := ends_open (hval 0 25 v0 rfl rfl) hf0
  obtain ⟨a1, rfl, rfl, rfl, w1⟩ := open_string Try.underlying9 (hval 1 9 v1 rfl rfl) h1
  have k2 := h2
  have lt2 : ∀ x ∈ p2, x.block < W.heap.size := by obtain ⟨m, hm⟩ := k2; exact DataW.trod_lt m _ _ _ hm
  obtain ⟨fu2, hf2⟩ := h2
  obtain ⟨fm2, fn2, gm2, gn2, rfl⟩ := two_ints_open (hval 2 41 v2 rfl rfl) hf2
  clear hA0 hval0
  have hwalk := udpTold_walk fa0 fb0 ff0 ft0 gf0 gt0 a1 w1 fm2 fn2 gm2 gn2 W

  refine hwalk.mono fun e W' ⟨he, bel⟩ => ?_
  subst he
  exact ⟨_, rfl, _, _, _, [], _, [], hW', trodAll_mk1 (shut_bool Try.underlying4 _), (trodAll_cons_mk (Below.trod udpTold_laid (by kernel_rfl) (of_decide_eq_true (by kernel_rfl)) k0 bel lt0) (trodAll_cons_mk (shut_string Try.underlying9 w1) (trodAll_cons_mk (Below.trod udpTold_laid (by kernel_rfl) (of_decide_eq_true (by kernel_rfl)) k2 bel lt2) trodAll_mk0))), rfl, bel.frame _, fun h => by cases h⟩

theorem udpTold_over : Rows.udpToldRow.holds Try.pinned (OpenSpec.ofChange Rows.udpToldSpec) :=
  OpenClaim.holds_of_wide 6 Try.f6 rfl rfl rfl rfl rfl rfl rfl ⟨rfl, rfl, rfl, rfl, rfl⟩ rfl rfl rfl rfl rfl (by kernel_rfl) Try.func6 (by kernel_rfl)
    (of_decide_eq_true (by kernel_rfl)) (by unfold Func.isWrapper; first | (rw [if_pos (by decide +kernel)]; kernel_rfl) | (rw [if_neg (by decide +kernel)]; exact ⟨rfl, rfl⟩))
    (fun os started H enc _ => udpTold_lifted os started H enc)

theorem udpTold_holds : Rows.UdpToldSaid := udpTold_over
#print axioms udpTold_holds
end Go.Proofs.Ytpecmpepnfgnoaa
