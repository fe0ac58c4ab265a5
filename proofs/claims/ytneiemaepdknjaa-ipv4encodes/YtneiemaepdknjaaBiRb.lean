/- Contracts of the program's Reader: Bits; and of the law's ints. -/
import Derived.Test.YtneiemaepdknjaaBiRd
import Derived.Test.YtneiemaepdknjaaBiRx
namespace Go.Proofs.Ytneiemaepdknjaa.Bi
open Go.RowKit Go.Proofs.PitotMath

/-- The numbers that a number of so many bits is, each so many bits wide, the first one highest. -/
def unpack : List Int → Int → Nat → List Int
  | [], _, _ => []
  | x :: xs, bits, a => ((a / 2 ^ (bits - x).toNat % 2 ^ x.toNat : Nat) : Int) :: unpack xs (bits - x) a

/-- What is packed on top of a stays above. -/
theorem pack_high : ∀ (xs ns : List Int) (a r : Nat) (S tot : Int), 0 ≤ S → xs.length = ns.length → togGo xs S = some tot → packGo xs ns a = some r → S ≤ tot ∧ r / 2 ^ (tot - S).toNat = a
  | [], [], a, r, S, tot, _, _, h, hp => by
    simp only [togGo, Option.some.injEq] at h
    simp only [packGo, Option.some.injEq] at hp
    subst h hp
    simp
  | x :: xs, n :: ns, a, r, S, tot, hS, hl, h, hp => by
    simp only [togGo] at h
    split at h
    · cases h
    · next hx =>
      simp only [packGo] at hp
      split at hp
      · next hf =>
        obtain ⟨u, rfl, hu⟩ := fits_nat hf
        obtain ⟨h1, h2⟩ := pack_high xs ns _ r (S + x) tot (by omega) (by simpa using hl) h hp
        refine ⟨by omega, ?_⟩
        have e : (tot - S).toNat = (tot - (S + x)).toNat + x.toNat := by omega
        rw [e, Nat.pow_add, ← Nat.div_div_eq_div_mul, h2]
        simp only [Int.toNat_natCast]
        rw [Nat.mul_comm a, Nat.mul_add_div (Nat.two_pow_pos _), Nat.div_eq_of_lt hu, Nat.add_zero]
      · cases hp

theorem unpack_pack : ∀ (xs ns : List Int) (a r : Nat) (S tot : Int), 0 ≤ S → xs.length = ns.length → togGo xs S = some tot → packGo xs ns a = some r → unpack xs (tot - S) r = ns
  | [], [], _, _, _, _, _, _, _, _ => rfl
  | x :: xs, n :: ns, a, r, S, tot, hS, hl, h, hp => by
    simp only [togGo] at h
    split at h
    · cases h
    · next hx =>
      simp only [packGo] at hp
      split at hp
      · next hf =>
        obtain ⟨u, rfl, hu⟩ := fits_nat hf
        have hh := pack_high xs ns _ r (S + x) tot (by omega) (by simpa using hl) h hp
        have ih := unpack_pack xs ns _ r (S + x) tot (by omega) (by simpa using hl) h hp
        have e : tot - S - x = tot - (S + x) := by omega
        simp only [unpack, e, ih, hh.2, Int.toNat_natCast]
        have : (a * 2 ^ x.toNat + u) % 2 ^ x.toNat = u := by
          rw [Nat.mul_comm, Nat.mul_add_mod, Nat.mod_eq_of_lt hu]
        rw [this]
      · cases hp

theorem unpack_length : ∀ (xs : List Int) (b : Int) (a : Nat), (unpack xs b a).length = xs.length
  | [], _, _ => rfl
  | x :: xs, b, a => by simp [unpack, unpack_length xs]

theorem tog_le : ∀ (xs : List Int) (S tot : Int), togGo xs S = some tot → S ≤ tot
  | [], S, tot, h => by simp only [togGo, Option.some.injEq] at h; omega
  | x :: xs, S, tot, h => by
    simp only [togGo] at h
    split at h
    · cases h
    · have := tog_le xs (S + x) tot h; omega

/-- The cells of a row of ints of which the first k are written. -/
def pi (l : List Int) (k : Nat) : List Value := (l.take k).map (fun c => Value.int .i64 c) ++ List.replicate (l.length - k) (.int .i64 0)

theorem pi_zero (l : List Int) : pi l 0 = List.replicate l.length (.int .i64 0) := by simp [pi]
theorem pi_full (l : List Int) : pi l l.length = l.map (fun c => Value.int .i64 c) := by simp [pi]

theorem pi_at (l : List Int) (k : Nat) (h : k < l.length) : (pi l k)[k]? = some (.int .i64 0) := by
  unfold pi
  have hm : min k l.length = k := Nat.min_eq_left (Nat.le_of_lt h)
  rw [List.getElem?_append_right (by simp; omega)]
  simp only [List.length_map, List.length_take, hm, Nat.sub_self]
  rw [List.getElem?_replicate, if_pos (by omega)]

theorem pi_step (l : List Int) (k : Nat) (h : k < l.length) (v : Value) (hv : v = .int .i64 l[k]) : (pi l k).set k v = pi l (k + 1) := by
  subst hv
  unfold pi
  rw [List.take_succ_eq_append_getElem h, List.map_append]
  obtain ⟨d, hd⟩ : ∃ d, l.length - k = d + 1 := ⟨l.length - k - 1, by omega⟩
  have hd' : l.length - (k + 1) = d := by omega
  rw [hd, hd', List.replicate_succ, List.set_append_right _ _ (by simp; omega)]
  simp [Nat.min_eq_left (Nat.le_of_lt h)]

theorem Try.info3 : (Try.prog.info? 3).map (fun i => (i.zero, i.size, i.bytes)) = some (some (.int .i64 0), 1, 8) := by kernel_rfl

theorem make_ints (l : List Int) (w : World) (m : Nat) (hm : m ≤ 1000000) (hl : l.length = m) :
    (Instr.makeSlice 54 (.int .i64 m) (.int .i64 m)).run Try.prog w = .ok (.slice (some ⟨w.heap.size, 0, none⟩) m m) (w.alloc (.cells (pi l 0).toArray 3)) := by
  obtain ⟨i, hi, hz0, hz1, hz2⟩ := info_parts Try.info3
  rw [run_make (P := Try.prog) w 54 3 i _ Try.underlying54 hi hz0 .i64 .i64 m m (by omega) (by omega) (by rw [hz2]; omega) (by omega)]
  have e : madeCells (Value.int .i64 0).cells (Int.toNat (m : Int) * i.size) = (pi l 0).toArray := by
    rw [← Array.toList_inj, hz1]
    show (madeCells #[Value.int .i64 0] _).toList = _
    rw [toList_madeCells_one, pi_zero, hl]
    simp
  rw [e]
  rfl

theorem mask_and (N s x : Nat) (hN : N < 4294967296) (h2 : x ≤ 32) :
    wrap64 (bits .and .u32 ((N : Int) / 2 ^ s) ((2 ^ x - 1) % 4294967296)) = ((N / 2 ^ s % 2 ^ x : Nat) : Int) := by
  have hp : (2 : Nat) ^ x ≤ 2 ^ 32 := Nat.pow_le_pow_right (by omega) h2
  have hp1 : 1 ≤ (2 : Nat) ^ x := Nat.two_pow_pos x
  have hm : ((2 : Int) ^ x - 1) % 4294967296 = ((2 ^ x - 1 : Nat) : Int) := by
    have e : ((2 : Int) ^ x) = ((2 ^ x : Nat) : Int) := by simp
    rw [e]
    generalize (2 : Nat) ^ x = p at hp hp1
    omega
  have hd : ((N : Int) / 2 ^ s) = ((N / 2 ^ s : Nat) : Int) := by simp
  have h5 : N / 2 ^ s ≤ N := Nat.div_le_self _ _
  have h6 : N / 2 ^ s % 2 ^ x ≤ N / 2 ^ s := Nat.mod_le _ _
  rw [hm, hd, u32_and_nat _ _ (by omega) (by omega), Nat.and_two_pow_sub_one_eq_mod, IntWalk.wrap64_in _ (by omega)]

theorem IntsAt.grown {w w' : World} {A : Option Addr} {xs : List Int} {r : Nat} (h : IntsAt w A xs) (hg : w.grownBy w' (some r)) (hne : ∀ b off, A = some ⟨b, off, none⟩ → b ≠ r) : IntsAt w' A xs := fun hx => by
  obtain ⟨b, off, h1, h2, h3⟩ := h hx
  exact ⟨b, off, h1, Nat.lt_of_lt_of_le h2 hg.size, fun i hi => (World.cell?_of_block (hg.block b h2 (by simpa using hne b off h1))).trans (h3 i hi)⟩

theorem unpack_cons {xs : List Int} {k : Nat} (hk : k < xs.length) (B : Int) (N : Nat) : unpack (xs.drop k) B N = ((N / 2 ^ (B - xs[k]).toNat % 2 ^ xs[k].toNat : Nat) : Int) :: unpack (xs.drop (k + 1)) (B - xs[k]) N := by
  rw [List.drop_eq_getElem_cons hk]; rfl

set_option maxHeartbeats 1000000 in
theorem rbits_ok (r : Nat) (a b : List UInt8) (A : Option Addr) (ca : Nat) (xs : List Int) (w : World) (h : RdAt w r (a ++ b) 0) (hx : IntsAt w A xs) (hl : xs.length ≤ 1000000) (hok : (togRes xs).2 = true) (ha : (a.length : Int) = (togRes xs).1) (hab : (a ++ b).length ≤ 100000000) (hne : ∀ b off, A = some ⟨b, off, none⟩ → b ≠ r) :
    Calls Try.prog 31 #[.pointer (some ⟨r, 0, none⟩), .slice A xs.length ca] w fun e w' => ∃ g, e = .returned (.slice (some ⟨g, 0, none⟩) xs.length xs.length) ∧ IntsAt w' (some ⟨g, 0, none⟩) (unpack xs (8 * a.length) (num a)) ∧ RdAt w' r b 0 ∧ w.grownBy w' (some r) := by
  obtain ⟨tot, m, ht0, hm0, hm3, hr0⟩ := tog_ok hok
  have ham : a.length = m := by rw [hr0] at ha; omega
  have hr := Lib.hid hr0
  have ht := Lib.hid ht0
  have hm := Lib.hid hm0
  have hm4 : m ≤ 4 := by omega
  have hN := num_4 a (by omega)
  have HAM := Lib.hid ham
  have hv : (unpack xs (8 * (a.length : Int)) (num a)).length = xs.length := unpack_length _ _ _
  rw [ham] at hv ⊢
  obtain ⟨vals, HV⟩ : ∃ vals, Hid (vals = unpack xs (8 * (m : Int)) (num a)) := ⟨_, rfl⟩
  rw [← HV.out] at hv ⊢
  obtain ⟨M, HM⟩ : ∃ M, Hid (M = num a) := ⟨_, rfl⟩
  rw [← HM.out] at hN
  have HN : Hid (M < 4294967296) := hN
  obtain ⟨q, Hq⟩ : ∃ q, Hid (q = xs.length) := ⟨_, rfl⟩
  rw [← Hq.out] at hl hv ⊢
  have HVL := Lib.hid hv
  have hmk := fun w => make_ints vals w q hl hv
  have HNE := Lib.hid hne
  clear ht0 hm0 hm3 hr0 hok ha ham hv hne
  go_enter Try.func31, Try.ntmps31
  go_wp2_with (first
    | (go_at_call 39; refine (err_any r (a ++ b) 0 _ h).mono ?_; rintro e w' ⟨rfl, rfl⟩)
    | (go_at_call 33; refine (together_eq _ _ xs _ hx (by rw [← Hq.out]; exact hl) _ Hq.out m true hr.out).mono ?_; rintro e w' ⟨rfl, rfl⟩)
    | (go_at_call 41; refine (rtext_ok r a b m _ h HAM.out.symm hab).mono ?_; rintro e w1 ⟨rfl, h1, hg1⟩; have c1 : w1.cell? ⟨r, 1, none⟩ = some (.int .i64 0) := lies_cell h1 1)
    | (go_at_call 40; refine (gather_list a w1 (by rw [HAM.out]; exact hm4)).mono ?_; rintro e w' ⟨rfl, rfl⟩; rw [← HM.out]))
  have hx1 := hx.grown hg1 HNE.out
  have hrl := lies_lt (w := w1) h1
  clear hmk
  go_loopw [9, 41] (fun v9 v41 wr => ∃ (k : Nat) (B : Int), k ≤ q ∧ v41 = .int .i64 k ∧ v9 = .int .i64 B ∧ 0 ≤ B ∧ B ≤ 32 ∧ wr.heap[w1.heap.size]? = some (.cells (pi vals k).toArray 3) ∧ Below w1.heap.size w1 wr ∧ Hid (togGo (xs.drop k) (8 * (m : Int) - B) = some (8 * (m : Int))) ∧ Hid (unpack (xs.drop k) B M = vals.drop k)) (fun _ v41 _ => q - (intOf v41).toNat)
  case atStart => exact ⟨0, 8 * m, Nat.zero_le _, rfl, rfl, by omega, by omega, heap_alloc_new w1 _, (Below.refl _ _).alloc (Nat.le_refl _) _, by show togGo xs _ = _; rw [Int.sub_self, ht.out, hm.out], by show unpack xs _ _ = vals; rw [HV.out, HM.out]⟩
  case round =>
    obtain ⟨k, B, hk, rfl, rfl, hB0, hB1, hrow, hbw, htk, huk⟩ := hrel
    by_cases hlt : k < q
    · have hk1 : k < xs.length := by rw [← Hq.out]; exact hlt
      have hkv : k < vals.length := by rw [HVL.out]; exact hlt
      obtain ⟨bx, ox, rfl, hbx, hcx0⟩ := hx1.get hk1
      obtain ⟨y1, y2, htk'⟩ := togGo_at hk1 htk.out
      have hle := tog_le _ _ _ htk'
      have hu := unpack_cons hk1 B M
      rw [huk.out, List.drop_eq_getElem_cons hkv] at hu
      obtain ⟨x, Hx⟩ : ∃ x : Nat, Hid ((x : Int) = xs[k]) := by
        obtain ⟨x, hx⟩ := Int.eq_ofNat_of_zero_le (show 0 ≤ xs[k] by omega)
        exact ⟨x, hx.symm⟩
      rw [← Hx.out] at hcx0 y1 y2 htk' hle hu
      injection hu with hu1 hu2
      have hcx : wr.cell? ⟨bx, ox + k, none⟩ = some (.int .i64 (x : Int)) := (hbw.cell hbx).trans hcx0
      have hpk : wr.cell? ⟨w1.heap.size, k, none⟩ = some (.int .i64 0) := by rw [lies_cell hrow k]; simpa using pi_at vals k hkv
      have hfk : wr.frozen? ⟨w1.heap.size, k, none⟩ = false := lies_frozen hrow k
      have hmask := mask_and M (B.toNat - x) x HN.out (by omega)
      have hsx : (B - (x : Int)).toNat = B.toNat - x := by omega
      rw [hsx, Int.toNat_natCast] at hu1
      have HU1 := Lib.hid hu1
      have HU2 := Lib.hid hu2
      have HTK := Lib.hid htk'
      have HROW := Lib.hid hrow
      have HMASK := Lib.hid hmask
      clear hu1 hu2 htk' hrow hmask hcx0 hsx
      have ikq : (k : Int) < (q : Int) := by omega
      go_wp2
      go_region
      go_wp2
      go_roundw
      case rel =>
        refine ⟨k + 1, B - x, by omega, by go_num, rfl, by omega, by omega, ?_, (hbw.setCell (p := ⟨w1.heap.size, k, none⟩) (Nat.le_refl _) _).drew, by show _ = _; rw [show 8 * (m : Int) - (B - x) = 8 * m - B + x by omega]; exact HTK.out, by show _ = _; exact HU2.out.symm⟩
        have := lies_set HROW.out k (.int .i64 (wrap64 (bits .and .u32 ((M : Int) / 2 ^ (B.toNat - x)) ((2 ^ x - 1) % 4294967296))))
        refine Eq.trans this ?_
        rw [List.setIfInBounds_toArray, pi_step vals k hkv _ (val_int (by rw [HMASK.out, HU1.out]))]
      case measure => simp [intOf]; omega
    · have hkv : k = vals.length := by rw [HVL.out]; omega
      have HKV := Lib.hid hkv; clear hkv
      have HROW := Lib.hid hrow; clear hrow
      go_wp2
      go_returns
      refine ⟨w1.heap.size, rfl, fun _ => ⟨w1.heap.size, 0, rfl, lies_lt HROW.out, fun i hi => ?_⟩, (hbw.block r hrl).trans h1, grown_trans hg1 (grown_of_below hbw)⟩
      rw [Nat.zero_add, lies_cell HROW.out i, HKV.out, pi_full]
      simp [hi]

end Go.Proofs.Ytneiemaepdknjaa.Bi
