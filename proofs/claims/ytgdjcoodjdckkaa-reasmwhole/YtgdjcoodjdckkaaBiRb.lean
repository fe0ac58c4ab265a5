/- Contracts of the program's Reader: Bits; and of the law's ints. -/
import Derived.Test.YtgdjcoodjdckkaaBiRd
import Derived.Test.YtgdjcoodjdckkaaBiRx
namespace Go.Proofs.Ytgdjcoodjdckkaa.Bi
open Go.RowKit Go.Proofs.PitotMath

/-- The numbers that a number of so many bits is, each so many bits wide, the first one highest. -/
def unpack : List Int → Int → Nat → List Int
  | [], _, _ => []
  | x :: xs, bits, a => ((a / 2 ^ (bits - x).toNat % 2 ^ x.toNat : Nat) : Int) :: unpack xs (bits - x) a

/-- What is packed on top of a stays above. -/
theorem pack_high : ∀ (xs ns : List Int) (a r : Nat) (S tot : Int), 0 ≤ S → xs.length = ns.length → togGo xs S = some tot → packGo xs ns a = some r → S ≤ tot ∧ r / 2 ^ (tot - S).toNat = a
  | [], [], a, r, S, tot, _, _, h, hp => by
    simp only [togGo, Option.some.injEq] at h
    simp only [packGo, Option.some.injEq] at hp
    subst h hp
    simp
  | x :: xs, n :: ns, a, r, S, tot, hS, hl, h, hp => by
    simp only [togGo] at h
    split at h
    · cases h
    · next hx =>
      simp only [packGo] at hp
      split at hp
      · next hf =>
        obtain ⟨u, rfl, hu⟩ := fits_nat hf
        obtain ⟨h1, h2⟩ := pack_high xs ns _ r (S + x) tot (by omega) (by simpa using hl) h hp
        refine ⟨by omega, ?_⟩
        have e : (tot - S).toNat = (tot - (S + x)).toNat + x.toNat := by omega
        rw [e, Nat.pow_add, ← Nat.div_div_eq_div_mul, h2]
        simp only [Int.toNat_natCast]
        rw [Nat.mul_comm a, Nat.mul_add_div (Nat.two_pow_pos _), Nat.div_eq_of_lt hu, Nat.add_zero]
      · cases hp

theorem unpack_pack : ∀ (xs ns : List Int) (a r : Nat) (S tot : Int), 0 ≤ S → xs.length = ns.length → togGo xs S = some tot → packGo xs ns a = some r → unpack xs (tot - S) r = ns
  | [], [], _, _, _, _, _, _, _, _ => rfl
  | x :: xs, n :: ns, a, r, S, tot, hS, hl, h, hp => by
    simp only [togGo] at h
    split at h
    · cases h
    · next hx =>
      simp only [packGo] at hp
      split at hp
      · next hf =>
        obtain ⟨u, rfl, hu⟩ := fits_nat hf
        have hh := pack_high xs ns _ r (S + x) tot (by omega) (by simpa using hl) h hp
        have ih := unpack_pack xs ns _ r (S + x) tot (by omega) (by simpa using hl) h hp
        have e : tot - S - x = tot - (S + x) := by omega
        simp only [unpack, e, ih, hh.2, Int.toNat_natCast]
        have : (a * 2 ^ x.toNat + u) % 2 ^ x.toNat = u := by
          rw [Nat.mul_comm, Nat.mul_add_mod, Nat.mod_eq_of_lt hu]
        rw [this]
      · cases hp

theorem unpack_length : ∀ (xs : List Int) (b : Int) (a : Nat), (unpack xs b a).length = xs.length
  | [], _, _ => rfl
  | x :: xs, b, a => by simp [unpack, unpack_length xs]

theorem tog_le : ∀ (xs : List Int) (S tot : Int), togGo xs S = some tot → S ≤ tot
  | [], S, tot, h => by simp only [togGo, Option.some.injEq] at h; omega
  | x :: xs, S, tot, h => by
    simp only [togGo] at h
    split at h
    · cases h
    · have := tog_le xs (S + x) tot h; omega

/-- The cells of a row of ints of which the first k are written. -/
def pi (l : List Int) (k : Nat) : List Value := (l.take k).map (fun c => Value.int .i64 c) ++ List.replicate (l.length - k) (.int .i64 0)

theorem pi_zero (l : List Int) : pi l 0 = List.replicate l.length (.int .i64 0) := by simp [pi]
theorem pi_full (l : List Int) : pi l l.length = l.map (fun c => Value.int .i64 c) := by simp [pi]

theorem pi_at (l : List Int) (k : Nat) (h : k < l.length) : (pi l k)[k]? = some (.int .i64 0) := by
  unfold pi
  have hm : min k l.length = k := Nat.min_eq_left (Nat.le_of_lt h)
  rw [List.getElem?_append_right (by simp; omega)]
  simp only [List.length_map, List.length_take, hm, Nat.sub_self]
  rw [List.getElem?_replicate, if_pos (by omega)]

theorem pi_step (l : List Int) (k : Nat) (h : k < l.length) (v : Value) (hv : v = .int .i64 l[k]) : (pi l k).set k v = pi l (k + 1) := by
  subst hv
  unfold pi
  rw [List.take_succ_eq_append_getElem h, List.map_append]
  obtain ⟨d, hd⟩ : ∃ d, l.length - k = d + 1 := ⟨l.length - k - 1, by omega⟩
  have hd' : l.length - (k + 1) = d := by omega
  rw [hd, hd', List.replicate_succ, List.set_append_right _ _ (by simp; omega)]
  simp [Nat.min_eq_left (Nat.le_of_lt h)]

theorem Try.info3 : (Try.prog.info? 3).map (fun i => (i.zero, i.size, i.bytes)) = some (some (.int .i64 0), 1, 8) := by kernel_rfl

theorem mask_and (N s x : Nat) (hN : N < 4294967296) (h2 : x ≤ 32) :
    wrap64 (bits .and .u32 ((N : Int) / 2 ^ s) ((2 ^ x - 1) % 4294967296)) = ((N / 2 ^ s % 2 ^ x : Nat) : Int) := by
  have hp : (2 : Nat) ^ x ≤ 2 ^ 32 := Nat.pow_le_pow_right (by omega) h2
  have hp1 : 1 ≤ (2 : Nat) ^ x := Nat.two_pow_pos x
  have hm : ((2 : Int) ^ x - 1) % 4294967296 = ((2 ^ x - 1 : Nat) : Int) := by
    have e : ((2 : Int) ^ x) = ((2 ^ x : Nat) : Int) := by simp
    rw [e]
    generalize (2 : Nat) ^ x = p at hp hp1
    omega
  have hd : ((N : Int) / 2 ^ s) = ((N / 2 ^ s : Nat) : Int) := by simp
  have h5 : N / 2 ^ s ≤ N := Nat.div_le_self _ _
  have h6 : N / 2 ^ s % 2 ^ x ≤ N / 2 ^ s := Nat.mod_le _ _
  rw [hm, hd, u32_and_nat _ _ (by omega) (by omega), Nat.and_two_pow_sub_one_eq_mod, IntWalk.wrap64_in _ (by omega)]

theorem IntsAt.grown {w w' : World} {A : Option Addr} {xs : List Int} {r : Nat} (h : IntsAt w A xs) (hg : w.grownBy w' (some r)) (hne : ∀ b off, A = some ⟨b, off, none⟩ → b ≠ r) : IntsAt w' A xs := fun hx => by
  obtain ⟨b, off, h1, h2, h3⟩ := h hx
  exact ⟨b, off, h1, Nat.lt_of_lt_of_le h2 hg.size, fun i hi => (World.cell?_of_block (hg.block b h2 (by simpa using hne b off h1))).trans (h3 i hi)⟩

theorem unpack_cons {xs : List Int} {k : Nat} (hk : k < xs.length) (B : Int) (N : Nat) : unpack (xs.drop k) B N = ((N / 2 ^ (B - xs[k]).toNat % 2 ^ xs[k].toNat : Nat) : Int) :: unpack (xs.drop (k + 1)) (B - xs[k]) N := by
  rw [List.drop_eq_getElem_cons hk]; rfl

end Go.Proofs.Ytgdjcoodjdckkaa.Bi
