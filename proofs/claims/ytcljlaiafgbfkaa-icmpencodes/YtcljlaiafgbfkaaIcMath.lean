/- Plain facts on echoes of ICMP as lists of bytes. No conditions. -/
import Derived.Test.YtcljlaiafgbfkaaIpMath
namespace Go.Proofs.PitotIcmp
open Go.Proofs.PitotAddr
open Go.Proofs.PitotMath (s16 f16 ones ones_le)

/-- The first eight bytes, whatever they are. -/
structure E8 where
  k : UInt8
  z : UInt8
  s1 : UInt8
  s0 : UInt8
  i1 : UInt8
  i0 : UInt8
  q1 : UInt8
  q0 : UInt8
def E8.list (h : E8) : List UInt8 := [h.k, h.z, h.s1, h.s0, h.i1, h.i0, h.q1, h.q0]
/-- .. with the sum's bytes being 0. -/
def E8.bare (h : E8) : List UInt8 := [h.k, h.z, 0, 0, h.i1, h.i0, h.q1, h.q0]
theorem E8.list_length (h : E8) : h.list.length = 8 := rfl
theorem E8.bare_length (h : E8) : h.bare.length = 8 := rfl
theorem E8.of (l : List UInt8) (h : 8 ≤ l.length) : ∃ (x : E8) (t : List UInt8), l = x.list ++ t := by
  match l, h with
  | x0 :: x1 :: x2 :: x3 :: x4 :: x5 :: x6 :: x7 :: t, _ => exact ⟨⟨x0, x1, x2, x3, x4, x5, x6, x7⟩, t, rfl⟩
theorem E8.inj {h g : E8} (e : h.list = g.list) : h = g := by
  obtain ⟨_, _, _, _, _, _, _, _⟩ := h
  obtain ⟨_, _, _, _, _, _, _, _⟩ := g
  simp [E8.list] at e
  simp [e]

/-- It is taken. -/
structure E8.Good (h : E8) (t : List UInt8) : Prop where
  k : h.k = 8 ∨ h.k = 0
  z : h.z = 0
  sum : num h.s1 h.s0 = ones (h.bare ++ t)

def kind (answer : Bool) : UInt8 := if answer = true then 0 else 8
/-- What is written. -/
def ec (answer : Bool) (id seq sum : Nat) : E8 := ⟨kind answer, 0, hi sum, lo sum, hi id, lo id, hi seq, lo seq⟩
def sumOf (answer : Bool) (id seq : Nat) (d : List UInt8) : Nat := ones ((ec answer id seq 0).bare ++ d)
def ecOk (answer : Bool) (id seq : Nat) (d : List UInt8) : E8 := ec answer id seq (sumOf answer id seq d)
theorem ec_bare (answer : Bool) (id seq a : Nat) : (ec answer id seq a).bare = (ec answer id seq 0).bare := rfl
theorem ec_zero (answer : Bool) (id seq : Nat) : (ec answer id seq 0).list = (ec answer id seq 0).bare := rfl
/-- An echo's bytes. -/
def bytes (answer : Bool) (id seq : Nat) (d : List UInt8) : List UInt8 := (ecOk answer id seq d).list ++ d
theorem bytes_length (answer : Bool) (id seq : Nat) (d : List UInt8) : (bytes answer id seq d).length = 8 + d.length := by simp [bytes, E8.list_length]

theorem sumOf_le (answer : Bool) (id seq : Nat) (d : List UInt8) : sumOf answer id seq d ≤ 65535 := ones_le _
theorem ecOk_good (answer : Bool) (id seq : Nat) (d : List UInt8) : (ecOk answer id seq d).Good d := by
  have h := sumOf_le answer id seq d
  refine ⟨?_, rfl, ?_⟩
  · show kind answer = 8 ∨ kind answer = 0
    cases answer <;> simp [kind]
  · show num (hi (sumOf answer id seq d)) (lo (sumOf answer id seq d)) = ones ((ecOk answer id seq d).bare ++ d)
    rw [num_hi_lo _ (by omega), ecOk, ec_bare]
    rfl
theorem ecOk_answer (answer : Bool) (id seq : Nat) (d : List UInt8) : ((ecOk answer id seq d).k == 0) = answer := by
  show (kind answer == 0) = answer
  cases answer <;> rfl
theorem ecOk_id (answer : Bool) (id seq : Nat) (d : List UInt8) (h : id < 65536) : num (ecOk answer id seq d).i1 (ecOk answer id seq d).i0 = id := num_hi_lo id h
theorem ecOk_seq (answer : Bool) (id seq : Nat) (d : List UInt8) (h : seq < 65536) : num (ecOk answer id seq d).q1 (ecOk answer id seq d).q0 = seq := num_hi_lo seq h

/-- What is taken is what is written. -/
theorem good_ec (h : E8) (t : List UInt8) (g : h.Good t) : h = ecOk (h.k == 0) (num h.i1 h.i0) (num h.q1 h.q0) t := by
  have hk : kind (h.k == 0) = h.k := by
    rcases g.k with e | e
    · rw [e]; rfl
    · rw [e]; rfl
  have e1 : ec (h.k == 0) (num h.i1 h.i0) (num h.q1 h.q0) (num h.s1 h.s0) = h := by
    have gz := g.z
    obtain ⟨k, z, s1, s0, i1, i0, q1, q0⟩ := h
    simp only at gz hk
    simp [ec, hi_num, lo_num, gz, hk]
  have e2 : sumOf (h.k == 0) (num h.i1 h.i0) (num h.q1 h.q0) t = num h.s1 h.s0 := by
    rw [g.sum]
    unfold sumOf
    rw [← ec_bare _ _ _ (num h.s1 h.s0), e1]
  rw [ecOk, e2, e1]
theorem again (h : E8) (t : List UInt8) (g : h.Good t) : bytes (h.k == 0) (num h.i1 h.i0) (num h.q1 h.q0) t = h.list ++ t := by
  rw [bytes, ← good_ec h t g]
/-- The document's way to tell the sum: what is encoded anew is the same. -/
theorem anew (h : E8) (t : List UInt8) (hk : h.k = 8 ∨ h.k = 0) (hz : h.z = 0) : bytes (h.k == 0) (num h.i1 h.i0) (num h.q1 h.q0) t = h.list ++ t ↔ num h.s1 h.s0 = ones (h.bare ++ t) := by
  refine ⟨fun e => ?_, fun e => again h t ⟨hk, hz, e⟩⟩
  have e2 := (List.append_inj e rfl).1
  have e3 := E8.inj e2
  have := (ecOk_good (h.k == 0) (num h.i1 h.i0) (num h.q1 h.q0) t).sum
  rw [e3] at this
  exact this

/-- Why there is no echo; 0: there is one. -/
def eerr (h : E8) (t : List UInt8) : Int :=
  if 64 < t.length then 11 else if (h.k ≠ 8 ∧ h.k ≠ 0) ∨ h.z ≠ 0 then 13 else if num h.s1 h.s0 ≠ ones (h.bare ++ t) then 12 else 0
theorem eerr_zero (h : E8) (t : List UInt8) : eerr h t = 0 ↔ h.Good t ∧ t.length ≤ 64 := by
  unfold eerr
  constructor
  · intro e
    split at e
    · cases e
    · split at e
      · cases e
      · split at e
        · cases e
        · rename_i a b c
          have hz : h.z = 0 := by
            by_cases q : h.z = 0
            · exact q
            · exact absurd (.inr q) b
          have hk : h.k = 8 ∨ h.k = 0 := by
            by_cases q : h.k = 8
            · exact .inl q
            · by_cases r : h.k = 0
              · exact .inr r
              · exact absurd (.inl ⟨q, r⟩) b
          exact ⟨⟨hk, hz, by simpa using c⟩, by omega⟩
  · rintro ⟨g, hl⟩
    have gk := g.k
    rw [if_neg (by omega), if_neg (fun q => q.elim (fun ab => gk.elim ab.1 ab.2) (fun a => a g.z)), if_neg (by simp [g.sum])]
end Go.Proofs.PitotIcmp
