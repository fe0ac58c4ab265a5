/- Plain facts on frames as lists of bytes. No conditions. -/
import Derived.Test.YthlpehiloabfiaaCrMath
import Derived.Test.YthlpehiloabfiaaAdMath
namespace Go.Proofs.PitotEther
open Go.Proofs.PitotCrc Go.Proofs.PitotAddr

/-- Bytes 0 behind, up to 45. -/
def pad (d : List UInt8) : List UInt8 := d ++ List.replicate (45 - d.length) 0
theorem pad_length (d : List UInt8) : (pad d).length = max d.length 45 := by simp [pad]; omega
theorem pad_long (d : List UInt8) (h : 45 ≤ d.length) : pad d = d := by simp [pad, show 45 - d.length = 0 by omega]
theorem pad_take (d : List UInt8) : (pad d).take d.length = d := by simp [pad]
theorem pad_zero (d : List UInt8) (k : Nat) (h1 : d.length ≤ k) (h2 : k < (pad d).length) : (pad d)[k] = 0 := by
  have h2' : k < (d ++ List.replicate (45 - d.length) (0 : UInt8)).length := h2
  show (d ++ List.replicate (45 - d.length) (0 : UInt8))[k] = 0
  rw [List.getElem_append_right h1, List.getElem_replicate]

def linkB (v : Nat) : List UInt8 := [3, 0, 0, 0, hi v, lo v]
def srcB (n p : Nat) : List UInt8 := [2, 0, 0, hi n, lo n, lo (32 * (p + 1))]
/-- All that is ahead of Data. -/
def ahead (v n p : Nat) : List UInt8 := [3, 0, 0, 0, hi v, lo v, 2, 0, 0, hi n, lo n, lo (32 * (p + 1)), 8, 0]
/-- All that is sealed. -/
def body (v n p q : Nat) (d : List UInt8) : List UInt8 := ahead v n p ++ (pad d ++ [lo q])
def bytes (v n p q : Nat) (d : List UInt8) : List UInt8 := sealed (body v n p q d)

theorem ahead_eq (v n p : Nat) : ahead v n p = linkB v ++ srcB n p ++ [8, 0] := rfl
theorem body_length (v n p q : Nat) (d : List UInt8) : (body v n p q d).length = max d.length 45 + 15 := by
  simp [body, ahead, pad_length]
theorem bytes_length (v n p q : Nat) (d : List UInt8) : (bytes v n p q d).length = max d.length 45 + 19 := by
  rw [bytes, sealed_length, body_length]
theorem bytes_opened (v n p q : Nat) (d : List UInt8) : opened (bytes v n p q d) = true := opened_sealed _
theorem bytes_take (v n p q : Nat) (d : List UInt8) : (bytes v n p q d).take (max d.length 45 + 15) = body v n p q d := by
  rw [← body_length v n p q d, bytes, sealed]; simp
theorem body_link (v n p q : Nat) (d : List UInt8) : (body v n p q d).take 6 = linkB v := by simp [body, ahead, linkB]
theorem body_src (v n p q : Nat) (d : List UInt8) : ((body v n p q d).drop 6).take 6 = srcB n p := by simp [body, ahead, srcB]
theorem body_kind (v n p q : Nat) (d : List UInt8) : ((body v n p q d).drop 12).take 2 = [8, 0] := by simp [body, ahead]
theorem body_data (v n p q : Nat) (d : List UInt8) : ((body v n p q d).drop 14).take (max d.length 45) = pad d := by
  rw [← pad_length]; simp [body, ahead]
theorem body_last (v n p q : Nat) (d : List UInt8) : (body v n p q d)[max d.length 45 + 14]? = some (lo q) := by
  have e : body v n p q d = (ahead v n p ++ pad d) ++ [lo q] := by simp [body]
  have h : (ahead v n p ++ pad d).length = max d.length 45 + 14 := by simp [ahead, pad_length]; try omega
  rw [e, List.getElem?_append_right (by omega), h]; simp
/-- The whole's first bytes are the body's. -/
theorem bytes_front (v n p q : Nat) (d : List UInt8) (k : Nat) (h : k ≤ max d.length 45 + 15) : (bytes v n p q d).take k = (body v n p q d).take k := by
  rw [← bytes_take v n p q d, List.take_take, Nat.min_eq_left h]

theorem link_isVL (v : Nat) (h1 : 1 ≤ v) (h2 : v ≤ 65535) : (M6.mk 3 0 0 0 (hi v) (lo v)).isVL = true := by
  simp [M6.isVL, num_hi_lo v (by omega), h1]
theorem src_isEnd (n p : Nat) (h1 : n ≤ 4095) (h2 : p ≤ 1) : (M6.mk 2 0 0 (hi n) (lo n) (lo (32 * (p + 1)))).isEnd p = true := by
  simp [M6.isEnd, num_hi_lo n (by omega), h1, lo_nat]; omega
theorem src_isEnd_not (n p k : Nat) (h2 : p ≤ 1) (_hk : k ≤ 1) (h : k ≠ p) : (M6.mk 2 0 0 (hi n) (lo n) (lo (32 * (p + 1)))).isEnd k = false := by
  simp [M6.isEnd, lo_nat]; omega

/-- What is an address of a link is that link's. -/
theorem isVL_link (m : M6) (h : m.isVL = true) : m.bytes = linkB (num m.e m.f) := by
  obtain ⟨a, b, c, d, e, f⟩ := m
  simp [M6.isVL] at h
  obtain ⟨⟨⟨⟨rfl, rfl⟩, rfl⟩, rfl⟩, _⟩ := h
  simp [M6.bytes, linkB, hi_num, lo_num]
theorem isEnd_src (m : M6) (k : Nat) (hk : k ≤ 1) (h : m.isEnd k = true) : m.bytes = srcB (num m.d m.e) k := by
  obtain ⟨a, b, c, d, e, f⟩ := m
  simp [M6.isEnd] at h
  obtain ⟨⟨⟨⟨rfl, rfl⟩, rfl⟩, _⟩, hf⟩ := h
  have : lo (32 * (k + 1)) = f := by apply UInt8.toNat.inj; rw [lo_nat, hf]; omega
  simp [M6.bytes, srcB, hi_num, lo_num, this]

/-- What is decoded is encoded as the same bytes. -/
theorem again (l : List UInt8) (m s : M6) (k : Nat) (d : List UInt8) (q : UInt8) (hk : k ≤ 1) (ho : opened l = true) (hm : m.isVL = true) (hs : s.isEnd k = true) (hd : 45 ≤ d.length)
    (hl : l.take (l.length - 4) = m.bytes ++ s.bytes ++ [8, 0] ++ d ++ [q]) : bytes (num m.e m.f) (num s.d s.e) k q.toNat d = l := by
  have h1 : sealed (l.take (l.length - 4)) = l := by simpa [opened] using ho
  rw [← h1, hl, isVL_link m hm, isEnd_src s k hk hs]
  unfold bytes body
  have e : lo q.toNat = q := by apply UInt8.toNat.inj; rw [lo_nat]; exact Nat.mod_eq_of_lt q.toNat_lt
  rw [pad_long d hd, ahead_eq, e]
  simp

/-- One byte that is another one. -/
theorem told (v n p q : Nat) (d : List UInt8) (k : Nat) (hk : k < (bytes v n p q d).length) (x : UInt8) (hx : x ≠ (bytes v n p q d)[k]) : opened ((bytes v n p q d).set k x) = false := opened_turn _ k hk x hx

/-- A and B. -/
theorem sides (v n q : Nat) (d : List UInt8) : (bytes v n 0 q d).take 11 = (bytes v n 1 q d).take 11 ∧
    ((bytes v n 0 q d).take (max d.length 45 + 15)).drop 12 = ((bytes v n 1 q d).take (max d.length 45 + 15)).drop 12 ∧
    (bytes v n 0 q d)[11]? = some 32 ∧ (bytes v n 1 q d)[11]? = some 64 ∧
    (bytes v n 0 q d).drop (max d.length 45 + 15) ≠ (bytes v n 1 q d).drop (max d.length 45 + 15) := by
  refine ⟨?_, ?_, ?_, ?_, ?_⟩
  · rw [bytes_front _ _ _ _ _ _ (by omega), bytes_front _ _ _ _ _ _ (by omega)]; simp [body, ahead]
  · rw [bytes_take, bytes_take]; simp [body, ahead]
  · simp [bytes, sealed, body, ahead]; decide
  · simp [bytes, sealed, body, ahead]; decide
  · have e : ∀ p, (bytes v n p q d).drop (max d.length 45 + 15) = le4 (sum (body v n p q d)) := fun p => by
      rw [← body_length v n p q d, bytes, sealed]; simp
    rw [e 0, e 1]
    intro h
    have h1 := le4_inj _ _ (sum_lt _) (sum_lt _) h
    have e2 : ∀ p, body v n p q d = [3, 0, 0, 0, hi v, lo v, 2, 0, 0, hi n, lo n] ++ lo (32 * (p + 1)) :: ([8, 0] ++ (pad d ++ [lo q])) := fun p => by simp [body, ahead]
    rw [e2 0, e2 1] at h1
    have h2 := sum_turn _ _ _ _ h1
    exact absurd h2 (by decide)
end Go.Proofs.PitotEther
