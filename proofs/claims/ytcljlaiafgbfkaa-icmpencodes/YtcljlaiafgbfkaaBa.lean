/- An echo, as it is handed on and in memory; small facts on memory, on what a Writer holds, on bytes as lists. -/
import Derived.Test.YtcljlaiafgbfkaaBiWy
import Derived.Test.YtcljlaiafgbfkaaBiRef
import Derived.Test.YtcljlaiafgbfkaaBiOnes
import Derived.Test.YtcljlaiafgbfkaaIcMath
import Derived.Deep.RegionHeld3
import Derived.Deep.Cut
import Derived.Handy
import Derived.IntWalk
import Derived.Laws.IdiomStrings
namespace Go.Proofs.Ytcljlaiafgbfkaa
open Go.RowKit Go.Proofs.PitotIcmp
open Go.Proofs.PitotAddr (hi lo)
open Go.Proofs.Ytcljlaiafgbfkaa.Bi (WrAt putStep u8_any u16_any text_any lies_lt lies_cell lies_frozen lies_alloc)

/-- An echo, as it is handed on; in memory; the document's, in memory. -/
abbrev eo (a : Bool) (i q : Int) (s : ByteArray) : Value := .agg #[.bool a, .int .i64 i, .int .i64 q, .string s]
abbrev eoC (a : Bool) (i q : Int) (s : ByteArray) : Obj := .cells #[.bool a, .int .i64 i, .int .i64 q, .string s] 23
abbrev roC (a : Bool) (i q : Int) (s : ByteArray) : Obj := .cells #[.bool a, .int .i64 i, .int .i64 q, .string s] 29
abbrev wrz : Obj := .cells #[.pointer none, .string ⟨#[]⟩, .bool false] 41

section
variable {w w' : World} {g : Nat} {t : TypeId}
theorem lies_grown {cs : Array Value} {b : Nat} (h : w.heap[g]? = some (.cells cs t)) (hg : w.grownBy w' (some b)) (hne : g ≠ b) : w'.heap[g]? = some (.cells cs t) :=
  (hg.block g (lies_lt h) (by simpa using hne)).trans h
theorem lies_below {cs : Array Value} {n : Nat} (h : w.heap[g]? = some (.cells cs t)) (hb : Below n w w') (hl : g < n) : w'.heap[g]? = some (.cells cs t) := (hb.block g hl).trans h
theorem cells4 {x0 x1 x2 x3 : Value} (h : w.heap[g]? = some (.cells #[x0, x1, x2, x3] t)) :
    (w.cell? ⟨g, 0, none⟩ = some x0) ∧ (w.cell? ⟨g, 1, none⟩ = some x1) ∧ (w.cell? ⟨g, 2, none⟩ = some x2) ∧ (w.cell? ⟨g, 3, none⟩ = some x3) :=
  ⟨lies_cell h 0, lies_cell h 1, lies_cell h 2, lies_cell h 3⟩
end
theorem size_toList (s : ByteArray) : s.size = s.data.toList.length := by simp

/-- Text, U16, U8 at a Writer of which it is known what was written. -/
theorem text_step (K K' : List UInt8) (s : ByteArray) (hK : K' = K ++ s.data.toList) (h1 : K.length ≤ 900000) (h2 : s.size ≤ 1000000) (b n : Nat) (w : World) (h : WrAt w b n (some K)) :
    Calls Try.prog 17 #[.pointer (some ⟨b, 0, none⟩), .string s] w fun e w' => e = .returned (.tuple #[]) ∧ WrAt w' b (n + 1) (some K') ∧ w.grownBy w' (some b) := by
  refine (text_any b n (some K) s w h (fun l e => by cases e; omega) h2).mono fun e w' ⟨he, hw, hg⟩ => ⟨he, ?_, hg⟩
  rw [hK]; exact hw
theorem be2 (n : Nat) : PitotMath.be 2 n = [hi n, lo n] := by rw [Bi.be_cons 1 n, Bi.be_cons 0 n]; simp [PitotMath.be, lo, hi]
theorem fits16 (v : Nat) (hv : v < 65536) : Bi.fitsB (v : Int) (8 * ((2 : Nat) : Int)) = true := by
  unfold Bi.fitsB
  rw [decide_eq_true_eq]
  have e2 : (8 * ((2 : Nat) : Int)).toNat = 16 := rfl
  rw [e2]
  omega
theorem u16_step (K K' : List UInt8) (v : Nat) (hv : v < 65536) (hK : K' = K ++ [hi v, lo v]) (h1 : K.length ≤ 900000) (b n : Nat) (w : World) (h : WrAt w b n (some K)) :
    Calls Try.prog 16 #[.pointer (some ⟨b, 0, none⟩), .int .i64 v] w fun e w' => e = .returned (.tuple #[]) ∧ WrAt w' b (n + 1) (some K') ∧ w.grownBy w' (some b) := by
  have e1 : putStep (some K) 2 (v : Int) = some K' := by
    unfold putStep
    rw [if_pos (fits16 v hv), hK, ← be2]
    simp
  have h1 := u16_any b n (some K) v w h (fun l e => by cases e; omega)
  rw [e1] at h1
  exact h1
theorem fits8 (v : UInt8) : Bi.fitsB (v.toNat : Int) (8 * ((1 : Nat) : Int)) = true := by
  unfold Bi.fitsB
  rw [decide_eq_true_eq]
  have e2 : (8 * ((1 : Nat) : Int)).toNat = 8 := rfl
  rw [e2]
  have := v.toNat_lt
  omega
theorem u8_step (K K' : List UInt8) (v : UInt8) (hK : K' = K ++ [v]) (h1 : K.length ≤ 900000) (b n : Nat) (w : World) (h : WrAt w b n (some K)) :
    Calls Try.prog 14 #[.pointer (some ⟨b, 0, none⟩), .int .i64 v.toNat] w fun e w' => e = .returned (.tuple #[]) ∧ WrAt w' b (n + 1) (some K') ∧ w.grownBy w' (some b) := by
  have e1 : putStep (some K) 1 (v.toNat : Int) = some K' := by
    unfold putStep
    rw [if_pos (fits8 v), hK, Bi.be_cons 0]
    simp [PitotMath.be]
  have h1 := u8_any b n (some K) v.toNat w h (fun l e => by cases e; omega)
  rw [e1] at h1
  exact h1
theorem wr_new {X : World} {b : Nat} (h : X.heap[b]? = some wrz) : WrAt X b 0 (some []) :=
  ⟨none, ⟨#[]⟩, [], h, rfl, by simp, rfl⟩
end Go.Proofs.Ytcljlaiafgbfkaa
