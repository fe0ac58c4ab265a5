/- Packets in memory, one behind the other; and judge. -/
import Derived.Test.YtgdjcoodjdckkaaAw
import Derived.Deep.AppendLies
import Derived.Deep.DeepFit
set_option maxRecDepth 100000
namespace Go.Proofs.Ytgdjcoodjdckkaa
open Go.RowKit Go.Proofs.PitotFrag Go.Proofs.PitotIp
open Go.Proofs.Ytgdjcoodjdckkaa.Bi (lies_lt lies_cell lies_frozen lies_alloc)

/-- A packet. -/
structure Pk where
  id : Int
  m : Bool
  off : Int
  ttl : Int
  pr : Int
  a : Q4
  b : Q4
  s : ByteArray
abbrev Pk.val (p : Pk) : Value := pk p.id p.m p.off p.ttl p.pr p.a p.b p.s
abbrev Pk.obj (p : Pk) : Obj := pkC p.id p.m p.off p.ttl p.pr p.a p.b p.s
abbrev Pk.enc (p : Pk) : List Value := [.int .i64 p.id, .bool p.m, .int .i64 p.off, .int .i64 p.ttl, .int .i64 p.pr, .int .u8 p.a.a.toNat, .int .u8 p.a.b.toNat, .int .u8 p.a.c.toNat, .int .u8 p.a.d.toNat, .int .u8 p.b.a.toNat, .int .u8 p.b.b.toNat, .int .u8 p.b.c.toNat, .int .u8 p.b.d.toNat, .string p.s]
theorem Pk.enc_length (p : Pk) : p.enc.length = 14 := rfl
theorem Pk.enc_one (p : Pk) : ∀ u ∈ p.enc, u.oneCell' = true := by
  intro u hu
  simp only [Pk.enc, List.mem_cons, List.not_mem_nil, or_false] at hu
  rcases hu with rfl | rfl | rfl | rfl | rfl | rfl | rfl | rfl | rfl | rfl | rfl | rfl | rfl | rfl <;> rfl
def flatP (l : List Pk) : List Value := l.flatMap Pk.enc
theorem flatP_snoc (l : List Pk) (p : Pk) : flatP (l ++ [p]) = flatP l ++ p.enc := by simp [flatP]
theorem flatP_length : ∀ l : List Pk, (flatP l).length = l.length * 14
  | [] => rfl
  | x :: r => by
    show (x.enc ++ flatP r).length = _
    rw [List.length_append, Pk.enc_length, flatP_length r]; simp; omega
theorem flatP_get : ∀ (l : List Pk) (i : Nat) (h : i < l.length) (j : Nat), j < 14 → (flatP l)[i * 14 + j]? = l[i].enc[j]?
  | x :: r, 0, _, j, hj => by
    show (x.enc ++ flatP r)[0 * 14 + j]? = _
    rw [Nat.zero_mul, Nat.zero_add, List.getElem?_append_left (by rw [Pk.enc_length]; exact hj)]
    rfl
  | x :: r, i + 1, h, j, hj => by
    show (x.enc ++ flatP r)[(i + 1) * 14 + j]? = _
    rw [List.getElem?_append_right (by rw [Pk.enc_length]; omega), Pk.enc_length, show (i + 1) * 14 + j - 14 = i * 14 + j by omega, flatP_get r i (by simpa using h) j hj]
    rfl

/-- A packet's cells. -/
def PkAt (w : World) (b o : Nat) (p : Pk) : Prop :=
  w.cell? ⟨b, o, none⟩ = some (.int .i64 p.id) ∧ w.cell? ⟨b, o + 1, none⟩ = some (.bool p.m) ∧ w.cell? ⟨b, o + 2, none⟩ = some (.int .i64 p.off) ∧ w.cell? ⟨b, o + 3, none⟩ = some (.int .i64 p.ttl) ∧ w.cell? ⟨b, o + 4, none⟩ = some (.int .i64 p.pr) ∧ w.cell? ⟨b, o + 5, none⟩ = some (.int .u8 p.a.a.toNat) ∧ w.cell? ⟨b, o + 6, none⟩ = some (.int .u8 p.a.b.toNat) ∧ w.cell? ⟨b, o + 7, none⟩ = some (.int .u8 p.a.c.toNat) ∧ w.cell? ⟨b, o + 8, none⟩ = some (.int .u8 p.a.d.toNat) ∧ w.cell? ⟨b, o + 9, none⟩ = some (.int .u8 p.b.a.toNat) ∧ w.cell? ⟨b, o + 10, none⟩ = some (.int .u8 p.b.b.toNat) ∧ w.cell? ⟨b, o + 11, none⟩ = some (.int .u8 p.b.c.toNat) ∧ w.cell? ⟨b, o + 12, none⟩ = some (.int .u8 p.b.d.toNat) ∧ w.cell? ⟨b, o + 13, none⟩ = some (.string p.s)
/-- Packets as they lie in memory. -/
def PksAt (w : World) (A : Option Addr) (l : List Pk) : Prop :=
  l ≠ [] → ∃ b off, A = some ⟨b, off, none⟩ ∧ b < w.heap.size ∧ ∀ i (h : i < l.length), PkAt w b (off + i * 14) l[i]
theorem PksAt.get {w : World} {A : Option Addr} {l : List Pk} (h : PksAt w A l) {k : Nat} (hk : k < l.length) :
    ∃ b off, A = some ⟨b, off, none⟩ ∧ b < w.heap.size ∧ PkAt w b (off + k * 14) l[k] := by
  obtain ⟨b, off, h1, h2, h3⟩ := h (fun e => by subst e; simp at hk)
  exact ⟨b, off, h1, h2, h3 k hk⟩
theorem PkAt.of_cells {w w' : World} {b o : Nat} {p : Pk} (h : PkAt w b o p) (hc : ∀ k, w'.cell? ⟨b, k, none⟩ = w.cell? ⟨b, k, none⟩) : PkAt w' b o p := by
  obtain ⟨h0, h1, h2, h3, h4, h5, h6, h7, h8, h9, h10, h11, h12, h13⟩ := h
  exact ⟨(hc _).trans h0, (hc _).trans h1, (hc _).trans h2, (hc _).trans h3, (hc _).trans h4, (hc _).trans h5, (hc _).trans h6, (hc _).trans h7, (hc _).trans h8, (hc _).trans h9, (hc _).trans h10, (hc _).trans h11, (hc _).trans h12, (hc _).trans h13⟩
theorem PkAt.below {w w' : World} {b o B : Nat} {p : Pk} (h : PkAt w b o p) (hb : Below B w w') (hlt : b < B) : PkAt w' b o p :=
  h.of_cells fun _ => hb.cell hlt
theorem PksAt.below {w w' : World} {A : Option Addr} {l : List Pk} (h : PksAt w A l) (hb : Below w.heap.size w w') : PksAt w' A l := by
  intro hne
  obtain ⟨b, off, h1, h2, h3⟩ := h hne
  exact ⟨b, off, h1, Nat.lt_of_lt_of_le h2 hb.size, fun i hi => (h3 i hi).below hb h2⟩
theorem PksAt.of_row {w : World} {base : Nat} {v : Value} {l : List Pk} {n : Nat} (h : w.ownsRow base 34 14 v n (flatP l)) (hn : n = l.length) (hpos : 0 < n) : ∃ g cap, v = .slice (some ⟨g, 0, none⟩) n cap ∧ base ≤ g ∧ g < w.heap.size ∧ PksAt w (some ⟨g, 0, none⟩) l := by
  obtain ⟨g, cap, rfl, hg, hlt⟩ := h.form hpos
  refine ⟨g, cap, rfl, hg, hlt, fun _ => ⟨g, 0, rfl, hlt, fun i hi => ?_⟩⟩
  have hc : ∀ j (hj : j < 14), w.cell? ⟨g, 0 + i * 14 + j, none⟩ = some (l[i].enc[j]'(by rw [Pk.enc_length]; exact hj)) := fun j hj => by
    have := h.cells (g := g) rfl (i * 14 + j) (l[i].enc[j]'(by rw [Pk.enc_length]; exact hj)) (by rw [flatP_get l i hi j hj]; exact List.getElem?_eq_getElem _)
    rw [show (⟨g, 0, none⟩ : Addr).add (i * 14 + j) = ⟨g, i * 14 + j, none⟩ by unfold Addr.add; split <;> simp_all] at this
    rw [Nat.zero_add]
    exact this
  exact ⟨hc 0 (by omega), hc 1 (by omega), hc 2 (by omega), hc 3 (by omega), hc 4 (by omega), hc 5 (by omega), hc 6 (by omega), hc 7 (by omega), hc 8 (by omega), hc 9 (by omega), hc 10 (by omega), hc 11 (by omega), hc 12 (by omega), hc 13 (by omega)⟩

/-- What judge answers. -/
def jd (p : Pk) (ahead : Nat) (last : Bool) : Int :=
  if p.off ≠ ((ahead / 8 : Nat) : Int) then 25 else if p.m = true ∧ (p.s.size = 0 ∨ p.s.size % 8 ≠ 0) then 15 else if p.m = false ∧ last = false then 25 else 0

set_option maxHeartbeats 1000000 in
theorem judge_any (p : Pk) (ahead : Nat) (last : Bool) (hs : p.s.size ≤ 1000000) (hh : ahead ≤ 1000000000) (w : World) :
    Calls Try.prog 41 #[p.val, .int .i64 ahead, .bool last] w fun e w' => e = .returned (.int .i64 (jd p ahead last)) ∧ Below w.heap.size w w' := by
  obtain ⟨id, m, off, ttl, pr, a, b, s⟩ := p
  have kb : Hid (Below w.heap.size w (w.alloc (pkC id m off ttl pr a b s))) := (Below.refl _ w).alloc (Nat.le_refl _) _
  obtain ⟨J, HJ⟩ : ∃ J, Hid (J = jd ⟨id, m, off, ttl, pr, a, b, s⟩ ahead last) := ⟨_, rfl⟩
  rw [← HJ.out]
  by_cases h1 : off = (ahead : Int) / 8
  · subst h1
    cases m
    · cases last
      · have HR : Hid (J = 25) := by show _ = _; rw [HJ.out]; simp [jd]
        rw [HR.out]; clear HJ HR
        go_enter Try.func41, Try.ntmps41
        go_wp2
        go_returns
        exact ⟨rfl, kb.out⟩
      · have HR : Hid (J = 0) := by show _ = _; rw [HJ.out]; simp [jd]
        rw [HR.out]; clear HJ HR
        go_enter Try.func41, Try.ntmps41
        go_wp2
        go_returns
        exact ⟨rfl, kb.out⟩
    · by_cases h2 : s.size = 0
      · have HR : Hid (J = 15) := by show _ = _; rw [HJ.out]; simp [jd, h2]
        rw [HR.out]; clear HJ HR
        have h3 : (s.toList == []) = true := by
          have : s.toList = [] := by rw [ByteArray.toList_eq]; exact List.length_eq_zero_iff.1 (by simpa using h2)
          rw [this]; rfl
        go_enter Try.func41, Try.ntmps41
        go_wp2
        go_returns
        exact ⟨rfl, kb.out⟩
      · have h3 : (s.toList == []) = false := by
          have : s.toList ≠ [] := by rw [ByteArray.toList_eq]; intro e; apply h2; have := congrArg List.length e; simpa using this
          simpa using this
        by_cases h4 : s.size % 8 = 0
        · have HR : Hid (J = 0) := by show _ = _; rw [HJ.out]; simp [jd, h2, h4]
          rw [HR.out]; clear HJ HR
          have h5 : (s.size : Int) % 8 = 0 := by omega
          go_enter Try.func41, Try.ntmps41
          go_wp2
          go_returns
          exact ⟨rfl, kb.out⟩
        · have HR : Hid (J = 15) := by show _ = _; rw [HJ.out]; simp [jd, h4]
          rw [HR.out]; clear HJ HR
          have h5 : ¬ (s.size : Int) % 8 = 0 := by omega
          go_enter Try.func41, Try.ntmps41
          go_wp2
          go_returns
          exact ⟨rfl, kb.out⟩
  · have HR : Hid (J = 25) := by show _ = _; rw [HJ.out]; simp [jd, h1]
    rw [HR.out]; clear HJ HR
    go_enter Try.func41, Try.ntmps41
    go_wp2
    go_returns
    exact ⟨rfl, kb.out⟩
end Go.Proofs.Ytgdjcoodjdckkaa
