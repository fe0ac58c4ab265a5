/- Two packets are compared. -/
import Derived.Test.YtgdjcoodjdckkaaPk
import Derived.Test.YtgdjcoodjdckkaaEq
import Derived.Laws.StructEq
set_option maxRecDepth 100000
namespace Go.Proofs.Ytgdjcoodjdckkaa
open Go.RowKit Go.Proofs.PitotFrag Go.Proofs.PitotIp

/-- Are two addresses the same? -/
def q4b (x y : Q4) : Bool := ((x.a.toNat : Int) == y.a.toNat) && ((x.b.toNat : Int) == y.b.toNat) && ((x.c.toNat : Int) == y.c.toNat) && ((x.d.toNat : Int) == y.d.toNat)
theorem q4b_iff (x y : Q4) : q4b x y = true ↔ x = y := by
  obtain ⟨a, b, c, d⟩ := x
  obtain ⟨a', b', c', d'⟩ := y
  have e : ∀ u v : UInt8, ((u.toNat : Int) = (v.toNat : Int)) ↔ u = v := fun u v => ⟨fun h => UInt8.toNat_inj.1 (by omega), fun h => by rw [h]⟩
  simp [q4b, e, and_assoc]
/-- Are two packets the same? -/
def pkb (p q : Pk) : Bool := (p.id == q.id) && (p.m == q.m) && (p.off == q.off) && (p.ttl == q.ttl) && (p.pr == q.pr) && q4b p.a q.a && q4b p.b q.b && (p.s.toList == q.s.toList)
theorem pkb_iff (p q : Pk) : pkb p q = true ↔ p = q := by
  obtain ⟨i, m, o, t, r, a, b, s⟩ := p
  obtain ⟨i', m', o', t', r', a', b', s'⟩ := q
  have e : s.toList = s'.toList ↔ s = s' := ⟨fun h => by
    rw [ByteArray.toList_eq, ByteArray.toList_eq] at h
    obtain ⟨⟨x⟩⟩ := s; obtain ⟨⟨y⟩⟩ := s'
    simp only at h; rw [h], fun h => by rw [h]⟩
  simp [pkb, q4b_iff, e, and_assoc]

set_option maxHeartbeats 1000000 in
theorem eqP (p q : Pk) (w : World) : (Go.Op.equalIn 10000 34 p.val q.val).run Try.prog w = .ok (pkb p q) w := by
  obtain ⟨i, m, o, t, r, a, b, s⟩ := p
  obtain ⟨i', m', o', t', r', a', b', s'⟩ := q
  have hA := eq4 9997 a.a.toNat a.b.toNat a.c.toNat a.d.toNat a'.a.toNat a'.b.toNat a'.c.toNat a'.d.toNat
  have hB := eq4 9997 b.a.toNat b.b.toNat b.c.toNat b.d.toNat b'.a.toNat b'.b.toNat b'.c.toNat b'.d.toNat
  simp only [pkb]
  have eA : q4b a a' = (((a.a.toNat : Int) == a'.a.toNat) && ((a.b.toNat : Int) == a'.b.toNat) && ((a.c.toNat : Int) == a'.c.toNat) && ((a.d.toNat : Int) == a'.d.toNat)) := rfl
  have eB : q4b b b' = (((b.a.toNat : Int) == b'.a.toNat) && ((b.b.toNat : Int) == b'.b.toNat) && ((b.c.toNat : Int) == b'.c.toNat) && ((b.d.toNat : Int) == b'.d.toNat)) := rfl
  rw [← eA] at hA; rw [← eB] at hB
  generalize q4b a a' = BA at hA ⊢
  generalize q4b b b' = BB at hB ⊢
  simp only [show (9997 + 2 : Nat) = 9999 from rfl] at hA hB
  go_simp
  clear hA hB eA eB
  generalize s.toList = u
  generalize s'.toList = u'
  by_cases h1 : i = i'
  · by_cases h2 : m = m'
    · by_cases h3 : o = o'
      · by_cases h4 : t = t'
        · by_cases h5 : r = r'
          · by_cases h6 : u = u'
            · cases BA <;> cases BB <;> simp [h1, h2, h3, h4, h5, h6]
            · cases BA <;> cases BB <;> simp [h1, h2, h3, h4, h5, h6]
          · simp [h1, h2, h3, h4, h5]
        · simp [h1, h2, h3, h4]
      · simp [h1, h2, h3]
    · simp [h1, h2]
  · simp [h1]
end Go.Proofs.Ytgdjcoodjdckkaa
