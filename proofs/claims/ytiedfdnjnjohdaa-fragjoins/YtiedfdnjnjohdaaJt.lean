/- Contract of together: the bytes of parts, one behind the other. -/
import Derived.Test.YtiedfdnjnjohdaaJo
set_option maxRecDepth 100000
namespace Go.Proofs.Ytiedfdnjnjohdaa
open Go.RowKit Go.Proofs.PitotFrag Go.Proofs.PitotIp
open Go.Proofs.Ytiedfdnjnjohdaa.Bi (lies_lt lies_cell lies_frozen lies_alloc lies_set)

theorem lays166 : Go.Proofs.Lays.n166 Try.prog Try.lays156_ren := { mixed := Try.lays156.mixed, f166 := Try.lays156.f166, f240 := Try.lays156.f240, f276 := Try.lays156.f276, t0 := Try.lays156.t0, a0 := Try.lays156.a0, z0 := Try.lays156.z0, v0 := Try.lays156.v0, t3 := Try.lays156.t3, a3 := Try.lays156.a3, z3 := Try.lays156.z3, v3 := Try.lays156.v3, t4 := Try.lays156.t4, a4 := Try.lays156.a4, z4 := Try.lays156.z4, v4 := Try.lays156.v4, t9 := Try.lays156.t9, a9 := Try.lays156.a9, z9 := Try.lays156.z9, v9 := Try.lays156.v9, t20 := Try.lays156.t20, a20 := Try.lays156.a20, z20 := Try.lays156.z20, v20 := Try.lays156.v20, t37 := Try.lays156.t37, a37 := Try.lays156.a37, z37 := Try.lays156.z37, v37 := Try.lays156.v37, t70 := Try.lays156.t70, a70 := Try.lays156.a70, z70 := Try.lays156.z70, v70 := Try.lays156.v70, t72 := Try.lays156.t72, a72 := Try.lays156.a72, z72 := Try.lays156.z72, v72 := Try.lays156.v72, t75 := Try.lays156.t75, a75 := Try.lays156.a75, z75 := Try.lays156.z75, v75 := Try.lays156.v75, t164 := Try.lays156.t164, a164 := Try.lays156.a164, z164 := Try.lays156.z164, v164 := Try.lays156.v164 }
theorem write_any (B b : Nat) (bs : List Value) (s : ByteArray) (w : World) (h : Lib.IsBuilder 68 5 B b bs w) (hlen : bs.length + s.size ≤ 140737488355328) (hBw : B ≤ w.heap.size) :
    Calls Try.prog 33 #[.pointer (some ⟨b, 0, none⟩), .string s] w fun e w' => e = .returned (.tuple #[.int .i64 s.size, .nilIface]) ∧ (Lib.BuilderAt 68 5 B b (.pointer (some ⟨b, 0, none⟩)) (bs ++ Lib.strCells s) w' ∧ Below B w w') := Any.Builder_WriteString lays166 Try.Builder_Extra_156 B b bs s w h hlen hBw

theorem isBuilder_alloc {T e : TypeId} {B b : Nat} {bs : List Value} {w : World} (h : Lib.IsBuilder T e B b bs w) (o : Obj) : Lib.IsBuilder T e B b bs (w.alloc o) := by
  have key : ∀ p, Lib.BuilderAt T e B b p bs w → Lib.BuilderAt T e B b p bs (w.alloc o) := fun p ⟨h1, v, h2, h3, h4⟩ =>
    ⟨h1, v, lies_alloc h2 o, h3.alloc o, h4⟩
  rcases h with h | h
  · exact .inl (key _ h)
  · exact .inr (key _ h)

def catP (l : List Pk) : List UInt8 := l.flatMap fun p => p.s.data.toList
theorem catP_snoc (l : List Pk) (p : Pk) : catP (l ++ [p]) = catP l ++ p.s.data.toList := by simp [catP]

set_option maxHeartbeats 2000000 in
theorem together_any (A : Option Addr) (cap : Nat) (l : List Pk) (w : World) (hx : PksAt w A l) (hl : l.length ≤ 70000) (hz : ∀ p ∈ l, p.s.size ≤ 10000) (n : Nat) (hn : n = l.length) :
    Calls Try.prog 28 #[.slice A n cap] w fun e w' => e = .returned (.string (bl (catP l))) ∧ Below w.heap.size w w' := by
  obtain ⟨R, HR⟩ : ∃ R, Hid (R = bl (catP l)) := ⟨_, rfl⟩
  rw [← HR.out]
  have Hn := Lib.hid hn
  rw [← hn] at hl
  clear hn
  have HX := Lib.hid hx; clear hx
  have HZ := Lib.hid hz; clear hz
  have HB0 := Lib.hid (Lib.fresh_isBuilder 68 5 w)
  have kb0 : Hid (Below w.heap.size w (w.alloc (.cells #[.pointer none, .slice none 0 0] 68))) := (Below.refl _ _).alloc (Nat.le_refl _) _
  go_enter Try.func28, Try.ntmps28
  go_wp2
  go_loopw [8] (fun v8 wr => ∃ (k : Nat), k ≤ n ∧ v8 = .int .i64 k ∧ Lib.IsBuilder 68 5 w.heap.size w.heap.size (Lib.byteCells (catP (l.take k))) wr ∧ (catP (l.take k)).length ≤ k * 10000 ∧ Below w.heap.size w wr) (fun v8 _ => n - (intOf v8).toNat)
  case atStart => exact ⟨0, Nat.zero_le _, rfl, HB0.out, by simp [catP], kb0.out⟩
  case round =>
    obtain ⟨k, hk, rfl, hB, hlen, hb⟩ := hrel
    have hbs := hb.size
    by_cases hlt : k < n
    · have hlt' : k < l.length := by rw [← Hn.out]; exact hlt
      obtain ⟨b, off, rfl, hbl, hc⟩ := HX.out.get hlt'
      have hc := hc.below hb hbl
      have hst : l.take (k + 1) = l.take k ++ [l[k]] := List.take_succ_eq_append_getElem hlt'
      have hsz := HZ.out l[k] (List.getElem_mem hlt')
      generalize l[k] = p at hc hst hsz
      obtain ⟨id, m, of, ttl, pr, a, b', s⟩ := p
      obtain ⟨c0, c1, c2, c3, c4, c5, c6, c7, c8, c9, c10, c11, c12, c13⟩ := hc
      simp only at c0 c1 c2 c3 c4 c5 c6 c7 c8 c9 c10 c11 c12 c13 hsz
      have HC : Hid (catP (l.take (k + 1)) = catP (l.take k) ++ s.data.toList) := by show _ = _; rw [hst, catP_snoc]
      clear hst
      have HW := Lib.hid (write_any w.heap.size w.heap.size _ s (wr.alloc (pkC id m of ttl pr a b' s)) (isBuilder_alloc hB _) (by rw [Lib.byteCells_length]; omega) (by simp; omega))
      have kb : Hid (Below w.heap.size w (wr.alloc (pkC id m of ttl pr a b' s))) := hb.alloc hbs _
      have HL := Lib.hid hlen
      clear hB hlen
      go_wp2_with (go_at_call 33; (with_reducible refine (HW.out).mono ?_); rintro r w2 ⟨rfl, hB2, hb2⟩)
      go_roundw
      case rel =>
        refine ⟨k + 1, by omega, by go_num, ?_, ?_, kb.out.trans hb2⟩
        · rw [HC.out, Lib.byteCells_append]
          exact .inr hB2
        · rw [HC.out, List.length_append, size_list]
          have := HL.out
          omega
      case measure => simp [intOf]; omega
    · have HC : Hid (bl (catP (l.take k)) = R) := by show _ = _; rw [HR.out, List.take_of_length_le (by rw [← Hn.out]; omega)]
      have HS := Lib.hid (Try.Builder_String_any w.heap.size w.heap.size _ wr hB hbs)
      clear hB hlen
      go_wp2_with (go_at_call 34; (with_reducible refine (HS.out).mono ?_); rintro r w2 ⟨rfl, hb2⟩)
      go_returns
      rw [← HC.out]
      exact ⟨rfl, hb.trans hb2⟩
end Go.Proofs.Ytiedfdnjnjohdaa
