/- The document's packets in memory; the law's Plain and Same over lists. -/
import Derived.Test.YtiedfdnjnjohdaaSq
import Derived.Test.YtiedfdnjnjohdaaPl
import Derived.BigQuiet
set_option maxRecDepth 100000
namespace Go.Proofs.Ytiedfdnjnjohdaa
open Go.RowKit Go.Proofs.PitotFrag Go.Proofs.PitotIp
open Go.Proofs.Ytiedfdnjnjohdaa.Bi (lies_lt lies_cell lies_frozen lies_alloc lies_set)

/-- The document's packet. -/
structure Rk where
  id : Int
  m : Bool
  off : Int
  ttl : Int
  pr : Int
  a : ByteArray
  b : ByteArray
  s : ByteArray
abbrev Rk.val (p : Rk) : Value := rp p.id p.m p.off p.ttl p.pr p.a p.b p.s
abbrev Rk.obj (p : Rk) : Obj := rpC p.id p.m p.off p.ttl p.pr p.a p.b p.s
abbrev Rk.enc (p : Rk) : List Value := [.int .i64 p.id, .bool p.m, .int .i64 p.off, .int .i64 p.ttl, .int .i64 p.pr, .string p.a, .string p.b, .string p.s]
theorem Rk.enc_length (p : Rk) : p.enc.length = 8 := rfl
theorem Rk.enc_one (p : Rk) : ∀ u ∈ p.enc, u.oneCell' = true := by
  intro u hu
  simp only [Rk.enc, List.mem_cons, List.not_mem_nil, or_false] at hu
  rcases hu with rfl | rfl | rfl | rfl | rfl | rfl | rfl | rfl <;> rfl
def flatR (l : List Rk) : List Value := l.flatMap Rk.enc
theorem flatR_snoc (l : List Rk) (p : Rk) : flatR (l ++ [p]) = flatR l ++ p.enc := by simp [flatR]
theorem flatR_get : ∀ (l : List Rk) (i : Nat) (h : i < l.length) (j : Nat), j < 8 → (flatR l)[i * 8 + j]? = l[i].enc[j]?
  | x :: r, 0, _, j, hj => by
    show (x.enc ++ flatR r)[0 * 8 + j]? = _
    rw [Nat.zero_mul, Nat.zero_add, List.getElem?_append_left (by rw [Rk.enc_length]; exact hj)]
    rfl
  | x :: r, i + 1, h, j, hj => by
    show (x.enc ++ flatR r)[(i + 1) * 8 + j]? = _
    rw [List.getElem?_append_right (by rw [Rk.enc_length]; omega), Rk.enc_length, show (i + 1) * 8 + j - 8 = i * 8 + j by omega, flatR_get r i (by simpa using h) j hj]
    rfl
def RkAt (w : World) (b o : Nat) (p : Rk) : Prop :=
  w.cell? ⟨b, o, none⟩ = some (.int .i64 p.id) ∧ w.cell? ⟨b, o + 1, none⟩ = some (.bool p.m) ∧ w.cell? ⟨b, o + 2, none⟩ = some (.int .i64 p.off) ∧ w.cell? ⟨b, o + 3, none⟩ = some (.int .i64 p.ttl) ∧ w.cell? ⟨b, o + 4, none⟩ = some (.int .i64 p.pr) ∧ w.cell? ⟨b, o + 5, none⟩ = some (.string p.a) ∧ w.cell? ⟨b, o + 6, none⟩ = some (.string p.b) ∧ w.cell? ⟨b, o + 7, none⟩ = some (.string p.s)
theorem rrow_get {w : World} {base g n cap : Nat} {l : List Rk} (h : w.ownsRow base 39 8 (.slice (some ⟨g, 0, none⟩) n cap) n (flatR l)) (i : Nat) (hi : i < l.length) : RkAt w g (i * 8) l[i] := by
  have hc : ∀ j (hj : j < 8), w.cell? ⟨g, i * 8 + j, none⟩ = some (l[i].enc[j]'(by rw [Rk.enc_length]; exact hj)) := fun j hj => by
    have := h.cells (g := g) rfl (i * 8 + j) (l[i].enc[j]'(by rw [Rk.enc_length]; exact hj)) (by rw [flatR_get l i hi j hj]; exact List.getElem?_eq_getElem _)
    rwa [show (⟨g, 0, none⟩ : Addr).add (i * 8 + j) = ⟨g, i * 8 + j, none⟩ by unfold Addr.add; split <;> simp_all] at this
  exact ⟨hc 0 (by omega), hc 1 (by omega), hc 2 (by omega), hc 3 (by omega), hc 4 (by omega), hc 5 (by omega), hc 6 (by omega), hc 7 (by omega)⟩

theorem own_below {w w' : World} {base : Nat} {e : TypeId} {size : Nat} {v : Value} {n : Nat} {xs : List Value} (h : w.ownsRow base e size v n xs) (hb : Below w.heap.size w w') : w'.ownsRow base e size v n xs :=
  h.kept (Bi.grown_of_below (r := none) hb) (by cases v.ownBlock <;> simp)
/-- A packet as the document has it. -/
def pln (p : Pk) : Rk := ⟨p.id, p.m, p.off, p.ttl, p.pr, ipB p.a, ipB p.b, p.s⟩

theorem Try.info39 : (Try.prog.info? 39).map (fun i => (i.zero, i.size, i.bytes)) = some (some rp0, 8, 88) := by kernel_rfl

set_option maxHeartbeats 2000000 in
/-- The law's Plain over a list. -/
theorem plains_any (A : Option Addr) (cap : Nat) (l : List Pk) (w : World) (hx : PksAt w A l) (hl : l.length ≤ 70000) (n : Nat) (hn : n = l.length) :
    Calls Try.prog 18 #[.slice A n cap] w fun e w' => ∃ v, e = .returned v ∧ w'.ownsRow w.heap.size 39 8 v n (flatR (l.map pln)) ∧ Below w.heap.size w w' := by
  have Hn := Lib.hid hn
  rw [← hn] at hl
  clear hn
  obtain ⟨i0, hi, hz0, hz1, hz2⟩ := info_parts Try.info39
  obtain ⟨LS, HLS⟩ : ∃ LS, Hid (LS = l.map pln) := ⟨_, rfl⟩
  rw [← HLS.out]
  have HX := Lib.hid hx; clear hx
  go_enter Try.func18, Try.ntmps18
  go_wp2
  go_loopw [3, 4] (fun v3 v4 wr => ∃ (k : Nat), k ≤ n ∧ v4 = .int .i64 k ∧ wr.ownsRow w.heap.size 39 8 v3 k (flatR (LS.take k)) ∧ Below w.heap.size w wr) (fun _ v4 _ => n - (intOf v4).toNat)
  case atStart => exact ⟨0, Nat.zero_le _, rfl, World.ownsRow_nil _ _ _ _, Below.refl _ _⟩
  case round =>
    obtain ⟨k, hk, rfl, hown, hb⟩ := hrel
    by_cases hlt : k < n
    · have hlt' : k < l.length := by rw [← Hn.out]; exact hlt
      obtain ⟨b, off, rfl, hbl, hc⟩ := HX.out.get hlt'
      have hc := hc.below hb hbl
      have Hst : Hid (LS.take (k + 1) = LS.take k ++ [pln l[k]]) := by
        show _ = _
        rw [HLS.out, List.take_succ_eq_append_getElem (by simpa using hlt')]; simp
      generalize l[k] = p at hc Hst
      obtain ⟨id, m, of, ttl, pr, a, b', s⟩ := p
      have HP := Lib.hid (plain_false id m of ttl pr a b' s)
      have Hone := Lib.hid (Rk.enc_one (pln ⟨id, m, of, ttl, pr, a, b', s⟩))
      obtain ⟨I1, HI1⟩ : ∃ I, Hid (I = ipB a) := ⟨_, rfl⟩
      obtain ⟨I2, HI2⟩ : ∃ I, Hid (I = ipB b') := ⟨_, rfl⟩
      rw [← HI1.out, ← HI2.out] at HP
      have Hst : Hid (LS.take (k + 1) = LS.take k ++ [⟨id, m, of, ttl, pr, I1, I2, s⟩]) := by show _ = _; rw [Hst.out, HI1.out, HI2.out]; rfl
      have Hone : Hid (∀ u ∈ Rk.enc ⟨id, m, of, ttl, pr, I1, I2, s⟩, u.oneCell' = true) := Rk.enc_one _
      obtain ⟨c0, c1, c2, c3, c4, c5, c6, c7, c8, c9, c10, c11, c12, c13⟩ := hc
      simp only at c0 c1 c2 c3 c4 c5 c6 c7 c8 c9 c10 c11 c12 c13
      have hbs := hb.size
      go_wp2_with (first
        | (go_at_call 16; (with_reducible refine (HP.out _).mono ?_); rintro r w1 ⟨rfl, hb1⟩
           (have hown1 := own_below hown hb1)
           (have hb1' := hb.trans (hb1.mono hbs))
           (have hbs1 := hb1'.size))
        | (at_builtin; refine wpList_append_lies _ rfl _ _ 35 (by rfl) w.heap.size 39 i0 rp0 8 88 Try.underlying35 hi hz0 hz1 hz2 rfl (by decide) _ _ _ (by rfl) (hown1.alloc _) ⟨w1.heap.size, 0, none⟩ 1 1 (Rk.enc ⟨id, m, of, ttl, pr, I1, I2, s⟩) (by rfl) rfl (World.news_of_block (heap_alloc_new w1 _)) Hone.out (by omega) (by unfold maxLen; omega) (by omega) (by simp; omega) _ rfl ?_; intro gg cap2 w2 hown2 hgrow2 hat2 hlt2))
      have hb2 : Below w.heap.size w w2 := (hb1'.alloc hbs1 _).grown hgrow2 (by simp; omega) (fun j hj => (hown1.lt j hj).1)
      go_roundw
      case rel =>
        refine ⟨k + 1, by omega, by go_num, ?_, hb2⟩
        rw [Hst.out, flatR_snoc]
        exact hown2
      case measure => simp [intOf]; omega
    · obtain rfl : k = n := by omega
      rw [List.take_of_length_le (by rw [HLS.out, List.length_map, ← Hn.out]; omega)] at hown
      go_wp2
      go_returns
      exact ⟨_, rfl, hown, hb⟩
end Go.Proofs.Ytiedfdnjnjohdaa
