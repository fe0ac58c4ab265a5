/- The walk of the law BitsBack. -/
import Derived.Test.YtbdhneoicfciiaaOp
import Derived.Test.YtbdhneoicfciiaaRb
namespace Go.Proofs.Ytbdhneoicfciiaa
open Go.RowKit Go.Proofs.PitotMath

def putEnc (m : Nat) (v : Int) : Option (List UInt8) := if fitsB v (8 * m) = true then some (be m v.toNat) else none

/-- The bytes that an item is; none: it may not be. -/
def itEnc (t : It) : Option (List UInt8) :=
  if t.ask = 0 then putEnc 1 t.n else if t.ask = 1 then putEnc 2 t.n else if t.ask = 2 then putEnc 4 t.n
  else if t.ask = 3 then some t.s.data.toList else if t.ask = 4 then bitsOf t.xs t.ys else some []

theorem put_enc (st : Option (List UInt8)) (m : Nat) (v : Int) : putStep st m v = st.bind fun l => (putEnc m v).map (l ++ ·) := by
  unfold putStep putEnc
  split
  · cases st <;> rfl
  · cases st <;> rfl

theorem itStep_enc (st : Option (List UInt8)) (t : It) : itStep st t = st.bind fun l => (itEnc t).map (l ++ ·) := by
  unfold itStep itEnc
  split
  · exact put_enc _ _ _
  · split
    · exact put_enc _ _ _
    · split
      · exact put_enc _ _ _
      · split
        · cases st <;> rfl
        · split
          · rfl
          · cases st <;> simp

/-- The bytes that items are, one behind the other. -/
def encAll : List It → Option (List UInt8)
  | [] => some []
  | t :: ts => (itEnc t).bind fun a => (encAll ts).map (a ++ ·)

theorem fold_enc : ∀ (ts : List It) (st : Option (List UInt8)), ts.foldl itStep st = st.bind fun l => (encAll ts).map (l ++ ·)
  | [], st => by cases st <;> simp [encAll]
  | t :: ts, st => by
    rw [List.foldl_cons, fold_enc ts, itStep_enc]
    cases st with
    | none => rfl
    | some l =>
      simp only [Option.bind_some, encAll]
      cases itEnc t with
      | none => rfl
      | some a => cases encAll ts <;> simp

theorem enc_cons {l : List It} {k : Nat} (hk : k < l.length) {rest : List UInt8} (h : encAll (l.drop k) = some rest) : ∃ a b, itEnc l[k] = some a ∧ encAll (l.drop (k + 1)) = some b ∧ rest = a ++ b := by
  rw [List.drop_eq_getElem_cons hk] at h
  simp only [encAll] at h
  cases ha : itEnc l[k] with
  | none => rw [ha] at h; cases h
  | some a =>
    rw [ha] at h
    simp only [Option.bind_some] at h
    cases hb : encAll (l.drop (k + 1)) with
    | none => rw [hb] at h; cases h
    | some b => rw [hb] at h; simp at h; exact ⟨a, b, rfl, rfl, h.symm⟩

theorem put_back {m : Nat} {v : Int} {a : List UInt8} (h : putEnc m v = some a) : a.length = m ∧ (num a : Int) = v := by
  unfold putEnc at h
  split at h
  · next hf =>
    simp only [Option.some.injEq] at h
    subst h
    obtain ⟨u, rfl, hu⟩ := fits_nat hf
    refine ⟨be_length _ _, ?_⟩
    have hu' : u < 256 ^ m := by rw [← pow_8]; have e : (8 * (m : Int)).toNat = 8 * m := by omega
                                 rw [e] at hu; exact hu
    simp only [Int.toNat_natCast]
    rw [num_be m u hu']
  · cases h

theorem bits_back {xs ys : List Int} {a : List UInt8} (h : bitsOf xs ys = some a) : (togRes xs).2 = true ∧ (a.length : Int) = (togRes xs).1 ∧ unpack xs (8 * a.length) (num a) = ys := by
  unfold bitsOf at h
  split at h
  · next hc =>
    obtain ⟨tot, m, ht, hm, hm3, hr⟩ := tog_ok hc.1
    rw [hr] at h ⊢
    cases hp : packGo xs ys 0 with
    | none => rw [hp] at h; cases h
    | some N =>
      rw [hp] at h
      simp only [Option.map_some, Option.some.injEq, Int.toNat_natCast] at h
      subst h
      have hl : (be m N).length = m := be_length _ _
      obtain ⟨h1, h2⟩ := pack_high xs ys 0 N 0 tot (by omega) hc.2 ht hp
      have hN : N < 256 ^ m := by
        rw [← pow_8]
        have e : (tot - 0).toNat = 8 * m := by omega
        rw [e] at h2
        exact (Nat.div_eq_zero_iff_lt (Nat.two_pow_pos _)).1 h2
      refine ⟨rfl, by rw [hl], ?_⟩
      rw [hl, num_be m N hN]
      have := unpack_pack xs ys 0 N 0 tot (by omega) hc.2 ht hp
      rw [Int.sub_zero, hm] at this
      exact this
  · cases h

theorem ru1 (r : Nat) (a b : List UInt8) (w : World) (h : RdAt w r (a ++ b) 0) (hn : a.length = 1) (hl : (a ++ b).length ≤ 100000000) :
    Calls Try.prog 18 #[.pointer (some ⟨r, 0, none⟩)] w fun e w' => e = .returned (.int .i64 (num a : Nat)) ∧ RdAt w' r b 0 ∧ w.grownBy w' (some r) := ru_ok 1 (by simp) r a b w h hn hl
theorem ru2' (r : Nat) (a b : List UInt8) (w : World) (h : RdAt w r (a ++ b) 0) (hn : a.length = 2) (hl : (a ++ b).length ≤ 100000000) :
    Calls Try.prog 19 #[.pointer (some ⟨r, 0, none⟩)] w fun e w' => e = .returned (.int .i64 (num a : Nat)) ∧ RdAt w' r b 0 ∧ w.grownBy w' (some r) := ru_ok 2 (by simp) r a b w h hn hl
theorem ru4' (r : Nat) (a b : List UInt8) (w : World) (h : RdAt w r (a ++ b) 0) (hn : a.length = 4) (hl : (a ++ b).length ≤ 100000000) :
    Calls Try.prog 20 #[.pointer (some ⟨r, 0, none⟩)] w fun e w' => e = .returned (.int .i64 (num a : Nat)) ∧ RdAt w' r b 0 ∧ w.grownBy w' (some r) := ru_ok 4 (by simp) r a b w h hn hl

theorem fold_drop {l : List It} {k : Nat} (hk : k < l.length) (st : Option (List UInt8)) : (l.drop k).foldl itStep st = (l.drop (k + 1)).foldl itStep (itStep st l[k]) := by
  rw [List.drop_eq_getElem_cons hk]; rfl

/-- A cell of another block is as it was. -/
theorem cell_other {w w' : World} {r b o : Nat} {v : Value} (hg : w.grownBy w' (some r)) (hb : b < w.heap.size) (hne : b ≠ r) (h : w.cell? ⟨b, o, none⟩ = some v) : w'.cell? ⟨b, o, none⟩ = some v :=
  (World.cell?_of_block (hg.block b hb (by simpa using hne))).trans h

set_option maxRecDepth 100000 in
set_option maxHeartbeats 8000000 in
theorem back_walk (Ad : Option Addr) (cap : Nat) (l : List It) (w : World) (hi : ItemsAt w Ad l) (hlen : l.length ≤ 9223372036854775807) :
    Calls Try.prog 5 #[.slice Ad l.length cap] w fun e w' => e = .returned (.bool true) ∧ Below w.heap.size w w' := by
  obtain ⟨n, HN⟩ : ∃ n, Hid (n = l.length) := ⟨_, rfl⟩
  have hfew := few_any Ad cap l w hi n HN.out (by rw [HN.out]; exact hlen)
  have HF := Lib.hid hfew; clear hfew
  rw [← HN.out] at hlen ⊢
  cases hf : fewB l with
  | false =>
    go_enter Try.func5, Try.ntmps5
    go_wp2_with (first
      | (go_at_call 9; refine HF.out.mono ?_; rintro e w' ⟨rfl, rfl⟩; rw [hf])
      | (go_at_call 10; refine (awake_any _).mono ?_; rintro e w1 ⟨rfl, hb1⟩))
    go_returns
    exact ⟨rfl, hb1⟩
  | true =>
    have hn40 : n ≤ 40 := by rw [HN.out]; exact few_len hf
    go_enter Try.func5, Try.ntmps5
    go_wp2_with (go_at_call 9; refine HF.out.mono ?_; rintro e w' ⟨rfl, rfl⟩; rw [hf])
    have hw0 : WrAt (w.alloc (.cells #[.pointer none, .string ⟨#[]⟩, .bool false] 28)) w.heap.size 0 (some []) := wr_zero (heap_alloc_new w _)
    have hb0 : Below w.heap.size w (w.alloc (.cells #[.pointer none, .string ⟨#[]⟩, .bool false] 28)) := (Below.refl _ _).alloc (Nat.le_refl _) _
    go_loopw [4] (fun v4 wr => ∃ (k : Nat) (st : Option (List UInt8)), k ≤ n ∧ v4 = .int .i64 k ∧ WrAt wr w.heap.size k st ∧ Below w.heap.size w wr ∧ Hid (∀ l, st = some l → l.length ≤ 500 * k) ∧ Hid ((l.drop k).foldl itStep st = l.foldl itStep (some []))) (fun v4 _ => n - (intOf v4).toNat)
    case atStart => exact ⟨0, some [], Nat.zero_le _, rfl, hw0, hb0, (fun l e => by cases e; simp), rfl⟩
    case round =>
      obtain ⟨k, st, hk, rfl, hwr, hbw, hsl, hfold⟩ := hrel
      clear hw0 hb0
      by_cases hlt : k < n
      · have hlt' : k < l.length := by rw [← HN.out]; exact hlt
        obtain ⟨b, off, rfl, hb, hit⟩ := hi.get hlt'
        have hfd := fold_drop hlt' st
        rw [hfold.out] at hfd
        obtain ⟨t, Ht⟩ : ∃ t, Hid (t = l[k]) := ⟨l[k], rfl⟩
        have hsz := few_at hf hlt'
        rw [← Ht.out] at hit hsz hfd
        obtain ⟨z1, z2, z3⟩ := hsz
        have HFD := Lib.hid hfd; clear hfd
        have hst9 : ∀ l, st = some l → l.length ≤ 900000 := fun l e => by have := hsl.out l e; omega
        have HST := Lib.hid hst9; clear hst9
        have hlen' : ∀ l, itStep st t = some l → l.length ≤ 500 * (k + 1) := fun l e => itStep_len z1 hsl.out e
        have HL' := Lib.hid hlen'; clear hlen'
        obtain ⟨a0, a1, a2, a3, a4, a5, a6⟩ := hit.below hb hbw
        clear hit
        go_wp2_with (go_at_call 11; refine (write_at w.heap.size k st t wr hwr HST.out a5 a6 (by omega) (by omega)).mono ?_; rintro e w1 ⟨rfl, h1, hg1⟩)
        go_roundw
        case rel => exact ⟨k + 1, itStep st t, by omega, by go_num, h1, hbw.grown hg1 hbw.size (fun k hk => by cases hk; exact Nat.le_refl _), HL'.out, HFD.out.symm⟩
        case measure => simp [intOf]; omega
      · have hend : Hid (st = l.foldl itStep (some [])) := by
          show _ = _
          rw [← hfold.out, List.drop_of_length_le (by rw [← HN.out]; omega)]; rfl
        cases st with
        | none =>
          go_wp2_with (first
            | (go_at_call 13; refine (bytes_wrong w.heap.size k wr hwr).mono ?_; rintro e w' ⟨rfl, rfl⟩)
            | (go_at_call 10; refine (awake_any wr).mono ?_; rintro e w1 ⟨rfl, hb1⟩))
          go_returns
          exact ⟨rfl, hbw.trans (hb1.mono hbw.size)⟩
        | some L =>
          have hL := hsl.out L rfl
          have henc : Hid (encAll l = some L) := by
            show _ = _
            have := hend.out
            rw [fold_enc] at this
            simp only [Option.bind_some, List.nil_append] at this
            rw [this]; cases encAll l <;> rfl
          clear hend hsl hfold
          go_wp2_with (first
            | (go_at_call 13; refine (bytes_any w.heap.size k L wr hwr (by omega) (by omega)).mono ?_; rintro e w1 ⟨rfl, hb1⟩)
            | (go_at_call 17; refine (read_any L w1).mono ?_; rintro e w2 ⟨rfl, rfl⟩))
          have hR0 : RdAt (w1.alloc (.cells #[.string ⟨L.toArray⟩, .int .i64 0] 67)) w1.heap.size L 0 := heap_alloc_new w1 _
          have hb2 : Below w.heap.size w (w1.alloc (.cells #[.string ⟨L.toArray⟩, .int .i64 0] 67)) := (hbw.trans (hb1.mono hbw.size)).alloc (Nat.le_trans hbw.size hb1.size) _
          have hwr1 : w.heap.size ≤ w1.heap.size := Nat.le_trans hbw.size hb1.size
          have hL2 : L.length ≤ 20000 := by omega
          clear hwr hL
          generalize w1.alloc (.cells #[.string ⟨L.toArray⟩, .int .i64 0] 67) = w2 at hR0 hb2 ⊢
          generalize w1.heap.size = r at hR0 hwr1 ⊢
          clear hb1 hbw
          go_loopw [8] (fun v8 wr2 => ∃ (j : Nat) (rest : List UInt8), j ≤ n ∧ v8 = .int .i64 j ∧ RdAt wr2 r rest 0 ∧ Below w.heap.size w wr2 ∧ rest.length ≤ 20000 ∧ Hid (encAll (l.drop j) = some rest)) (fun v8 _ => n - (intOf v8).toNat)
          case atStart => exact ⟨0, L, Nat.zero_le _, rfl, hR0, hb2, hL2, henc⟩
          case round =>
            obtain ⟨j, rest, hj, rfl, hR, hbw, hrl, hen⟩ := hrel
            clear hR0 hb2 henc
            by_cases hlt2 : j < n
            · have hlt' : j < l.length := by rw [← HN.out]; exact hlt2
              obtain ⟨aa, bb, haa0, hbb0, hrest⟩ := enc_cons hlt' hen.out
              obtain ⟨b, off, rfl, hb, hit⟩ := hi.get hlt'
              have hsz := few_at hf hlt'
              obtain ⟨t, Ht⟩ : ∃ t, Hid (t = l[j]) := ⟨l[j], rfl⟩
              rw [← Ht.out] at hit haa0 hsz
              obtain ⟨ask, v, s, A, ca, xs, B, cb, ys⟩ := t
              obtain ⟨a0, a1, a2, a3, a4, a5, a6⟩ := hit.below hb hbw
              simp only at a0 a1 a2 a3 a4 a5 a6 hsz
              obtain ⟨z1, z2, z3⟩ := hsz
              subst hrest
              have henb := Lib.hid hbb0
              have hab : (aa ++ bb).length ≤ 100000000 := by omega
              have hbb : bb.length ≤ 20000 := by simp at hrl; omega
              have hbl : b < wr.heap.size := Nat.lt_of_lt_of_le hb hbw.size
              have hbr : b ≠ r := by omega
              have HIT := Lib.hid hit
              clear hbb0 hit hen
              unfold itEnc at haa0
              simp only at haa0
              by_cases k0 : ask = 0
              · subst k0
                rw [if_pos rfl] at haa0
                have haa := Lib.hid haa0; clear haa0
                obtain ⟨q1, q2⟩ := put_back (m := 1) haa.out
                obtain ⟨M, HM⟩ : ∃ M, Hid (M = num aa) := ⟨_, rfl⟩
                have he : ((M : Int) == v) = true := by rw [HM.out, q2]; simp
                have Q1 := Lib.hid q1
                clear q1 q2
                go_wp2
                go_region_held3 (fun w' => w'.cell? ⟨b, off + j * 5 + 1, none⟩ = some (.int .i64 v)) (first | exact a1 | exact p1) (first | (go_at_call 18; refine (ru1 r aa bb wr.drew hR Q1.out hab).mono ?_; rintro e w3 ⟨rfl, hR3, hg3⟩; rw [← HM.out]; have p1 : w3.cell? ⟨b, off + j * 5 + 1, none⟩ = some (.int .i64 v) := cell_other hg3 hbl hbr a1))
                go_wp2
                go_roundw
                case rel => exact ⟨j + 1, bb, by omega, by go_num, hR3, (hbw.drew).grown hg3 hbw.size (fun k hk => by cases hk; exact hwr1), by omega, henb⟩
                case measure => simp [intOf]; omega
              · rw [if_neg k0] at haa0
                have e0 : (ask == 0) = false := by simpa using k0
                clear k0
                by_cases k1 : ask = 1
                · subst k1
                  rw [if_pos rfl] at haa0
                  have haa := Lib.hid haa0; clear haa0 e0
                  obtain ⟨q1, q2⟩ := put_back (m := 2) haa.out
                  obtain ⟨M, HM⟩ : ∃ M, Hid (M = num aa) := ⟨_, rfl⟩
                  have he : ((M : Int) == v) = true := by rw [HM.out, q2]; simp
                  have Q1 := Lib.hid q1
                  clear q1 q2
                  go_wp2
                  go_region_held3 (fun w' => w'.cell? ⟨b, off + j * 5 + 1, none⟩ = some (.int .i64 v)) (first | exact a1 | exact p1) (first | (go_at_call 19; refine (ru2' r aa bb wr.drew hR Q1.out hab).mono ?_; rintro e w3 ⟨rfl, hR3, hg3⟩; rw [← HM.out]; have p1 : w3.cell? ⟨b, off + j * 5 + 1, none⟩ = some (.int .i64 v) := cell_other hg3 hbl hbr a1))
                  go_wp2
                  go_roundw
                  case rel => exact ⟨j + 1, bb, by omega, by go_num, hR3, (hbw.drew).grown hg3 hbw.size (fun k hk => by cases hk; exact hwr1), by omega, henb⟩
                  case measure => simp [intOf]; omega
                · rw [if_neg k1] at haa0
                  have e1 : (ask == 1) = false := by simpa using k1
                  clear k1
                  by_cases k2 : ask = 2
                  · subst k2
                    rw [if_pos rfl] at haa0
                    have haa := Lib.hid haa0; clear haa0 e0 e1
                    obtain ⟨q1, q2⟩ := put_back (m := 4) haa.out
                    obtain ⟨M, HM⟩ : ∃ M, Hid (M = num aa) := ⟨_, rfl⟩
                    have he : ((M : Int) == v) = true := by rw [HM.out, q2]; simp
                    have Q1 := Lib.hid q1
                    clear q1 q2
                    go_wp2
                    go_region_held3 (fun w' => w'.cell? ⟨b, off + j * 5 + 1, none⟩ = some (.int .i64 v)) (first | exact a1 | exact p1) (first | (go_at_call 20; refine (ru4' r aa bb wr.drew hR Q1.out hab).mono ?_; rintro e w3 ⟨rfl, hR3, hg3⟩; rw [← HM.out]; have p1 : w3.cell? ⟨b, off + j * 5 + 1, none⟩ = some (.int .i64 v) := cell_other hg3 hbl hbr a1))
                    go_wp2
                    go_roundw
                    case rel => exact ⟨j + 1, bb, by omega, by go_num, hR3, (hbw.drew).grown hg3 hbw.size (fun k hk => by cases hk; exact hwr1), by omega, henb⟩
                    case measure => simp [intOf]; omega
                  · rw [if_neg k2] at haa0
                    have e2 : (ask == 2) = false := by simpa using k2
                    clear k2
                    by_cases k3 : ask = 3
                    · subst k3
                      rw [if_pos rfl] at haa0
                      simp only [Option.some.injEq] at haa0
                      have hs : (⟨aa.toArray⟩ : ByteArray) = s := by rw [← haa0]
                      have hsl : s.size = aa.length := by rw [← haa0]; rfl
                      have HS := Lib.hid hs
                      have HSL := Lib.hid hsl
                      have hs5 : s.size ≤ 500 := z1
                      clear haa0 e0 e1 e2 hs hsl z1
                      go_wp2
                      go_region_held3 (fun w' => w'.cell? ⟨b, off + j * 5 + 2, none⟩ = some (.string s)) (first | exact a2 | exact p1) (first | (go_at_call 21; refine (rtext_ok r aa bb s.size wr.drew hR HSL.out hab).mono ?_; rintro e w3 ⟨rfl, hR3, hg3⟩; rw [HS.out]; have p1 : w3.cell? ⟨b, off + j * 5 + 2, none⟩ = some (.string s) := cell_other hg3 hbl hbr a2))
                      go_wp2
                      go_roundw
                      case rel => exact ⟨j + 1, bb, by omega, by go_num, hR3, (hbw.drew).grown hg3 hbw.size (fun k hk => by cases hk; exact hwr1), by omega, henb⟩
                      case measure => simp [intOf]; omega
                    · rw [if_neg k3] at haa0
                      have e3 : (ask == 3) = false := by simpa using k3
                      clear k3
                      by_cases k4 : ask = 4
                      · subst k4
                        rw [if_pos rfl] at haa0
                        obtain ⟨y1, y2, y3⟩ := bits_back haa0
                        have hxy : ys.length = xs.length := by rw [← y3, unpack_length]
                        have Y1 := Lib.hid y1
                        have Y2 := Lib.hid y2
                        have Y3 := Lib.hid y3
                        have HXY := Lib.hid hxy
                        rw [hxy] at a4
                        obtain ⟨i1, i2, i3, i4, i5, i6, i7⟩ := (HIT.out : ItAt w b (off + j * 5) ⟨4, v, s, A, ca, xs, B, cb, ys⟩)
                        have hxne : xs ≠ [] := by rintro rfl; simp [togRes, togGo, okSum] at y1
                        obtain ⟨b2, off2, rfl, hb2lt, _⟩ := i6 hxne
                        have hne : ∀ b off, (some (⟨b2, off2, none⟩ : Addr)) = some ⟨b, off, none⟩ → b ≠ r := by
                          intro b' off' e; cases e; omega
                        have HNE := Lib.hid hne
                        have a5' : IntsAt wr.drew (some ⟨b2, off2, none⟩) xs := a5
                        clear haa0 e0 e1 e2 e3 y1 y2 y3 hxy hne i1 i2 i3 i4 i5 hxne z1
                        go_wp2
                        go_region_held3 (fun w' => w'.cell? ⟨b, off + j * 5 + 3, none⟩ = some (.slice (some ⟨b2, off2, none⟩) xs.length ca) ∧ w'.cell? ⟨b, off + j * 5 + 4, none⟩ = some (.slice B xs.length cb)) (first | exact ⟨a3, a4⟩ | exact ⟨p3, p4⟩ | exact ⟨r3, r4⟩) (first
                          | (go_at_call 23; refine (rbits_ok r aa bb (some ⟨b2, off2, none⟩) ca xs wr.drew hR a5' (by omega) Y1.out Y2.out hab HNE.out).mono ?_; rintro e w3 ⟨g, rfl, hI, hR3, hg3⟩; rw [Y3.out] at hI; have k3 : Below w.heap.size w w3 := (hbw.drew).grown hg3 hbw.size (fun k hk => by cases hk; exact hwr1); have hB3 := i7.below k3; have p3 : w3.cell? ⟨b, off + j * 5 + 3, none⟩ = some (.slice (some ⟨b2, off2, none⟩) xs.length ca) := cell_other hg3 hbl hbr a3; have p4 : w3.cell? ⟨b, off + j * 5 + 4, none⟩ = some (.slice B xs.length cb) := cell_other hg3 hbl hbr a4)
                          | (go_at_call 22; refine (ints_same (some ⟨g, 0, none⟩) B xs.length cb ys w3 hI hB3 (by omega) xs.length HXY.out.symm).mono ?_; rintro e w4 ⟨rfl, hb4⟩; have r3 : w4.cell? ⟨b, off + j * 5 + 3, none⟩ = some (.slice (some ⟨b2, off2, none⟩) xs.length ca) := (hb4.cell (Nat.lt_of_lt_of_le hb k3.size)).trans p3; have r4 : w4.cell? ⟨b, off + j * 5 + 4, none⟩ = some (.slice B xs.length cb) := (hb4.cell (Nat.lt_of_lt_of_le hb k3.size)).trans p4))
                        go_wp2
                        go_roundw
                        case rel => exact ⟨j + 1, bb, by omega, by go_num, (hb4.block r (lies_lt (w := w3) hR3)).trans hR3, k3.trans (hb4.mono k3.size), by omega, henb⟩
                        case measure => simp [intOf]; omega
                      · rw [if_neg k4] at haa0
                        have e4 : (ask == 4) = false := by simpa using k4
                        clear k4
                        simp only [Option.some.injEq] at haa0
                        subst haa0
                        have hR' : RdAt wr r bb 0 := hR
                        clear hR
                        go_wp2
                        go_roundw
                        case rel => exact ⟨j + 1, bb, by omega, by go_num, hR', hbw, by omega, henb⟩
                        case measure => simp [intOf]; omega
            · have hz : rest = [] := by
                have e := hen.out
                rw [List.drop_of_length_le (by rw [← HN.out]; omega)] at e
                simp only [encAll, Option.some.injEq] at e
                exact e.symm
              subst hz
              clear hen
              go_wp2_with (first
                | (go_at_call 24; refine (left_any r [] 0 wr hR).mono ?_; rintro e w' ⟨rfl, rfl⟩)
                | (go_at_call 25; refine (err_any r [] 0 wr hR).mono ?_; rintro e w' ⟨rfl, rfl⟩)
                | (go_at_call 10; refine (awake_any wr).mono ?_; rintro e w3 ⟨rfl, hb3⟩))
              go_returns
              exact ⟨rfl, hbw.trans (hb3.mono hbw.size)⟩
end Go.Proofs.Ytbdhneoicfciiaa
