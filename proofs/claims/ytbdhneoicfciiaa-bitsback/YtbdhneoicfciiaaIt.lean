/- The law's items in memory; contracts of few, write, plain. -/
import Derived.Test.YtbdhneoicfciiaaRx
import Derived.Test.YtbdhneoicfciiaaAwake
namespace Go.Proofs.Ytbdhneoicfciiaa
open Go.RowKit Go.Proofs.PitotMath

/-- An item, with where its two lists lie. -/
structure It where
  ask : Int
  n : Int
  s : ByteArray
  A : Option Addr
  ca : Nat
  xs : List Int
  B : Option Addr
  cb : Nat
  ys : List Int

def It.val (t : It) : Value := .agg #[.int .i64 t.ask, .int .i64 t.n, .string t.s, .slice t.A t.xs.length t.ca, .slice t.B t.ys.length t.cb]

def ItAt (w : World) (b o : Nat) (t : It) : Prop :=
  w.cell? ⟨b, o, none⟩ = some (.int .i64 t.ask) ∧ w.cell? ⟨b, o + 1, none⟩ = some (.int .i64 t.n) ∧ w.cell? ⟨b, o + 2, none⟩ = some (.string t.s) ∧
  w.cell? ⟨b, o + 3, none⟩ = some (.slice t.A t.xs.length t.ca) ∧ w.cell? ⟨b, o + 4, none⟩ = some (.slice t.B t.ys.length t.cb) ∧ IntsAt w t.A t.xs ∧ IntsAt w t.B t.ys

def ItemsAt (w : World) (Ad : Option Addr) (l : List It) : Prop :=
  l ≠ [] → ∃ b off, Ad = some ⟨b, off, none⟩ ∧ b < w.heap.size ∧ ∀ i (h : i < l.length), ItAt w b (off + i * 5) l[i]

theorem IntsAt.below {w w' : World} {A : Option Addr} {xs : List Int} (h : IntsAt w A xs) (hb : Below w.heap.size w w') : IntsAt w' A xs := fun hne => by
  obtain ⟨b, off, h1, h2, h3⟩ := h hne
  exact ⟨b, off, h1, Nat.lt_of_lt_of_le h2 hb.size, fun i hi => (hb.cell h2).trans (h3 i hi)⟩

theorem ItemsAt.get {w : World} {Ad : Option Addr} {l : List It} (h : ItemsAt w Ad l) {k : Nat} (hk : k < l.length) :
    ∃ b off, Ad = some ⟨b, off, none⟩ ∧ b < w.heap.size ∧ ItAt w b (off + k * 5) l[k] := by
  obtain ⟨b, off, h1, h2, h3⟩ := h (by intro e; subst e; simp at hk)
  exact ⟨b, off, h1, h2, h3 k hk⟩

theorem ItAt.below {w w' : World} {b o : Nat} {t : It} (h : ItAt w b o t) (hlt : b < w.heap.size) (hb : Below w.heap.size w w') : ItAt w' b o t := by
  obtain ⟨h0, h1, h2, h3, h4, h5, h6⟩ := h
  exact ⟨(hb.cell hlt).trans h0, (hb.cell hlt).trans h1, (hb.cell hlt).trans h2, (hb.cell hlt).trans h3, (hb.cell hlt).trans h4, h5.below hb, h6.below hb⟩

/-- Is an item not too much? -/
def fewOne (t : It) : Bool := decide (t.s.size ≤ 500 ∧ t.xs.length ≤ 40 ∧ t.ys.length ≤ 40)
def fewB (l : List It) : Bool := decide (l.length ≤ 40) && l.all fewOne

theorem few_drop {l : List It} {k : Nat} (hk : k < l.length) : (l.drop k).all fewOne = (fewOne l[k] && (l.drop (k + 1)).all fewOne) := by
  rw [List.drop_eq_getElem_cons hk]; rfl

set_option maxHeartbeats 400000 in
theorem few_any (Ad : Option Addr) (cap : Nat) (l : List It) (w : World) (hi : ItemsAt w Ad l) (n : Nat) (hn : n = l.length) (hlen : n ≤ 9223372036854775807) :
    Calls Try.prog 9 #[.slice Ad n cap] w fun e w' => e = .returned (.bool (fewB l)) ∧ w = w' := by
  obtain ⟨R, HR⟩ : ∃ R, Hid (R = fewB l) := ⟨_, rfl⟩
  rw [← HR.out]
  have HN := Lib.hid hn; clear hn
  by_cases h40 : 40 < n
  · have hR : Hid (R = false) := by show _ = _; rw [HR.out]; unfold fewB; rw [← HN.out]; simp; omega
    go_enter Try.func9, Try.ntmps9
    go_wp2
    go_returns
    exact ⟨ret_bool hR.out.symm, rfl⟩
  · have hR : Hid (R = l.all fewOne) := by show _ = _; rw [HR.out]; unfold fewB; rw [← HN.out]; simp; omega
    clear HR
    go_enter Try.func9, Try.ntmps9
    go_wp2
    go_loop [3] (fun v3 => ∃ k : Nat, k ≤ n ∧ v3 = .int .i64 k ∧ Hid (l.all fewOne = (l.drop k).all fewOne)) (fun v3 => n - (intOf v3).toNat)
    case atStart => exact ⟨0, Nat.zero_le _, rfl, rfl⟩
    case round =>
      obtain ⟨k, hk, rfl, hd⟩ := hrel
      by_cases hlt : k < n
      · have hlt' : k < l.length := by rw [← HN.out]; exact hlt
        obtain ⟨b, off, rfl, hb, hit⟩ := hi.get hlt'
        have hfd := few_drop hlt'
        obtain ⟨t, Ht⟩ : ∃ t, Hid (t = l[k]) := ⟨l[k], rfl⟩
        rw [← Ht.out] at hit hfd
        obtain ⟨a0, a1, a2, a3, a4, a5, a6⟩ := hit
        have HFD := Lib.hid hfd; clear hfd a5 a6
        cases hone : fewOne t with
        | true =>
          have ho := of_decide_eq_true (show decide (t.s.size ≤ 500 ∧ t.xs.length ≤ 40 ∧ t.ys.length ≤ 40) = true from hone)
          obtain ⟨o1, o2, o3⟩ := ho
          go_wp2
          go_round
          case rel => exact ⟨k + 1, by omega, by go_num, by show _ = _; rw [hd.out, HFD.out, hone, Bool.true_and]⟩
          case measure => simp [intOf]; omega
        | false =>
          have ho : ¬ (t.s.size ≤ 500 ∧ t.xs.length ≤ 40 ∧ t.ys.length ≤ 40) := of_decide_eq_false (show decide (t.s.size ≤ 500 ∧ t.xs.length ≤ 40 ∧ t.ys.length ≤ 40) = false from hone)
          have hz : Hid (R = false) := by show _ = _; rw [hR.out, hd.out, HFD.out, hone]; rfl
          by_cases o1 : t.s.size ≤ 500
          · by_cases o2 : t.xs.length ≤ 40
            · have o3 : 40 < t.ys.length := by omega
              clear ho
              go_wp2
              go_returns
              exact ⟨ret_bool hz.out.symm, rfl⟩
            · clear ho
              go_wp2
              go_returns
              exact ⟨ret_bool hz.out.symm, rfl⟩
          · clear ho
            go_wp2
            go_returns
            exact ⟨ret_bool hz.out.symm, rfl⟩
      · go_wp2
        go_returns
        exact ⟨ret_bool (by rw [hR.out, hd.out, List.drop_of_length_le (by rw [← HN.out]; omega)]; rfl), rfl⟩

/-- What an item does to what was written. -/
def itStep (st : Option (List UInt8)) (t : It) : Option (List UInt8) :=
  if t.ask = 0 then putStep st 1 t.n else if t.ask = 1 then putStep st 2 t.n else if t.ask = 2 then putStep st 4 t.n
  else if t.ask = 3 then st.map (· ++ t.s.data.toList) else if t.ask = 4 then bitsStep st t.xs t.ys else st

set_option maxHeartbeats 1000000 in
theorem write_any (b n : Nat) (st : Option (List UInt8)) (t : It) (w : World) (h : WrAt w b n st) (hll : ∀ l, st = some l → l.length ≤ 900000) (hA : IntsAt w t.A t.xs) (hB : IntsAt w t.B t.ys) (hs : t.s.size ≤ 1000000) (hxl : t.xs.length ≤ 1000000) :
    Calls Try.prog 11 #[.pointer (some ⟨b, 0, none⟩), t.val] w fun e w' => e = .returned (.tuple #[]) ∧ WrAt w' b (n + 1) (itStep st t) ∧ w.grownBy w' (some b) := by
  obtain ⟨ask, v, s, A, ca, xs, B, cb, ys⟩ := t
  simp only at hA hB hs hxl
  unfold It.val itStep
  simp only
  have hbl : Below w.heap.size w (w.alloc (.cells #[.int .i64 ask, .int .i64 v, .string s, .slice A xs.length ca, .slice B ys.length cb] 35)) := (Below.refl _ _).alloc (Nat.le_refl _) _
  have h' := h.below hbl
  have hA' := hA.below hbl
  have hB' := hB.below hbl
  have HL := Lib.hid hll; clear hll
  by_cases k0 : ask = 0
  · subst k0
    rw [if_pos rfl]
    go_enter Try.func11, Try.ntmps11
    go_wp2_with (go_at_call 26; refine (u8_any b n st v _ h' HL.out).mono ?_; rintro e w1 ⟨rfl, h1, hg1⟩)
    go_returns
    exact ⟨rfl, h1, grown_trans (grown_of_below hbl) hg1⟩
  · rw [if_neg k0]
    have e0 : (ask == 0) = false := by simpa using k0
    clear k0
    by_cases k1 : ask = 1
    · subst k1
      rw [if_pos rfl]
      clear e0
      go_enter Try.func11, Try.ntmps11
      go_wp2_with (go_at_call 27; refine (u16_any b n st v _ h' HL.out).mono ?_; rintro e w1 ⟨rfl, h1, hg1⟩)
      go_returns
      exact ⟨rfl, h1, grown_trans (grown_of_below hbl) hg1⟩
    · rw [if_neg k1]
      have e1 : (ask == 1) = false := by simpa using k1
      clear k1
      by_cases k2 : ask = 2
      · subst k2
        rw [if_pos rfl]
        clear e0 e1
        go_enter Try.func11, Try.ntmps11
        go_wp2_with (go_at_call 28; refine (u32_any b n st v _ h' HL.out).mono ?_; rintro e w1 ⟨rfl, h1, hg1⟩)
        go_returns
        exact ⟨rfl, h1, grown_trans (grown_of_below hbl) hg1⟩
      · rw [if_neg k2]
        have e2 : (ask == 2) = false := by simpa using k2
        clear k2
        by_cases k3 : ask = 3
        · subst k3
          rw [if_pos rfl]
          clear e0 e1 e2
          go_enter Try.func11, Try.ntmps11
          go_wp2_with (go_at_call 29; refine (text_any b n st s _ h' (fun l e => Nat.le_trans (HL.out l e) (by omega)) hs).mono ?_; rintro e w1 ⟨rfl, h1, hg1⟩)
          go_returns
          exact ⟨rfl, h1, grown_trans (grown_of_below hbl) hg1⟩
        · rw [if_neg k3]
          have e3 : (ask == 3) = false := by simpa using k3
          clear k3
          by_cases k4 : ask = 4
          · subst k4
            rw [if_pos rfl]
            clear e0 e1 e2 e3
            go_enter Try.func11, Try.ntmps11
            go_wp2_with (go_at_call 30; refine (bits_any b n st A B ca cb xs ys _ h' hA' hB' hxl HL.out).mono ?_; rintro e w1 ⟨rfl, h1, hg1⟩)
            go_returns
            exact ⟨rfl, h1, grown_trans (grown_of_below hbl) hg1⟩
          · rw [if_neg k4]
            have e4 : (ask == 4) = false := by simpa using k4
            clear k4
            go_enter Try.func11, Try.ntmps11
            go_wp2
            go_returns
            exact ⟨rfl, h'.more (by omega), grown_of_below hbl⟩

theorem PlAt.below {w w' : World} {r : Nat} {st : Option (List UInt8)} (h : PlAt w r st) (hb : Below w.heap.size w w') : PlAt w' r st := h.keep hb.block

set_option maxHeartbeats 1000000 in
theorem plain_any (r : Nat) (st : Option (List UInt8)) (t : It) (w : World) (h : PlAt w r st) (hll : ∀ l, st = some l → l.length ≤ 900000) (hA : IntsAt w t.A t.xs) (hB : IntsAt w t.B t.ys) (hs : t.s.size ≤ 1000000) (hxl : t.xs.length ≤ 1000000) :
    Calls Try.prog 12 #[.pointer (some ⟨r, 0, none⟩), t.val] w fun e w' => e = .returned (.tuple #[]) ∧ PlAt w' r (itStep st t) ∧ w.grownBy w' (some r) := by
  obtain ⟨ask, v, s, A, ca, xs, B, cb, ys⟩ := t
  simp only at hA hB hs hxl
  unfold It.val itStep
  simp only
  have hbl : Below w.heap.size w (w.alloc (.cells #[.int .i64 ask, .int .i64 v, .string s, .slice A xs.length ca, .slice B ys.length cb] 35)) := (Below.refl _ _).alloc (Nat.le_refl _) _
  have h' := h.below hbl
  have hA' := hA.below hbl
  have hB' := hB.below hbl
  have HL := Lib.hid hll; clear hll
  by_cases k0 : ask = 0
  · subst k0
    rw [if_pos rfl]
    go_enter Try.func12, Try.ntmps12
    go_wp2_with (go_at_call 32; refine (pput_any r st 1 v _ (by simp) h' (fun l e => Nat.le_trans (HL.out l e) (by omega))).mono ?_; rintro e w1 ⟨rfl, h1, hg1⟩)
    go_returns
    exact ⟨rfl, h1, grown_trans (grown_of_below hbl) hg1⟩
  · rw [if_neg k0]
    have e0 : (ask == 0) = false := by simpa using k0
    clear k0
    by_cases k1 : ask = 1
    · subst k1
      rw [if_pos rfl]
      clear e0
      go_enter Try.func12, Try.ntmps12
      go_wp2_with (go_at_call 32; refine (pput_any r st 2 v _ (by simp) h' (fun l e => Nat.le_trans (HL.out l e) (by omega))).mono ?_; rintro e w1 ⟨rfl, h1, hg1⟩)
      go_returns
      exact ⟨rfl, h1, grown_trans (grown_of_below hbl) hg1⟩
    · rw [if_neg k1]
      have e1 : (ask == 1) = false := by simpa using k1
      clear k1
      by_cases k2 : ask = 2
      · subst k2
        rw [if_pos rfl]
        clear e0 e1
        go_enter Try.func12, Try.ntmps12
        go_wp2_with (go_at_call 32; refine (pput_any r st 4 v _ (by simp) h' (fun l e => Nat.le_trans (HL.out l e) (by omega))).mono ?_; rintro e w1 ⟨rfl, h1, hg1⟩)
        go_returns
        exact ⟨rfl, h1, grown_trans (grown_of_below hbl) hg1⟩
      · rw [if_neg k2]
        have e2 : (ask == 2) = false := by simpa using k2
        clear k2
        by_cases k3 : ask = 3
        · subst k3
          rw [if_pos rfl]
          clear e0 e1 e2
          go_enter Try.func12, Try.ntmps12
          go_wp2_with (go_at_call 33; refine (ptext_any r st s _ h' (fun l e => Nat.le_trans (HL.out l e) (by omega)) hs).mono ?_; rintro e w1 ⟨rfl, h1, hg1⟩)
          go_returns
          exact ⟨rfl, h1, grown_trans (grown_of_below hbl) hg1⟩
        · rw [if_neg k3]
          have e3 : (ask == 3) = false := by simpa using k3
          clear k3
          by_cases k4 : ask = 4
          · subst k4
            rw [if_pos rfl]
            clear e0 e1 e2 e3
            match st, h, h' with
            | none, hn, ⟨z, hz⟩ =>
              have d1 : w.cell? ⟨r, 1, none⟩ = some (.bool true) := by obtain ⟨z', hz'⟩ := hn; exact lies_cell hz' 1
              have HZ := Lib.hid hz; clear hz
              have hlt := hn.lt
              go_enter Try.func12, Try.ntmps12
              go_wp2
              go_returns
              exact ⟨rfl, ⟨z, HZ.out⟩, grown_of_below hbl⟩
            | some l, hn, hp =>
              have d1 : w.cell? ⟨r, 1, none⟩ = some (.bool false) := lies_cell (w := w) hn 1
              have hlt := hn.lt
              go_enter Try.func12, Try.ntmps12
              go_wp2_with (go_at_call 34; refine (pbits_any r l A B ca cb xs ys _ hp hA' hB' hxl (HL.out l rfl)).mono ?_; rintro e w1 ⟨rfl, h1, hg1⟩)
              go_returns
              exact ⟨rfl, h1, grown_trans (grown_of_below hbl) hg1⟩
          · rw [if_neg k4]
            have e4 : (ask == 4) = false := by simpa using k4
            clear k4
            go_enter Try.func12, Try.ntmps12
            go_wp2
            go_returns
            exact ⟨rfl, h', grown_of_below hbl⟩
end Go.Proofs.Ytbdhneoicfciiaa
