/- Merged: Rpu, Oq, Px, Py. -/
import Derived.Test.YtgdjcoodjdckkaaM13
import Derived.Test.YtgdjcoodjdckkaaM14
import Derived.Test.YtgdjcoodjdckkaaM15
import Derived.Test.YtgdjcoodjdckkaaM16
import Derived.Test.YtgdjcoodjdckkaaM17
import Derived.Test.YtgdjcoodjdckkaaM18
import Derived.Test.YtgdjcoodjdckkaaM9
set_option linter.unusedVariables false
/- The document's Put, whatever comes. -/
set_option maxRecDepth 100000
namespace Go.Proofs.Ytgdjcoodjdckkaa
open Go.RowKit Go.Proofs.PitotIp Go.Maps
open Go.Proofs.PitotReasm (Bg Tb Fine bad first next passed passE put keep)
open Go.Proofs.Ytgdjcoodjdckkaa.Bi (lies_lt lies_cell lies_frozen lies_alloc lies_set)

theorem tbl_given_none {L : List Rb} {n : Int} {d : Nat} {k : K} (h : ∀ c ∈ L, c.k ≠ k) : given (tbl L n d) k = tbl L n d := given_none (tbl_none h)
theorem tbl_given_some {l1 l2 : List Rb} {b : Rb} {n : Int} {d : Nat} {k : K} (hf : Fine (tbl (l1 ++ b :: l2) n d).l) (h : ∀ c ∈ l1, c.k ≠ k) (hb : b.k = k) : given (tbl (l1 ++ b :: l2) n d) k = tbl (l1 ++ l2) n (d + 1) := by
  rw [given_some hf (tbl_some h hb)]
  show (⟨drop ((l1 ++ b :: l2).map Rb.bg) k, n, d + 1⟩ : Tb K UInt8) = _
  rw [tbl_drop h hb (place_rest hf hb)]
  rfl
theorem refPut_any {base : Nat} {w : World} {rp : Nat} {most : Nat} {wait : Int} {L : List Rb} {now : Int} {d : Nat} (h : RefAt base w rp most wait L now d) (hG : Good most (tbl L now d)) (hmost : most ≤ 64) (hdr : d ≤ 10000000000) (hw0 : 0 ≤ wait) (hw1 : wait ≤ 1125899906842624) (n : Int) (p : Pk) (hw : p.Wf) (hs : p.s.size ≤ 1000000000) : Calls Try.prog 15 #[.pointer (some ⟨rp, 0, none⟩), .int .i64 n, p.rv] w fun e w' => e = .returned (refans p (put most wait (tbl L now d) n (p.key hw) p.m p.off p.d).2.1 (put most wait (tbl L now d) n (p.key hw) p.m p.off p.d).2.2) ∧ (∃ L' n' d', RefAt base w' rp most wait L' n' d' ∧ tbl L' n' d' = (put most wait (tbl L now d) n (p.key hw) p.m p.off p.d).1) ∧ Fq base w w' := by
  by_cases hp : rE now n = 0
  · have hpe : passE (tbl L now d) n = 0 := hp
    have hpt := tbl_passed L now d wait n
    have hg2 := passed_good hG (wait := wait) hpe
    rw [hpt] at hg2
    by_cases ho : p.off = 0
    · cases hm : p.m
      · have e0 : put most wait (tbl L now d) n (p.key hw) false p.off p.d = (tbl (keepB L wait n) n (d + (L.length - (keepB L wait n).length)), some p.d, 0) := by
          unfold put; rw [if_neg (by omega), if_pos ⟨rfl, ho⟩, hpt]
        rw [e0]
        exact (rput_whole h hG hmost hdr hw0 hw1 n p hw hs hp ho hm).mono fun e w' x => ⟨x.1, ⟨_, _, _, x.2.1, rfl⟩, x.2.2⟩
      · have e0 : put most wait (tbl L now d) n (p.key hw) true p.off p.d = ((first most (tbl (keepB L wait n) n (d + (L.length - (keepB L wait n).length))) (p.key hw) p.m p.d).1, none, (first most (tbl (keepB L wait n) n (d + (L.length - (keepB L wait n).length))) (p.key hw) p.m p.d).2) := by
          unfold put; rw [if_neg (by omega), if_neg (by simp), if_pos ho, hpt, hm]
        rw [e0]
        have hj := jr_zero p ho
        rcases place (keepB L wait n) (p.key hw) with hn | ⟨l1, b, l2, hL, hbk, hl1⟩
        · have hgv := tbl_given_none (n := n) (d := (d + (L.length - (keepB L wait n).length))) hn
          by_cases hbd : bad p.m p.d = true
          · rw [if_pos hbd] at hj
            rw [first_bad ho (by omega), hgv, hj]
            exact (rfirst_none_field h hG hmost hdr hw0 hw1 n p hw hs hp ho hm hn hbd).mono fun e w' x => ⟨x.1, ⟨_, _, _, x.2.1, rfl⟩, x.2.2⟩
          · have hbd' : bad p.m p.d = false := by simpa using hbd
            rw [if_neg hbd] at hj
            by_cases hlg : 8200 < p.s.size
            · rw [if_pos hlg] at hj
              rw [first_bad ho (by omega), hgv, hj]
              exact (rfirst_none_long h hG hmost hdr hw0 hw1 n p hw hs hp ho hm hn hbd' hlg).mono fun e w' x => ⟨x.1, ⟨_, _, _, x.2.1, rfl⟩, x.2.2⟩
            · rw [if_neg hlg] at hj
              by_cases hfl : most ≤ ((keepB L wait n)).length
              · rw [first_full ho hj (by rw [hgv]; show most ≤ (((keepB L wait n)).map Rb.bg).length; rw [List.length_map]; exact hfl), hgv]
                exact (rfirst_none_full h hG hmost hdr hw0 hw1 n p hw hs hp ho hm hn hbd' hlg hfl).mono fun e w' x => ⟨x.1, ⟨_, _, _, x.2.1, rfl⟩, x.2.2⟩
              · rw [first_put ho hj (by rw [hgv]; show ¬ most ≤ (((keepB L wait n)).map Rb.bg).length; rw [List.length_map]; exact hfl), hgv]
                exact (rfirst_none_put h hG hmost hdr hw0 hw1 n p hw hs hp ho hm hn hbd' hlg hfl).mono fun e w' x => ⟨x.1, ⟨_, _, _, x.2.1, by
                  show (⟨((keepB L wait n) ++ [(⟨p, hw, n, p.d⟩ : Rb)]).map Rb.bg, n, _⟩ : Tb K UInt8) = _
                  rw [List.map_append]; rfl⟩, x.2.2⟩
        · have hfine := hg2.fine
          rw [hL] at hfine
          have hgv : given (tbl (keepB L wait n) n (d + (L.length - (keepB L wait n).length))) (p.key hw) = tbl (l1 ++ l2) n ((d + (L.length - (keepB L wait n).length)) + 1) := by
            have := tbl_given_some (n := n) (d := (d + (L.length - (keepB L wait n).length))) hfine hl1 hbk
            rw [← hL] at this
            exact this
          by_cases hbd : bad p.m p.d = true
          · rw [if_pos hbd] at hj
            rw [first_bad ho (by omega), hgv, hj]
            exact (rfirst_some_field h hG hmost hdr hw0 hw1 n p hw hs hp ho hm hL hbk hl1 hbd).mono fun e w' x => ⟨x.1, ⟨_, _, _, x.2.1, rfl⟩, x.2.2⟩
          · have hbd' : bad p.m p.d = false := by simpa using hbd
            rw [if_neg hbd] at hj
            by_cases hlg : 8200 < p.s.size
            · rw [if_pos hlg] at hj
              rw [first_bad ho (by omega), hgv, hj]
              exact (rfirst_some_long h hG hmost hdr hw0 hw1 n p hw hs hp ho hm hL hbk hl1 hbd' hlg).mono fun e w' x => ⟨x.1, ⟨_, _, _, x.2.1, rfl⟩, x.2.2⟩
            · rw [if_neg hlg] at hj
              by_cases hfl : most ≤ (l1 ++ l2).length
              · rw [first_full ho hj (by rw [hgv]; show most ≤ ((l1 ++ l2).map Rb.bg).length; rw [List.length_map]; exact hfl), hgv]
                exact (rfirst_some_full h hG hmost hdr hw0 hw1 n p hw hs hp ho hm hL hbk hl1 hbd' hlg hfl).mono fun e w' x => ⟨x.1, ⟨_, _, _, x.2.1, rfl⟩, x.2.2⟩
              · rw [first_put ho hj (by rw [hgv]; show ¬ most ≤ ((l1 ++ l2).map Rb.bg).length; rw [List.length_map]; exact hfl), hgv]
                exact (rfirst_some_put h hG hmost hdr hw0 hw1 n p hw hs hp ho hm hL hbk hl1 hbd' hlg hfl).mono fun e w' x => ⟨x.1, ⟨_, _, _, x.2.1, by
                  show (⟨(l1 ++ l2 ++ [(⟨p, hw, n, p.d⟩ : Rb)]).map Rb.bg, n, _⟩ : Tb K UInt8) = _
                  rw [List.map_append]; rfl⟩, x.2.2⟩
    · have e0 : put most wait (tbl L now d) n (p.key hw) p.m p.off p.d = next (tbl (keepB L wait n) n (d + (L.length - (keepB L wait n).length))) (p.key hw) p.m p.off p.d := by
        unfold put; rw [if_neg (by omega), if_neg (fun e => ho e.2), if_neg ho, hpt]
      rw [e0]
      rcases place (keepB L wait n) (p.key hw) with hn | ⟨l1, b, l2, hL, hbk, hl1⟩
      · rw [next_none (show find (tbl (keepB L wait n) n (d + (L.length - (keepB L wait n).length))).l (p.key hw) = none from tbl_none hn)]
        exact (rput_none h hG hmost hdr hw0 hw1 n p hw hs hp ho hn).mono fun e w' x => ⟨x.1, ⟨_, _, _, x.2.1, rfl⟩, x.2.2⟩
      · have hfine := hg2.fine
        have hfd : find (tbl (keepB L wait n) n (d + (L.length - (keepB L wait n).length))).l (p.key hw) = some b.bg := by
          show find (((keepB L wait n)).map Rb.bg) (p.key hw) = _
          rw [hL]; exact tbl_some hl1 hbk
        have hf2 := hfine
        rw [hL] at hf2
        have hrest := place_rest hf2 hbk
        have hdrop : drop (tbl (keepB L wait n) n (d + (L.length - (keepB L wait n).length))).l (p.key hw) = (l1 ++ l2).map Rb.bg := by
          show drop (((keepB L wait n)).map Rb.bg) (p.key hw) = _
          rw [hL]; exact tbl_drop hl1 hbk hrest
        have hmore : PitotReasm.more (tbl (keepB L wait n) n (d + (L.length - (keepB L wait n).length))).l (p.key hw) p.d = (l1 ++ b.add p.d :: l2).map Rb.bg := by
          show PitotReasm.more (((keepB L wait n)).map Rb.bg) (p.key hw) p.d = _
          rw [hL]; exact tbl_more hl1 hbk hrest p.d
        have hb8 : b.d.length % 8 = 0 := hfine.eight b.bg (find_mem hfd).1
        have hbd0 : b.bg.d = b.d := rfl
        by_cases hj : jr p b.d.length = 0
        · obtain ⟨h1, h2, h3⟩ := jr_zero_of hj
          cases hm : p.m
          · have e1 := next_end hfine hfd hj hm
            rw [hm] at e1
            rw [e1]
            exact (rput_last h hG hmost hdr hw0 hw1 n p hw hs hp ho hL hbk hl1 h1 hm h2 h3).mono fun e w' x => ⟨x.1, ⟨_, _, _, x.2.1, by rw [hdrop]; rfl⟩, x.2.2⟩
          · have e1 := next_on hfine hfd hj hm
            rw [hm] at e1
            rw [e1]
            exact (rput_more h hG hmost hdr hw0 hw1 n p hw hs hp ho hL hbk hl1 h1 hm h2 h3).mono fun e w' x => ⟨x.1, ⟨_, _, _, x.2.1, by rw [hmore]; rfl⟩, x.2.2⟩
        · rw [next_bad hfine hfd hj]
          have hres : ∀ {w' : World}, RefAt base w' rp most wait (l1 ++ l2) n ((d + (L.length - (keepB L wait n).length)) + 1) → ∃ L' n' d', RefAt base w' rp most wait L' n' d' ∧ tbl L' n' d' = (⟨drop (tbl (keepB L wait n) n (d + (L.length - (keepB L wait n).length))).l (p.key hw), n, (d + (L.length - (keepB L wait n).length)) + 1⟩ : Tb K UInt8) := fun {w'} x => ⟨_, _, _, x, by rw [hdrop]; rfl⟩
          by_cases h1 : p.off = ((b.d.length / 8 : Nat) : Int)
          · by_cases h2 : bad p.m p.d = true
            · have ej : jr p b.bg.d.length = 15   := by rw [hbd0]; unfold jr; rw [if_neg (by simpa using h1), if_pos h2]
              rw [ej]
              have hm : p.m = true := by
                cases hm : p.m
                · rw [hm] at h2; simp [bad] at h2
                · rfl
              exact (rput_field h hG hmost hdr hw0 hw1 n p hw hs hp ho hL hbk hl1 h1 hm h2).mono fun e w' x => ⟨x.1, hres x.2.1, x.2.2⟩
            · have h2' : bad p.m p.d = false := by simpa using h2
              have h3 : 8200 < b.d.length + p.s.size := by
                refine Classical.byContradiction fun h3 => hj ?_
                unfold jr; rw [if_neg (by simpa using h1), if_neg h2, if_neg h3]
              have ej : jr p b.bg.d.length = 11   := by rw [hbd0]; unfold jr; rw [if_neg (by simpa using h1), if_neg h2, if_pos h3]
              rw [ej]
              cases hm : p.m
              · exact (rput_long_false h hG hmost hdr hw0 hw1 n p hw hs hp ho hL hbk hl1 h1 hm h2' h3).mono fun e w' x => ⟨x.1, hres x.2.1, x.2.2⟩
              · exact (rput_long_true h hG hmost hdr hw0 hw1 n p hw hs hp ho hL hbk hl1 h1 hm h2' h3).mono fun e w' x => ⟨x.1, hres x.2.1, x.2.2⟩
          · have ej : jr p b.bg.d.length = 25   := by rw [hbd0]; unfold jr; rw [if_pos (by simpa using h1)]
            rw [ej]
            cases hm : p.m
            · exact (rput_off_false h hG hmost hdr hw0 hw1 n p hw hs hp ho hL hbk hl1 h1 hm).mono fun e w' x => ⟨x.1, hres x.2.1, x.2.2⟩
            · exact (rput_off_true h hG hmost hdr hw0 hw1 n p hw hs hp ho hL hbk hl1 h1 hm).mono fun e w' x => ⟨x.1, hres x.2.1, x.2.2⟩
  · have e0 : put most wait (tbl L now d) n (p.key hw) p.m p.off p.d = (tbl L now d, none, rE now n) := by
      unfold put; rw [if_pos (show passE (tbl L now d) n ≠ 0 from hp)]; rfl
    rw [e0]
    exact (rput_bad h hG hmost hdr hw0 hw1 n p hw hs hp).mono fun e w' x => ⟨x.1, ⟨_, _, _, x.2.1, rfl⟩, x.2.2⟩
end Go.Proofs.Ytgdjcoodjdckkaa
/- A list of calls, as it comes in, is opened: what they are. -/
set_option maxRecDepth 100000
namespace Go.Proofs.Ytgdjcoodjdckkaa
open Go.RowKit Go.ChangeShapes Go.WideShapes Go.Deep Go.Proofs.PitotIp

/-- A call. -/
structure Oq where
  pass : Bool
  now : Int
  p : Pk
abbrev Oq.enc (o : Oq) : List Value := .bool o.pass :: .int .i64 o.now :: o.p.enc
theorem Oq.enc_length (o : Oq) : o.enc.length = 16 := rfl
def OqAt (w : World) (b o : Nat) (x : Oq) : Prop := w.cell? ⟨b, o, none⟩ = some (.bool x.pass) ∧ w.cell? ⟨b, o + 1, none⟩ = some (.int .i64 x.now) ∧ w.cell? ⟨b, o + 2, none⟩ = some (.int .i64 x.p.id) ∧ w.cell? ⟨b, o + 3, none⟩ = some (.bool x.p.m) ∧ w.cell? ⟨b, o + 4, none⟩ = some (.int .i64 x.p.off) ∧ w.cell? ⟨b, o + 5, none⟩ = some (.int .i64 x.p.ttl) ∧ w.cell? ⟨b, o + 6, none⟩ = some (.int .i64 x.p.pr) ∧ w.cell? ⟨b, o + 7, none⟩ = some (.int .u8 x.p.a.a.toNat) ∧ w.cell? ⟨b, o + 8, none⟩ = some (.int .u8 x.p.a.b.toNat) ∧ w.cell? ⟨b, o + 9, none⟩ = some (.int .u8 x.p.a.c.toNat) ∧ w.cell? ⟨b, o + 10, none⟩ = some (.int .u8 x.p.a.d.toNat) ∧ w.cell? ⟨b, o + 11, none⟩ = some (.int .u8 x.p.b.a.toNat) ∧ w.cell? ⟨b, o + 12, none⟩ = some (.int .u8 x.p.b.b.toNat) ∧ w.cell? ⟨b, o + 13, none⟩ = some (.int .u8 x.p.b.c.toNat) ∧ w.cell? ⟨b, o + 14, none⟩ = some (.int .u8 x.p.b.d.toNat) ∧ w.cell? ⟨b, o + 15, none⟩ = some (.string x.p.s)
theorem OqAt.of_cells {w w' : World} {b o : Nat} {x : Oq} (h : OqAt w b o x) (hc : ∀ k, w'.cell? ⟨b, k, none⟩ = w.cell? ⟨b, k, none⟩) : OqAt w' b o x := by
  obtain ⟨h0, h1, h2, h3, h4, h5, h6, h7, h8, h9, h10, h11, h12, h13, h14, h15⟩ := h
  exact ⟨(hc _).trans h0, (hc _).trans h1, (hc _).trans h2, (hc _).trans h3, (hc _).trans h4, (hc _).trans h5, (hc _).trans h6, (hc _).trans h7, (hc _).trans h8, (hc _).trans h9, (hc _).trans h10, (hc _).trans h11, (hc _).trans h12, (hc _).trans h13, (hc _).trans h14, (hc _).trans h15⟩
theorem OqAt.below {w w' : World} {b o B : Nat} {x : Oq} (h : OqAt w b o x) (hb : Below B w w') (hlt : b < B) : OqAt w' b o x := h.of_cells fun _ => hb.cell hlt
/-- Calls as they lie in memory. -/
def OqsAt (w : World) (A : Option Addr) (l : List Oq) : Prop :=
  l ≠ [] → ∃ b off, A = some ⟨b, off, none⟩ ∧ b < w.heap.size ∧ ∀ i (h : i < l.length), OqAt w b (off + i * 16) l[i]
theorem OqsAt.get {w : World} {A : Option Addr} {l : List Oq} (h : OqsAt w A l) {k : Nat} (hk : k < l.length) : ∃ b off, A = some ⟨b, off, none⟩ ∧ b < w.heap.size ∧ OqAt w b (off + k * 16) l[k] := by
  obtain ⟨b, off, h1, h2, h3⟩ := h (fun e => by subst e; simp at hk)
  exact ⟨b, off, h1, h2, h3 k hk⟩

section
variable {H : Type} {enc : TypeId × Value → H} {w W : World} {base b0 : Nat} {spare : Nat → Bool} {held : Bool}
theorem cells36 : Try.prog.cellsOf 36 = 16 := by kernel_rfl
theorem op_cells {fuel : Nat} {l : List Value} {x : DataW H × List MemPlace} (h : DataW.trod enc Try.prog W b0 spare held fuel 36 l = some x) :
    ∃ o : Oq, l = o.enc ∧ o.p.s.size ≤ maxLen ∧ o.p.Wf ∧ (Lit.int .i64 o.now).wf = true := by
  have c3 : Try.prog.cellsOf 3 = 1 := by kernel_rfl
  have c4 : Try.prog.cellsOf 4 = 1 := by kernel_rfl
  obtain ⟨ys, n', _, _, hlen, hyl, hf⟩ := DataW.trod_struct Try.underlying36 h
  rw [cells36] at hlen
  match l, hlen with
  | x0 :: x1 :: r, hlen =>
    match ys, hyl with
    | [y0, y1, y2], _ =>
      have f0 : DataW.trod enc Try.prog W b0 spare held n' 4 (((x0 :: x1 :: r).drop 0).take (Try.prog.cellsOf 4)) = some y0 := hf 0 _ rfl
      have f1 : DataW.trod enc Try.prog W b0 spare held n' 3 (((x0 :: x1 :: r).drop 1).take (Try.prog.cellsOf 3)) = some y1 := hf 1 _ rfl
      have f2 : DataW.trod enc Try.prog W b0 spare held n' 34 (((x0 :: x1 :: r).drop 2).take (Try.prog.cellsOf 34)) = some y2 := hf 2 _ rfl
      rw [c4] at f0
      rw [c3] at f1
      rw [cells25] at f2
      have f0 : DataW.trod enc Try.prog W b0 spare held n' 4 [x0] = some y0 := f0
      have f1 : DataW.trod enc Try.prog W b0 spare held n' 3 [x1] = some y1 := f1
      have f2 : DataW.trod enc Try.prog W b0 spare held n' 34 (r.take 14) = some y2 := f2
      obtain ⟨m, e0, _⟩ := DataW.trod_bool Try.underlying4 f0
      obtain ⟨n1, e1, _, w1⟩ := DataW.trod_int Try.underlying3 f1
      obtain ⟨p, e2, hps, hpw⟩ := packet_cells f2
      simp only [List.cons.injEq, and_true] at e0 e1
      subst e0 e1
      have hr : r.take 14 = r := List.take_of_length_le (by simp only [List.length_cons] at hlen; omega)
      rw [hr] at e2
      subst e2
      exact ⟨⟨m, n1, p⟩, rfl, hps, hpw, w1⟩

/-- A list of calls that comes in. -/
theorem ops_open {fuel : Nat} {v : Value} {x : DataW H × List MemPlace} (h : DataW.trod enc Try.prog w base spare held fuel 22 [v] = some x) :
    ∃ Ad cap l, v = .slice Ad (List.length l) cap ∧ OqsAt w Ad l ∧ l.length ≤ maxLen ∧ ∀ o ∈ l, o.p.s.size ≤ maxLen ∧ o.p.Wf ∧ (Lit.int .i64 o.now).wf = true := by
  have hC : Try.prog.cellsOf 36 = 16 := cells36
  rcases open_slice Try.underlying22 h with ⟨hcs, _⟩ | ⟨a, len, cap, m, n, D, Pl, hcs, _, hl, hm, hmm, _, hall⟩
  · exact ⟨none, 0, [], by simpa using hcs, fun h => absurd rfl h, by simp, fun p h => by simp at h⟩
  · have hlm : len ≤ m := by rw [hmm]; split <;> omega
    have each : ∀ i, i < len → ∃ t : Oq, (t.p.s.size ≤ maxLen ∧ t.p.Wf ∧ (Lit.int .i64 t.now).wf = true) ∧ ∃ b off, a = ⟨b, off, none⟩ ∧ b < w.heap.size ∧ OqAt w b (off + i * 16) t := by
      intro i hi
      obtain ⟨cs, hcell, htr⟩ := hall i (by omega)
      rw [hC] at hcell
      obtain ⟨_, hlen, hat⟩ := World.cells?_some hcell
      obtain ⟨p, rfl, hps⟩ := op_cells htr
      obtain ⟨b, off, spot⟩ := a
      have hspot : spot = none := by
        obtain ⟨cs0, hcell0, htr0⟩ := hall 0 (by omega)
        rw [hC] at hcell0
        obtain ⟨_, hlen0, hat0⟩ := World.cells?_some hcell0
        have q0 := hat0 0 (by omega)
        rw [List.getElem?_eq_getElem (by omega)] at q0
        simpa [Addr.add] using World.cell?_spot q0
      subst hspot
      have hk : ∀ k (hk : k < 16), w.cell? ⟨b, off + i * 16 + k, none⟩ = some (p.enc[k]'(by rw [Oq.enc_length]; exact hk)) := fun k hk => by
        have h1 := hat k (by omega)
        rw [List.getElem?_eq_getElem (by rw [Oq.enc_length]; exact hk)] at h1
        rw [add_add'] at h1
        exact h1
      exact ⟨p, hps, b, off, rfl, cell_lt (hk 0 (by omega)), hk 0 (by omega), hk 1 (by omega), hk 2 (by omega), hk 3 (by omega), hk 4 (by omega), hk 5 (by omega), hk 6 (by omega), hk 7 (by omega), hk 8 (by omega), hk 9 (by omega), hk 10 (by omega), hk 11 (by omega), hk 12 (by omega), hk 13 (by omega), hk 14 (by omega), hk 15 (by omega)⟩
    obtain ⟨l, hll, hlp⟩ := list_of len each
    refine ⟨some a, cap, l, by rw [hll]; simpa using hcs, fun hne => ?_, by omega, fun p hp => ?_⟩
    · have hpos : 0 < l.length := List.length_pos_iff.2 hne
      obtain ⟨_, b, off, rfl, hb, _⟩ := hlp 0 hpos
      refine ⟨b, off, rfl, hb, fun i hi => ?_⟩
      obtain ⟨_, b', off', e, _, hit⟩ := hlp i hi
      cases e
      exact hit
    · obtain ⟨i, hi, rfl⟩ := List.getElem_of_mem hp
      exact (hlp i hi).1
end
end Go.Proofs.Ytgdjcoodjdckkaa
/- The program's table beside the document's: what a call on the one leaves of the other. -/
set_option maxRecDepth 100000
namespace Go.Proofs.Ytgdjcoodjdckkaa
open Go.RowKit Go.Proofs.PitotIp Go.Maps
open Go.Proofs.PitotReasm (Bg Tb Fine bad first next passed passE put keep)
open Go.Proofs.Ytgdjcoodjdckkaa.Bi (lies_lt lies_cell lies_frozen lies_alloc lies_set)

theorem RefAt.fr {base base2 : Nat} {w w' : World} {rp : Nat} {most wait : Int} {L : List Rb} {now : Int} {d : Nat} (h : RefAt base2 w rp most wait L now d) (hF : Fr base w w') : RefAt base2 w' rp most wait L now d := by
  obtain ⟨lv, h⟩ := h
  refine ⟨lv, h.hp, hF.kind _ _ _ _ (by decide) (by decide) (by decide) h.tab, h.row.1, ?_⟩
  rcases h.row.2 with hn | ⟨g, cap, cur, e, hg, hcur, r⟩
  · exact .inl hn
  · exact .inr ⟨g, cap, cur, e, hg, hF.kind _ _ _ _ (by decide) (by decide) (by decide) hcur, r⟩
theorem TabAt.fq {base base2 : Nat} {w w' : World} {p : Nat} {most wait : Int} {t : Tb K UInt8} (h : TabAt base w p most wait t) (hF : Fq base2 w w') : TabAt base w' p most wait t := by
  obtain ⟨mb, n, D, ov, dv, h⟩ := h
  refine ⟨mb, n, D, ov, dv, h.hp, h.hm, hF.kind _ _ _ _ (by decide) (by decide) h.tab, ?_, h.rep, h.size, ⟨h.row.1, ?_⟩, fun b hb => (h.bytes b hb).of_block fun g cs fz _ e => hF.kind _ _ _ _ (by decide) (by decide) e, h.apart⟩
  · obtain ⟨es, cl, h1, h2⟩ := h.map
    exact ⟨es, cl, hF.maps _ _ _ h1, h2⟩
  · rcases h.row.2 with hn | ⟨g, cap, cur, e, hg, hcur, r⟩
    · exact .inl hn
    · exact .inr ⟨g, cap, cur, e, hg, hF.kind _ _ _ _ (by decide) (by decide) hcur, r⟩
/-- Both tables, side by side: at tp and at rp, all their blocks from base on; what they are. -/
structure Two (base : Nat) (w : World) (tp rp : Nat) (most : Nat) (wait : Int) (L : List Rb) (now : Int) (d : Nat) : Prop where
  tab : TabAt base w tp most wait (tbl L now d)
  ref : RefAt base w rp most wait L now d
  good : Good most (tbl L now d)
theorem Two.below {base : Nat} {w w' : World} {tp rp most : Nat} {wait : Int} {L : List Rb} {now : Int} {d : Nat} (h : Two base w tp rp most wait L now d) (hb : Below w.heap.size w w') : Two base w' tp rp most wait L now d := ⟨h.tab.below hb, h.ref.below hb, h.good⟩
theorem rE_pass (L : List Rb) (now : Int) (d : Nat) (n : Int) : passE (tbl L now d) n = rE now n := rfl
/-- What Pass answers is the same; behind both calls the tables are side by side again. -/
theorem two_pass {base : Nat} {w : World} {tp rp most : Nat} {wait : Int} {L : List Rb} {now : Int} {d : Nat} (h : Two base w tp rp most wait L now d) (hmost : most ≤ 64) (hd : d ≤ 100000000) (hw0 : 0 ≤ wait) (hw1 : wait ≤ 1125899906842624) (n : Int) :
    ∃ (E : Int) (L' : List Rb) (now' : Int) (d' : Nat), d' ≤ d + 128 ∧ Good most (tbl L' now' d') ∧
      (∀ V, TabAt base V tp most wait (tbl L now d) → Calls Try.prog 12 #[.pointer (some ⟨tp, 0, none⟩), .int .i64 n] V fun e V' => e = .returned (.int .i64 E) ∧ TabAt base V' tp most wait (tbl L' now' d') ∧ Fr base V V') ∧
      (∀ V, RefAt base V rp most wait L now d → Calls Try.prog 13 #[.pointer (some ⟨rp, 0, none⟩), .int .i64 n] V fun e V' => e = .returned (.int .i64 E) ∧ RefAt base V' rp most wait L' now' d' ∧ Fq base V V') := by
  have hG := h.good
  have hlen : L.length ≤ most := by have := hG.room; simpa [tbl] using this
  have htm : ∀ b ∈ L, 0 ≤ b.at_ ∧ b.at_ ≤ now := fun b hb => hG.times b.bg (List.mem_map.2 ⟨b, hb, rfl⟩)
  by_cases hp : rE now n = 0
  · refine ⟨0, keepB L wait n, n, d + (L.length - (keepB L wait n).length), by omega, ?_, fun V hV => ?_, fun V hV => ?_⟩
    · have := passed_good hG (wait := wait) (show passE (tbl L now d) n = 0 from hp)
      rwa [tbl_passed] at this
    · have := pass_ok hV hG hmost (by show d ≤ _; omega) hw0 hw1 n hp
      rwa [tbl_passed] at this
    · exact refPass_ok hV (by omega) n hp hw0 hw1 hG.now0 htm (by omega)
  · refine ⟨rE now n, L, now, d, by omega, hG, fun V hV => ?_, fun V hV => ?_⟩
    · exact (pass_bad hV n hp).mono fun e V' x => ⟨x.1, by rw [x.2]; exact hV, by rw [x.2]; exact Fr.refl⟩
    · exact (refPass_bad hV n hp).mono fun e V' x => ⟨x.1, by rw [x.2]; exact hV, by rw [x.2]; exact Fq.refl⟩
/-- What Put answers is the same. -/
theorem two_put {base : Nat} {w : World} {tp rp most : Nat} {wait : Int} {L : List Rb} {now : Int} {d : Nat} (h : Two base w tp rp most wait L now d) (hmost : most ≤ 64) (hd : d ≤ 100000000) (hw0 : 0 ≤ wait) (hw1 : wait ≤ 1125899906842624) (n : Int) (p : Pk) (hw : p.Wf) (hs : p.s.size ≤ 1000000000) :
    ∃ (o : Option (List UInt8)) (E : Int) (T' : Tb K UInt8), T'.dr ≤ d + 128 ∧ Good most T' ∧
      (∀ V, TabAt base V tp most wait (tbl L now d) → Calls Try.prog 14 #[.pointer (some ⟨tp, 0, none⟩), .int .i64 n, p.val] V fun e V' => e = .returned (ans p o E) ∧ TabAt base V' tp most wait T' ∧ Fr base V V') ∧
      (∀ V, RefAt base V rp most wait L now d → Calls Try.prog 15 #[.pointer (some ⟨rp, 0, none⟩), .int .i64 n, p.rv] V fun e V' => e = .returned (refans p o E) ∧ (∃ L' n' d', RefAt base V' rp most wait L' n' d' ∧ tbl L' n' d' = T') ∧ Fq base V V') := by
  have hG := h.good
  have hdr : (tbl L now d).dr ≤ 10000000000 := by show d ≤ _; omega
  refine ⟨(put most wait (tbl L now d) n (p.key hw) p.m p.off p.d).2.1, (put most wait (tbl L now d) n (p.key hw) p.m p.off p.d).2.2, (put most wait (tbl L now d) n (p.key hw) p.m p.off p.d).1, ?_, put_good hG _ _ _ _ _, fun V hV => put_any hV hG hmost hdr hw0 hw1 n p hw hs, fun V hV => refPut_any hV hG hmost (by omega) hw0 hw1 n p hw hs⟩
  have := put_dr hG n (p.key hw) p.m p.off p.d (wait := wait)
  have e : (tbl L now d).dr = d := rfl
  omega
end Go.Proofs.Ytgdjcoodjdckkaa
/- Beside both tables: what the law's call holds, and what its Keys are held against. -/
set_option maxRecDepth 100000
namespace Go.Proofs.Ytgdjcoodjdckkaa
open Go.RowKit Go.Proofs.PitotIp Go.Maps
open Go.Proofs.PitotReasm (Bg Tb Fine bad first next passed passE put keep)
open Go.Proofs.Ytgdjcoodjdckkaa.Bi (lies_lt lies_cell lies_frozen lies_alloc lies_set)

theorem RefAt.mono {base base2 : Nat} {w : World} {rp : Nat} {most wait : Int} {L : List Rb} {now : Int} {d : Nat} (h : RefAt base2 w rp most wait L now d) (hb : base ≤ base2) : RefAt base w rp most wait L now d := by
  obtain ⟨lv, h⟩ := h
  exact ⟨lv, Nat.le_trans hb h.hp, h.tab, own_mono h.row hb⟩
/-- The copy of a call. -/
abbrev Oq.obj (x : Oq) : Obj := (.cells #[.bool x.pass, .int .i64 x.now, .int .i64 x.p.id, .bool x.p.m, .int .i64 x.p.off, .int .i64 x.p.ttl, .int .i64 x.p.pr, .int .u8 x.p.a.a.toNat, .int .u8 x.p.a.b.toNat, .int .u8 x.p.a.c.toNat, .int .u8 x.p.a.d.toNat, .int .u8 x.p.b.a.toNat, .int .u8 x.p.b.b.toNat, .int .u8 x.p.b.c.toNat, .int .u8 x.p.b.d.toNat, .string x.p.s] 36)
theorem fr_op {base : Nat} {V V' : World} {g : Nat} {x : Oq} (h : V.heap[g]? = some x.obj) (hF : Fr base V V') : V'.heap[g]? = some x.obj := hF.kind _ _ _ _ (by decide) (by decide) (by decide) h
theorem fq_op {base : Nat} {V V' : World} {g : Nat} {x : Oq} (h : V.heap[g]? = some x.obj) (hF : Fq base V V') : V'.heap[g]? = some x.obj := hF.kind _ _ _ _ (by decide) (by decide) h
/-- Both tables, the call's copy, the packet that was answered. -/
structure Bl (base : Nat) (w V : World) (ob : Nat) (x : Oq) (gp : Nat) (Z : Pk) (tp rp most : Nat) (wait : Int) (T : Tb K UInt8) (L : List Rb) (now : Int) (d : Nat) : Prop where
  tab : TabAt base V tp most wait T
  ref : RefAt base V rp most wait L now d
  op : V.heap[ob]? = some x.obj
  pk : V.heap[gp]? = some Z.obj
  bel : Below w.heap.size w V
section
variable {base : Nat} {w V V' : World} {ob : Nat} {x : Oq} {gp : Nat} {Z : Pk} {tp rp most : Nat} {wait : Int} {T : Tb K UInt8} {L : List Rb} {now : Int} {d : Nat}
theorem Bl.below (h : Bl base w V ob x gp Z tp rp most wait T L now d) (hb : Below V.heap.size V V') : Bl base w V' ob x gp Z tp rp most wait T L now d :=
  ⟨h.tab.below hb, h.ref.below hb, lies_below h.op hb (lies_lt h.op), lies_below h.pk hb (lies_lt h.pk), h.bel.trans (hb.mono h.bel.size)⟩
theorem Bl.alloc (h : Bl base w V ob x gp Z tp rp most wait T L now d) (o : Obj) : Bl base w (V.alloc o) ob x gp Z tp rp most wait T L now d := h.below ((Below.refl _ V).alloc (Nat.le_refl _) o)
theorem Bl.drew (h : Bl base w V ob x gp Z tp rp most wait T L now d) : Bl base w V.drew ob x gp Z tp rp most wait T L now d := h.below ((Below.refl _ V).drew)
theorem Bl.fq (h : Bl base w V ob x gp Z tp rp most wait T L now d) (hF : Fq base V V') {L' : List Rb} {now' : Int} {d' : Nat} (hr : RefAt base V' rp most wait L' now' d') (hb : w.heap.size ≤ base) : Bl base w V' ob x gp Z tp rp most wait T L' now' d' :=
  ⟨h.tab.fq hF, hr, fq_op h.op hF, hF.kind _ _ _ _ (by decide) (by decide) h.pk, h.bel.trans (hF.below.mono hb)⟩
theorem Bl.ge (h : Bl base w V ob x gp Z tp rp most wait T L now d) : w.heap.size ≤ V.heap.size := h.bel.size
/-- The document's answer has been stored. -/
theorem Bl.store {Y : World} {gr : Nat} (h : Bl base w Y ob x gp Z tp rp most wait T L now d) (hz : Y.heap[gr]? = some rpz) (hg : w.heap.size ≤ gr) (y0 y1 y2 y3 y4 y5 y6 y7 : Value) :
    ((((((((Y.setCell ⟨gr, 0, none⟩ y0).setCell ⟨gr, 1, none⟩ y1).setCell ⟨gr, 2, none⟩ y2).setCell ⟨gr, 3, none⟩ y3).setCell ⟨gr, 4, none⟩ y4).setCell ⟨gr, 5, none⟩ y5).setCell ⟨gr, 6, none⟩ y6).setCell ⟨gr, 7, none⟩ y7).heap[gr]? = some (.cells #[y0, y1, y2, y3, y4, y5, y6, y7] 41) ∧ Bl base w ((((((((Y.setCell ⟨gr, 0, none⟩ y0).setCell ⟨gr, 1, none⟩ y1).setCell ⟨gr, 2, none⟩ y2).setCell ⟨gr, 3, none⟩ y3).setCell ⟨gr, 4, none⟩ y4).setCell ⟨gr, 5, none⟩ y5).setCell ⟨gr, 6, none⟩ y6).setCell ⟨gr, 7, none⟩ y7) ob x gp Z tp rp most wait T L now d := by
  have G : Y.grownBy ((((((((Y.setCell ⟨gr, 0, none⟩ y0).setCell ⟨gr, 1, none⟩ y1).setCell ⟨gr, 2, none⟩ y2).setCell ⟨gr, 3, none⟩ y3).setCell ⟨gr, 4, none⟩ y4).setCell ⟨gr, 5, none⟩ y5).setCell ⟨gr, 6, none⟩ y6).setCell ⟨gr, 7, none⟩ y7) (some gr) := grown_cells gr [y0, y1, y2, y3, y4, y5, y6, y7] 0 Y
  have ne1 : ob ≠ gr := fun e => by subst e; have := h.op; rw [hz] at this; injection this with this; injection this with _ e; exact absurd e (by decide)
  have ne2 : gp ≠ gr := fun e => by subst e; have := h.pk; rw [hz] at this; injection this with this; injection this with _ e; exact absurd e (by decide)
  refine ⟨(read_8 hz).2.2.2.2.2.2.2.2, ?_, ?_, (G.block ob (lies_lt h.op) (by simpa using ne1)).trans h.op, (G.block gp (lies_lt h.pk) (by simpa using ne2)).trans h.pk, below_8 h.bel hg _ _ _ _ _ _ _ _⟩
  · obtain ⟨mb, n, D, ov, dv, t⟩ := h.tab
    exact ⟨mb, n, D, ov, dv, t.away G hz (by decide) (by decide) (by decide)⟩
  · obtain ⟨lv, r⟩ := h.ref
    exact ⟨lv, r.away G hz (by decide) (by decide)⟩
end
theorem eqR (id : Int) (m : Bool) (off ttl pr : Int) (A B s : ByteArray) (w : World) : (Go.Op.equalIn 10000 41 (rp id m off ttl pr A B s) (rp id m off ttl pr A B s)).run Try.prog w = .ok true w := by
  go_simp
/-- What Put answers is the same, and what the law makes of it. -/
theorem two_put2 {base : Nat} {w : World} {tp rp most : Nat} {wait : Int} {L : List Rb} {now : Int} {d : Nat} (h : Two base w tp rp most wait L now d) (hmost : most ≤ 64) (hd : d ≤ 100000000) (hw0 : 0 ≤ wait) (hw1 : wait ≤ 1125899906842624) (n : Int) (p : Pk) (hw : p.Wf) (hs : p.s.size ≤ 1000000000) :
    ∃ (Z : Pk) (is : Bool) (E : Int) (id : Int) (m : Bool) (off ttl pr : Int) (A B s : ByteArray) (T' : Tb K UInt8), T'.dr ≤ d + 128 ∧ Good most T' ∧
      (∀ V, TabAt base V tp most wait (tbl L now d) → Calls Try.prog 14 #[.pointer (some ⟨tp, 0, none⟩), .int .i64 n, p.val] V fun e V' => e = .returned (.tuple #[Z.val, .bool is, .int .i64 E]) ∧ TabAt base V' tp most wait T' ∧ Fr base V V') ∧
      (∀ V, RefAt base V rp most wait L now d → Calls Try.prog 15 #[.pointer (some ⟨rp, 0, none⟩), .int .i64 n, p.rv] V fun e V' => e = .returned (.tuple #[Go.Proofs.Ytgdjcoodjdckkaa.rp id m off ttl pr A B s, .bool is, .int .i64 E]) ∧ (∃ L' n' d', RefAt base V' rp most wait L' n' d' ∧ tbl L' n' d' = T') ∧ Fq base V V') ∧
      (∀ V, Calls Try.prog 16 #[Z.val, .bool (!is)] V fun e V' => e = .returned (Go.Proofs.Ytgdjcoodjdckkaa.rp id m off ttl pr A B s) ∧ Below V.heap.size V V') := by
  obtain ⟨o, E, T', h1, h2, h3, h4⟩ := two_put h hmost hd hw0 hw1 n p hw hs
  cases o with
  | none => exact ⟨pkN, false, E, 0, false, 0, 0, 0, ⟨#[]⟩, ⟨#[]⟩, ⟨#[]⟩, T', h1, h2, h3, h4, fun V => plain_true 0 false 0 0 0 q0 q0 ⟨#[]⟩ V rfl rfl⟩
  | some x => exact ⟨whole p x, true, E, (whole p x).id, (whole p x).m, (whole p x).off, (whole p x).ttl, (whole p x).pr, ipB (whole p x).a, ipB (whole p x).b, (whole p x).s, T', h1, h2, h3, h4, fun V => plain_false _ _ _ _ _ _ _ _ V⟩
/-- Both tables and the Keys that were answered. -/
structure In (base : Nat) (V : World) (tp rp most : Nat) (wait : Int) (L : List Rb) (now : Int) (d : Nat) (A : Option Addr) (lv : Value) : Prop where
  tab : TabAt base V tp most wait (tbl L now d)
  ref : Ref base V rp most wait L now d lv
  ks : KsAt V A (L.map (·.k))
section
variable {base : Nat} {V V' : World} {tp rp most : Nat} {wait : Int} {L : List Rb} {now : Int} {d : Nat} {A : Option Addr} {lv : Value}
theorem KAt.below {b o B : Nat} {k : K} (h : KAt V b o k) (hb : Below B V V') (hlt : b < B) : KAt V' b o k := by
  have hc : ∀ i, V'.cell? ⟨b, i, none⟩ = V.cell? ⟨b, i, none⟩ := fun i => hb.cell (p := ⟨b, i, none⟩) hlt
  obtain ⟨h0, h1, h2, h3, h4, h5, h6, h7, h8, h9⟩ := h
  exact ⟨(hc _).trans h0, (hc _).trans h1, (hc _).trans h2, (hc _).trans h3, (hc _).trans h4, (hc _).trans h5, (hc _).trans h6, (hc _).trans h7, (hc _).trans h8, (hc _).trans h9⟩
theorem KsAt.below {l : List K} (h : KsAt V A l) (hb : Below V.heap.size V V') : KsAt V' A l := fun hne => by
  obtain ⟨b, e, hlt, hk⟩ := h hne
  exact ⟨b, e, Nat.lt_of_lt_of_le hlt hb.size, fun i hi => (hk i hi).below hb hlt⟩
theorem In.below (h : In base V tp rp most wait L now d A lv) (hb : Below V.heap.size V V') : In base V' tp rp most wait L now d A lv := ⟨h.tab.below hb, h.ref.below hb, h.ks.below hb⟩
theorem In.key (h : In base V tp rp most wait L now d A lv) (k : Nat) (hk : k < L.length) : ∃ b, A = some ⟨b, 0, none⟩ ∧ b < V.heap.size ∧ KAt V b (k * 10) L[k].k := by
  obtain ⟨b, e, hlt, h2⟩ := h.ks (fun e => by have := congrArg List.length e; simp at this; rw [this] at hk; simp at hk)
  have := h2 k (by simpa using hk)
  rw [List.getElem_map] at this
  exact ⟨b, e, hlt, this⟩
theorem In.rb (h : In base V tp rp most wait L now d A lv) (k : Nat) (hk : k < L.length) : ∃ o cap, lv = .slice (some ⟨o, 0, none⟩) L.length cap ∧ o < V.heap.size ∧ BAt V o (k * 10) L[k] := by
  obtain ⟨o, cap, e, _, _, hR⟩ := RowB.of_own h.ref.row (by omega)
  exact ⟨o, cap, e, hR.lt, hR.at k hk⟩
end
def keyPk (k : K) : Pk := ⟨k.id, false, 0, 0, k.pr, k.a, k.b, ⟨#[]⟩⟩
theorem key_same (b : Rb) (V : World) : Calls Try.prog 19 #[(keyPk b.k).rv, b.p.rv] V fun e V' => e = .returned (.bool true) ∧ Below V.heap.size V V' := by
  have := same_any (keyPk b.k) b.p ⟨b.k.hp, b.k.hi⟩ b.hw V
  rw [decide_eq_true (show (keyPk b.k).key ⟨b.k.hp, b.k.hi⟩ = b.p.key b.hw from rfl)] at this
  exact this
theorem zero34 (w : World) : (zeroValue 34).run Try.prog w = .ok (.agg #[.int .i64 0, .bool false, .int .i64 0, .int .i64 0, .int .i64 0, .int .u8 0, .int .u8 0, .int .u8 0, .int .u8 0, .int .u8 0, .int .u8 0, .int .u8 0, .int .u8 0, .string ⟨#[]⟩]) w := by kernel_rfl
end Go.Proofs.Ytgdjcoodjdckkaa
