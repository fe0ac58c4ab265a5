/- The program's Encode. -/
import Derived.Test.YtdgkanamceeheaaGreatM46
import Derived.Test.YtdgkanamceeheaaGreatM29
import Derived.Test.YtdgkanamceeheaaGreatM47
import Derived.Test.YtdgkanamceeheaaGreatM42
import Derived.Test.YtdgkanamceeheaaGreatM39
import Derived.Test.YtdgkanamceeheaaGreatM43
import Derived.Laws.IdiomStrings
set_option linter.unusedVariables false
set_option maxRecDepth 100000
set_option linter.unusedVariables false
namespace Go.Proofs.YtdgkanamceeheaaGreat.Im
open Go.RowKit

/-- What Encode answers. -/
def encRes (c : Cx) : Value := match PitotImg.encode c.pl with
  | .error k => .tuple #[.string ⟨#[]⟩, .int .i64 k]
  | .ok l => .tuple #[.string ⟨l.toArray⟩, .int .i64 0]
/-- A network whose image is no great one. -/
structure Im (c : Cx) : Prop where
  sm : Sm c
  size : (PitotConf.check c.pl).2.2 = 0 → (PitotImg.magic ++ PitotImg.cfW c.pl).length ≤ 90000
theorem any_pl (l : List Px) : (l.map Px.pl).any (fun p => decide (4294967295 < p.id)) = l.any (fun x => decide (4294967295 < x.id)) := by rw [List.any_map]; rfl
theorem encRes_check {c : Cx} (h : (PitotConf.check c.pl).2.2 ≠ 0) : encRes c = .tuple #[.string ⟨#[]⟩, .int .i64 (PitotConf.check c.pl).2.2] := by
  unfold encRes PitotImg.encode; rw [if_pos h]
theorem encRes_long {c : Cx} (h : (PitotConf.check c.pl).2.2 = 0) (h2 : c.ports.any (fun x => decide (4294967295 < x.id)) = true) : encRes c = .tuple #[.string ⟨#[]⟩, .int .i64 11] := by
  unfold encRes PitotImg.encode; rw [if_neg (by omega), show c.pl.ports = c.ports.map Px.pl from rfl, any_pl, if_pos h2]
theorem encRes_ok {c : Cx} (h : (PitotConf.check c.pl).2.2 = 0) (h2 : c.ports.any (fun x => decide (4294967295 < x.id)) = false) : encRes c = .tuple #[.string ⟨(PitotCrc.sealed (PitotImg.magic ++ PitotImg.cfW c.pl)).toArray⟩, .int .i64 0] := by
  unfold encRes PitotImg.encode; rw [if_neg (by omega), show c.pl.ports = c.ports.map Px.pl from rfl, any_pl, if_neg (by rw [h2]; decide)]
theorem im_ok {c : Cx} (hi : Im c) (h : (PitotConf.check c.pl).2.2 = 0) (h2 : c.ports.any (fun x => decide (4294967295 < x.id)) = false) : PitotImg.cfOk c.pl := by
  refine PitotImg.may_ok (PitotConf.check_may h) (fun v hv => ?_) (fun p hp => ?_)
  · obtain ⟨x, hx, rfl⟩ := List.mem_map.1 hv
    have := hi.sm.tol x hx
    show x.to.length < 65536
    omega
  · obtain ⟨x, hx, rfl⟩ := List.mem_map.1 hp
    have := List.any_eq_false.1 h2 x hx
    have : ¬ 4294967295 < x.id := by simpa using this
    show x.id ≤ 4294967295
    omega
theorem seal_text (l : List UInt8) : Cr.sealB ⟨l.toArray⟩ = ⟨(PitotCrc.sealed l).toArray⟩ := by
  apply ByteArray.ext
  apply Array.toList_inj.1
  have := Cr.sealB_list ⟨l.toArray⟩
  simpa using this
theorem wl_new {w : World} {b : Nat} (h : w.heap[b]? = some (.cells #[.pointer none, .string ⟨#[]⟩, .bool false] 71)) : WL w b [] := ⟨none, ⟨#[]⟩, [], h, rfl, Nat.le_refl _, rfl⟩
set_option maxHeartbeats 8000000 in
theorem Encode_any (c : Cx) (hi : Im c) (w : World) (hc : c.Held w) : Calls Tryz.prog 12 #[c.val] w fun e w' => e = .returned (encRes c) ∧ Below w.heap.size w w' := by
  have HCK := Lib.hid (fun (w' : World) (hb : Below w.heap.size w w') => Check_any c hi.sm w' (hc.below hb))
  have HAP := Lib.hid (fun (w' : World) (hb : Below w.heap.size w w') => long_any c.portsA c.ports.length c.portsc c.ports w' (PxsAt.below hc.2.2.2 hb) rfl (by have := hi.sm.ports; omega))
  have HWR := Lib.hid (fun (hf : PitotImg.cfOk c.pl) (h0 : (PitotConf.check c.pl).2.2 = 0) (b : Nat) (w' : World) (hb : Below w.heap.size w w') (hbb : w.heap.size ≤ b) (hW : WL w' b []) => write_any c b w w' hc hb hbb hW hf (by have := hi.size h0; omega))
  have HBY := Lib.hid (fun (h0 : (PitotConf.check c.pl).2.2 = 0) (b : Nat) (w : World) (hW : WL w b (PitotImg.magic ++ PitotImg.cfW c.pl)) => Bi.bytes_any b _ _ w hW (by have := hi.size h0; omega) (by have := hi.size h0; omega))
  have HSE : Hid ((PitotConf.check c.pl).2.2 = 0 → ∀ w, Calls Tryz.prog 27 #[.string ⟨(PitotImg.magic ++ PitotImg.cfW c.pl).toArray⟩] w fun e w' => e = .returned (.string ⟨(PitotCrc.sealed (PitotImg.magic ++ PitotImg.cfW c.pl)).toArray⟩) ∧ Below w.heap.size w w') := fun h0 w => by
    have h := Cr.seal_any ⟨(PitotImg.magic ++ PitotImg.cfW c.pl).toArray⟩ w (by have := hi.size h0; show (PitotImg.magic ++ PitotImg.cfW c.pl).toArray.size ≤ _; rw [List.size_toArray]; omega)
    rw [seal_text] at h
    exact h
  have H1 := Lib.hid (encRes_check (c := c))
  have H2 := Lib.hid (encRes_long (c := c))
  have H3 := Lib.hid (encRes_ok (c := c))
  have H4 := Lib.hid (im_ok hi)
  clear hi hc
  generalize encRes c = R at H1 H2 H3 ⊢
  generalize PitotCrc.sealed (PitotImg.magic ++ PitotImg.cfW c.pl) = SL at HSE H3
  generalize PitotImg.magic ++ PitotImg.cfW c.pl = L at HWR HBY HSE
  generalize PitotConf.check c.pl = CK at HCK HWR HBY HSE H1 H2 H3 H4
  obtain ⟨r1, r2, r3⟩ := CK
  generalize PitotImg.cfOk c.pl = OKP at HWR H4
  obtain ⟨hosts, pA, pc, parts, major, wA, wk, wins, vA, vc, vls, qA, qc, ports⟩ := c
  simp only [Cx.val] at HCK HAP HWR HBY HSE H1 H2 H3 H4 ⊢
  generalize ports.any (fun x => decide (4294967295 < x.id)) = an at HAP H2 H3 H4
  generalize wins.length = wl, parts.length = pl, vls.length = vl, ports.length = ql at HCK HAP HWR ⊢
  have CB0 : Hid ((w.alloc (.cells #[.int .i64 hosts, .slice pA pl pc, .int .i64 major, .slice wA wl wk, .slice vA vl vc, .slice qA ql qc] 28)).heap[w.heap.size]? = some (.cells #[.int .i64 hosts, .slice pA pl pc, .int .i64 major, .slice wA wl wk, .slice vA vl vc, .slice qA ql qc] 28)) := heap_alloc_new w _
  have BB0 : Hid (Below w.heap.size w (w.alloc (.cells #[.int .i64 hosts, .slice pA pl pc, .int .i64 major, .slice wA wl wk, .slice vA vl vc, .slice qA ql qc] 28))) := (Below.refl _ w).alloc (Nat.le_refl _) _
  go_enter Tryz.func12, Tryz.ntmps12
  go_upto_region 1 with (fail)
  have CB := CB0
  have BB := BB0
  clear CB0 BB0
  generalize w.alloc (.cells #[.int .i64 hosts, .slice pA pl pc, .int .i64 major, .slice wA wl wk, .slice vA vl vc, .slice qA ql qc] 28) = Wi at CB BB ⊢
  obtain ⟨cb, hcb⟩ : ∃ cb, w.heap.size = cb := ⟨_, rfl⟩
  have HCB : Hid (w.heap.size ≤ cb) := by show _ ≤ _; omega
  rw [hcb] at CB ⊢
  clear hcb
  obtain ⟨c0, c1, c2, c3, c4, c5⟩ := cells_6 CB.out
  go_upto_region 2 with (first
        | (go_at_call 13; (with_reducible refine (HCK.out _ BB.out).mono ?_); rintro e w2 ⟨rfl, hb2⟩
           (have CBX := Lib.hid (lies_below CB.out hb2 (lies_lt CB.out)))
           (have BX := Lib.hid (BB.out.trans (hb2.mono BB.out.size)))
           (clear hb2 BB CB c0 c1 c2 c3 c4 c5)
           (have CB := CBX)
           (have BB := BX)
           (clear BX CBX)
           (obtain ⟨c0, c1, c2, c3, c4, c5⟩ := cells_6 CB.out)))
  have CBX := Lib.hid (lies_alloc (o := .cells #[.int .i64 r1, .int .i64 r2] 38) CB.out)
  have BX : Hid (Below w.heap.size w (w2.alloc (.cells #[.int .i64 r1, .int .i64 r2] 38))) := BB.out.alloc BB.out.size _
  clear BB CB c0 c1 c2 c3 c4 c5
  have CB := CBX
  have BB := BX
  clear CBX BX
  generalize w2.alloc (.cells #[.int .i64 r1, .int .i64 r2] 38) = W3 at CB BB ⊢
  obtain ⟨c0, c1, c2, c3, c4, c5⟩ := cells_6 CB.out
  by_cases h0 : r3 = 0
  · subst h0
    cases an
    · have HR := H3.out rfl rfl
      have HOK := H4.out rfl rfl
      have HWS := Lib.hid (HWR.out HOK rfl)
      have HBS := Lib.hid (HBY.out rfl)
      have HSS := Lib.hid (HSE.out rfl)
      have HR := Lib.hid HR
      go_upto_region 6 with (first
        | (go_at_call 23; (with_reducible refine (HAP.out _ BB.out).mono ?_); rintro e w3 ⟨rfl, hb2⟩
           (have CBX := Lib.hid (lies_below CB.out hb2 (lies_lt CB.out)))
           (have BX := Lib.hid (BB.out.trans (hb2.mono BB.out.size)))
           (clear hb2 BB CB c0 c1 c2 c3 c4 c5)
           (have CB := CBX)
           (have BB := BX)
           (clear BX CBX)
           (obtain ⟨c0, c1, c2, c3, c4, c5⟩ := cells_6 CB.out)))
      have HN : Hid (WL (w3.alloc (.cells #[.pointer none, .string ⟨#[]⟩, .bool false] 71)) w3.heap.size []) := wl_new (alloc_at rfl)
      have HBn : Hid (w.heap.size ≤ w3.heap.size) := BB.out.size
      have HCn : Hid (cb < w3.heap.size) := lies_lt CB.out
      have CBX := Lib.hid (lies_alloc (o := .cells #[.pointer none, .string ⟨#[]⟩, .bool false] 71) CB.out)
      have BX : Hid (Below w.heap.size w (w3.alloc (.cells #[.pointer none, .string ⟨#[]⟩, .bool false] 71))) := BB.out.alloc BB.out.size _
      clear BB CB c0 c1 c2 c3 c4 c5
      have CB := CBX
      have BB := BX
      clear CBX BX
      go_upto_region 7 with (fail)
      generalize w3.alloc (.cells #[.pointer none, .string ⟨#[]⟩, .bool false] 71) = W4 at CB BB HN ⊢
      generalize w3.heap.size = wb at HN HBn HCn ⊢
      obtain ⟨c0, c1, c2, c3, c4, c5⟩ := cells_6 CB.out
      go_wp2_with (first
        | (go_at_call 25; (with_reducible refine (HWS.out wb _ BB.out HBn.out HN.out).mono ?_); rintro e w5 ⟨rfl, hw5, hg5⟩
           (have HW5 := Lib.hid hw5)
           (have BX := Lib.hid (BB.out.trans (grown_below hg5 HBn.out BB.out.size)))
           (clear hw5 hg5 BB)
           (have BB := BX)
           (clear BX))
        | (go_at_call 26; (with_reducible refine (HBS.out wb _ HW5.out).mono ?_); rintro e w6 ⟨rfl, hb6⟩
           (have BX := Lib.hid (BB.out.trans (hb6.mono BB.out.size)))
           (clear hb6 BB)
           (have BB := BX)
           (clear BX))
        | (go_at_call 27; (with_reducible refine (HSS.out _).mono ?_); rintro e w7 ⟨rfl, hb7⟩
           (have BX := Lib.hid (BB.out.trans (hb7.mono BB.out.size)))
           (clear hb7 BB)
           (have BB := BX)
           (clear BX)))
      go_returns
      rw [HR.out]
      exact ⟨rfl, BB.out⟩
    · have HR := Lib.hid (H2.out rfl rfl)
      go_wp2_with (first
        | (go_at_call 23; (with_reducible refine (HAP.out _ BB.out).mono ?_); rintro e w3 ⟨rfl, hb2⟩
           (have CBX := Lib.hid (lies_below CB.out hb2 (lies_lt CB.out)))
           (have BX := Lib.hid (BB.out.trans (hb2.mono BB.out.size)))
           (clear hb2 BB CB c0 c1 c2 c3 c4 c5)
           (have CB := CBX)
           (have BB := BX)
           (clear BX CBX)
           (obtain ⟨c0, c1, c2, c3, c4, c5⟩ := cells_6 CB.out)))
      go_returns
      rw [HR.out]
      exact ⟨rfl, BB.out⟩
  · have HR := Lib.hid (H1.out h0)
    have e1 : (r3 == 0) = false := by simpa using h0
    have e2 : (r3 != 0) = true := by simpa using h0
    go_wp2
    go_returns
    rw [HR.out]
    exact ⟨rfl, BB.out⟩
end Go.Proofs.YtdgkanamceeheaaGreat.Im
/- The least network; networks of a few parts. -/
set_option maxRecDepth 100000
set_option linter.unusedVariables false
namespace Go.Proofs.YtdgkanamceeheaaGreat.Im
open Go.RowKit

abbrev c1 : Cx := ⟨1, none, 0, [], 1, none, 0, [], none, 0, [], none, 0, []⟩
theorem sm_c1 : Sm c1 := ⟨⟨by decide, by simp, fun n h => by simp at h, by decide, by simp, fun n h => by simp at h, by simp, fun n h => by simp at h, by simp, fun n h => by simp at h⟩, by simp, by simp, by simp, by simp, fun v h => by simp at h⟩
theorem im_c1 : Im c1 := ⟨sm_c1, fun _ => by decide⟩
theorem held_c1 (w : World) : c1.Held w := ⟨fun h => absurd rfl h, fun h => absurd rfl h, fun h => absurd rfl h, fun h => absurd rfl h⟩
theorem enc_c1 : ∃ l : List UInt8, encRes c1 = .tuple #[.string ⟨l.toArray⟩, .int .i64 0] ∧ l.length = 24 := by
  refine ⟨_, encRes_ok (c := c1) (by decide) (by decide), ?_⟩
  rw [PitotCrc.sealed_length]
  decide
set_option maxHeartbeats 2000000 in
theorem awake_any (w : World) : Calls Tryz.prog 7 #[] w fun e w' => e = .returned (.bool true) ∧ Below w.heap.size w w' := by
  obtain ⟨l, hl, hn⟩ := enc_c1
  have HC : Hid (∀ w, Calls Tryz.prog 12 #[.agg #[.int .i64 1, .slice none 0 0, .int .i64 1, .slice none 0 0, .slice none 0 0, .slice none 0 0]] w fun e w' => e = .returned (.tuple #[.string ⟨l.toArray⟩, .int .i64 0]) ∧ Below w.heap.size w w') := fun w => by
    have h := Encode_any c1 im_c1 w (held_c1 w)
    rw [hl] at h
    exact h
  clear hl
  obtain ⟨S, HS⟩ : ∃ S : ByteArray, Hid (S = ⟨l.toArray⟩) := ⟨_, Lib.hid rfl⟩
  rw [← HS.out] at HC
  have hz : S.size = 24 := by rw [HS.out]; show l.toArray.size = 24; simpa using hn
  clear HS hn
  have hzi : ((S.size : Nat) : Int) = 24 := by omega
  go_enter Tryz.func7, Tryz.ntmps7
  go_wp2_with (go_at_call 12; (with_reducible refine (HC.out _).mono ?_); rintro e w2 ⟨rfl, hb2⟩)
  go_returns
  exact ⟨rfl, hb2⟩
theorem cfW_len (c : Cx) : (PitotImg.magic ++ PitotImg.cfW c.pl).length = 20 + 2 * c.parts.length + (c.wins.flatMap (fun x : Wn => PitotImg.winW x.pl)).length + (c.vls.flatMap (fun x : Vx => PitotImg.vlW x.pl)).length + (c.ports.flatMap (fun x : Px => PitotImg.prtW x.pl)).length := by
  have hm : PitotImg.magic.length = 6 := rfl
  have hp := manyW_len2 c.parts
  unfold PitotImg.manyW at hp
  simp only [List.length_append, PitotImg.w_length] at hp
  simp only [PitotImg.cfW, Cx.pl, PitotImg.manyW, List.flatMap_map, List.length_append, PitotImg.w_length, hm]
  omega
theorem flat_len {α : Type} (E : α → List UInt8) (c : Nat) : ∀ (xs : List α), (∀ x ∈ xs, (E x).length ≤ c) → (xs.flatMap E).length ≤ c * xs.length
  | [], _ => by simp
  | y :: ys, h => by
    rw [List.flatMap_cons, List.length_append, List.length_cons, Nat.mul_add]
    have := h y (List.mem_cons_self ..)
    have := flat_len E c ys (fun x hx => h x (List.mem_cons_of_mem _ hx))
    omega
theorem few_im {c : Cx} (co : c.Ok) (h : few c = true) : Im c := by
  refine ⟨few_sm co h, fun _ => ?_⟩
  obtain ⟨h1, h2, h3, h4, h5⟩ := (few_iff c).1 h
  rw [cfW_len]
  have a := flat_len (fun x : Wn => PitotImg.winW x.pl) 10 c.wins (fun x _ => by rw [winW_len]; omega)
  have b := flat_len (fun x : Vx => PitotImg.vlW x.pl) 153 c.vls (fun x hx => by
    obtain ⟨i, hi, rfl⟩ := List.mem_iff_getElem.1 hx
    have := h5 i hi
    rw [vlW_len]; show 13 + 2 * c.vls[i].to.length ≤ _; omega)
  have d := flat_len (fun x : Px => PitotImg.prtW x.pl) 25 c.ports (fun x _ => by rw [prtW_len]; omega)
  omega
end Go.Proofs.YtdgkanamceeheaaGreat.Im
/- Texts as bytes and back; what Load answers to images. -/
set_option maxRecDepth 100000
set_option linter.unusedVariables false
namespace Go.Proofs.YtdgkanamceeheaaGreat.Im
open Go.RowKit
open PitotImg (St rd)
theorem bytes_of (B : ByteArray) (n : Nat) (hn : B.size = n) (hm : n ≤ 100000) (w : World) : ∃ C V, (convert 9 41 (.string B)).run Tryz.prog w = .ok (.slice (some ⟨w.heap.size, 0, none⟩) n C) V ∧
    (∀ j (h : j < B.data.toList.length), V.cell? ⟨w.heap.size, j, none⟩ = some (.int .u8 (B.data.toList[j]).toNat)) ∧ (∀ j, j < n → V.frozen? ⟨w.heap.size, j, none⟩ = false) ∧ Below w.heap.size w V ∧ V.heap.size = w.heap.size + 1 ∧ n ≤ C ∧ C ≤ maxLen := by
  have h := run_bytes_of_string (P := Tryz.prog) w 9 41 5 B Tryz.underlying9 Tryz.underlying41 Tryz.underlying5
  rw [hn] at h
  have hc1 := grownCap_ge w n 0 5
  have hc2 := grownCap_le_maxLen w n 0 5 (by unfold maxLen; omega)
  generalize grownCap w n 0 5 = c at h hc1 hc2
  have hsz : B.data.toList.length ≤ (bytesRow B c).size := by simp [bytesRow]
  have hcell : ∀ j (h : j < B.data.toList.length), (bytesRow B c)[j]? = some (.int .u8 (B.data.toList[j]).toNat) := by
    intro j hj
    have hj' : j < B.data.size := by simpa using hj
    unfold bytesRow
    rw [Array.getElem?_append_left (by simpa using hj'), Array.getElem?_map, Array.getElem?_eq_getElem hj']
    rfl
  have hl : B.data.toList.length = n := by simpa using hn
  generalize bytesRow B c = R at h hsz hcell
  refine ⟨c, _, h, fun j hj => ?_, fun j hj => ?_, ?_, by simp, hc1, hc2⟩
  · have := World.cell?_alloc_mark w.drew R 5 (R.size, R.size + 1) j
    exact this.trans (hcell j hj)
  · have hh : (w.drew.alloc (.cells R 5 (R.size, R.size + 1))).heap[w.heap.size]? = some (.cells R 5 (R.size, R.size + 1)) := heap_alloc_new w.drew _
    simp only [World.frozen?, hh]
    simp
    omega
  · exact (Below.refl _ _).drew.alloc (Nat.le_refl _) _
theorem bytes_back (V : World) (g k C n : Nat) (l : List UInt8) (hn : l.length = n) (v : UInt8) (x : Int) (hx : x = v.toNat) (hk : k < n)
    (hcell : ∀ j (h : j < l.length), V.cell? ⟨g, j, none⟩ = some (.int .u8 (l[j]).toNat)) :
    (convert 41 9 (.slice (some ⟨g, 0, none⟩) n C)).run Tryz.prog (V.setCell ⟨g, k, none⟩ (.int .u8 x)) = .ok (.string ⟨(l.set k v).toArray⟩) (V.setCell ⟨g, k, none⟩ (.int .u8 x)) := by
  subst hx
  have h := run_convert_bytes_back (P := Tryz.prog) (V.setCell ⟨g, k, none⟩ (.int .u8 v.toNat)) 41 9 5 ⟨g, 0, none⟩ C (l.set k v) Tryz.underlying41 Tryz.underlying5 Tryz.underlying9 (fun j hj => by
    have hj' : j < l.length := by simpa using hj
    have e : (⟨g, 0, none⟩ : Addr).add j = ⟨g, j, none⟩ := by unfold Addr.add; split <;> simp_all
    rw [e, List.getElem_set]
    by_cases hkj : k = j
    · subst hkj
      rw [if_pos rfl]
      exact World.cell?_setCell_same _ _ _ (hcell k hj')
    · rw [if_neg hkj, World.cell?_setCell_other _ _ _ _ (by intro e; injection e with _ e2; exact hkj e2)]
      exact hcell j hj')
  rw [List.length_set, hn] at h
  exact h
theorem enc_ok {c : PitotConf.Cf} {l : List UInt8} (h : PitotImg.encode c = .ok l) : (PitotConf.check c).2.2 = 0 ∧ l = PitotCrc.sealed (PitotImg.magic ++ PitotImg.cfW c) := by
  unfold PitotImg.encode at h
  by_cases h1 : (PitotConf.check c).2.2 ≠ 0
  · rw [if_pos h1] at h; cases h
  rw [if_neg h1] at h
  by_cases h2 : c.ports.any (fun p => decide (4294967295 < p.id)) = true
  · rw [if_pos h2] at h; cases h
  rw [if_neg h2] at h
  injection h with h
  exact ⟨by omega, h.symm⟩
theorem enc_err {c : PitotConf.Cf} {k : Int} (h : PitotImg.encode c = .error k) : k ≠ 0 := by
  unfold PitotImg.encode at h
  by_cases h1 : (PitotConf.check c).2.2 ≠ 0
  · rw [if_pos h1] at h; injection h with h; rw [← h]; exact h1
  rw [if_neg h1] at h
  by_cases h2 : c.ports.any (fun p => decide (4294967295 < p.id)) = true
  · rw [if_pos h2] at h; injection h with h; rw [← h]; decide
  rw [if_neg h2] at h; cases h
theorem enc_len {c : Cx} (hi : Im c) {l : List UInt8} (h : PitotImg.encode c.pl = .ok l) : l.length ≤ 90004 := by
  obtain ⟨h1, h2⟩ := enc_ok h
  have := hi.size h1
  rw [h2, PitotCrc.sealed_length]
  omega
theorem load_told (c : Cx) (hi : Im c) (l : List UInt8) (he : PitotImg.encode c.pl = .ok l) (k : Nat) (hk : k < l.length) (v : UInt8) (hv : v ≠ l[k]) (w : World) :
    Calls Tryz.prog 8 #[.string ⟨(l.set k v).toArray⟩] w fun e w' => e = .returned (.tuple #[zc, .int .i64 12]) ∧ Below w.heap.size w w' := by
  have hz := enc_len hi he
  have hop : PitotCrc.opened (l.set k v) = false := by
    obtain ⟨_, h2⟩ := enc_ok he
    subst h2
    exact PitotCrc.opened_turn _ k hk v hv
  have h := Load_any (l.set k v) (by rw [List.length_set]; omega) (fun ho => by rw [hop] at ho; cases ho) w
  rw [PitotImg.told he k hk v hv] at h
  exact h
theorem load_cf {s : List UInt8} {c c2 : PitotConf.Cf} (h : PitotImg.load s = .ok c) (h2 : PitotImg.cfR ((s.take (s.length - 4)).drop 6) = .ok (c2, [])) : c2 = c := by
  unfold PitotImg.load at h
  by_cases h1 : s.length < 4
  · rw [if_pos h1] at h; cases h
  rw [if_neg h1] at h
  by_cases h3 : PitotCrc.opened s = false
  · rw [if_pos h3] at h; cases h
  rw [if_neg h3] at h
  simp only at h
  by_cases h4 : (s.take (s.length - 4)).length < 6
  · rw [if_pos h4] at h; cases h
  rw [if_neg h4] at h
  by_cases h5 : (s.take (s.length - 4)).take 6 ≠ PitotImg.magic
  · rw [if_pos h5] at h; cases h
  rw [if_neg h5, h2] at h
  simp only at h
  rw [if_neg (by simp)] at h
  by_cases h6 : (PitotConf.check c2).2.2 ≠ 0
  · rw [if_pos h6] at h; cases h
  rw [if_neg h6] at h
  injection h with h
theorem wide_of {c : Cx} (h : Sm c) : Wide c.pl := by
  refine ⟨h.parts, ?_, ?_, ?_, fun v hv => ?_⟩
  · have := h.wins; simpa [Cx.pl] using this
  · have := h.vls; simpa [Cx.pl] using this
  · have := h.ports; simpa [Cx.pl] using this
  · obtain ⟨x, hx, rfl⟩ := List.mem_map.1 hv
    exact h.tol x hx
theorem load_back (c : Cx) (hi : Im c) (l : List UInt8) (he : PitotImg.encode c.pl = .ok l) (w : World) :
    Calls Tryz.prog 8 #[.string ⟨l.toArray⟩] w fun e w' => (∃ d : Cx, d.pl = c.pl ∧ d.Held w' ∧ e = .returned (.tuple #[d.val, .int .i64 0])) ∧ Below w.heap.size w w' := by
  have hz := enc_len hi he
  have hb := (PitotImg.back (fun v hv => by
    obtain ⟨x, hx, rfl⟩ := List.mem_map.1 hv
    have := hi.sm.tol x hx
    show x.to.length < 65536
    omega) he).1
  have h := Load_any l (by omega) (fun _ c2 h2 => by rw [load_cf hb h2]; exact wide_of hi.sm) w
  rw [hb] at h
  exact h
/-- An image, or why none, as it is answered. -/
def encV : Except Int (List UInt8) → Value
  | .error k => .tuple #[.string ⟨#[]⟩, .int .i64 k]
  | .ok l => .tuple #[.string ⟨l.toArray⟩, .int .i64 0]
/-- Of any few bytes. -/
theorem load_few (s : List UInt8) (hs : s.length ≤ 5000) (w : World) : Calls Tryz.prog 8 #[.string ⟨s.toArray⟩] w fun e w' => Ans (PitotImg.load s) e w' ∧ Below w.heap.size w w' :=
  Load_any s (by omega) (fun _ c h => by
    obtain ⟨_, b1, b2, b3, b4, b5⟩ := PitotImg.cf_read h (by rw [List.length_drop, List.length_take]; omega)
    exact ⟨by omega, by omega, by omega, by omega, fun v hv => by have := b5 v hv; omega⟩) w
end Go.Proofs.YtdgkanamceeheaaGreat.Im
