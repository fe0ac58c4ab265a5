/- Merged: Cp, Cs, Pb. -/
import Derived.Test.YthicfgcnhefinaaM4
import Derived.Deep.AppendLies
import Derived.Deep.AppendSrc
import Derived.Test.YthicfgcnhefinaaM3
set_option linter.unusedVariables false
/- The document's put: a number is put into a row that rises (trial). -/
set_option maxRecDepth 100000
namespace Go.Proofs.Ythicfgcnhefinaa
open Go.RowKit Go.Deep

def enI (l : List Int) : List Value := l.map (Value.int .i64)
theorem info3 : (Try.prog.info? 3).map (fun i => (i.zero, i.size, i.bytes)) = some (some (.int .i64 0), 1, 8) := by kernel_rfl
theorem own_below {W W' : World} {B : Nat} {e : TypeId} {sz n : Nat} {v : Value} {xs : List Value} (h : W.ownsRow B e sz v n xs) (hg : W.grownBy W' v.ownBlock) (hB : B ≤ W.heap.size) : Below B W W' := by
  refine ⟨hg.os, hg.tape, hg.output, hg.size, fun k hk => hg.block k (by omega) ?_⟩
  rcases h.2 with ⟨e, _⟩ | ⟨g, cap, cur, e, hb, _⟩
  · rw [e]; simp [Value.ownBlock]
  · rw [e]; simp only [Value.ownBlock]; intro h; injection h with h; omega
theorem row_snoc {W : World} {B : Nat} {v : Value} {acc : List Int} {t : Int} (h : W.ownsRow B 3 1 v (acc.length + 1) (enI acc ++ [.int .i64 t])) : W.ownsRow B 3 1 v (acc ++ [t]).length (enI (acc ++ [t])) := by
  have e : enI (acc ++ [t]) = enI acc ++ [.int .i64 t] := by simp [enI]
  rw [e, List.length_append]
  exact h
set_option maxHeartbeats 4000000 in
theorem put_any (A : Option Addr) (cap : Nat) (l : List Int) (n : Int) (w : World) (hx : IntsAt w A l) (hl : l.length ≤ 300) : Calls Try.prog 43 #[.slice A l.length cap, .int .i64 n] w fun e w' => (∃ v, e = .returned v ∧ w'.ownsRow w.heap.size 3 1 v (PitotConf.ins l n).length (enI (PitotConf.ins l n))) ∧ Below w.heap.size w w' := by
  obtain ⟨m, Hm⟩ : ∃ m, Hid (l.length = m) := ⟨_, rfl⟩
  rw [Hm.out] at hl ⊢
  have HX := Lib.hid hx; clear hx
  have HPL6 : Hid (([] : List Int).length ≤ 0) := Nat.le_refl _
  have HPL7 : Hid ((l.filter (fun x => decide (x < n)) ++ [n]).length ≤ 301) := by
    show _ ≤ _
    have h1 : (l.filter (fun x => decide (x < n))).length ≤ l.length := List.length_filter_le _ _
    rw [Hm.out] at h1
    simp; omega
  go_enter Try.func43, Try.ntmps43
  go_wp2
  go_loopw [5, 6] (fun v5 v6 wr => ∃ k : Nat, k ≤ m ∧ v6 = .int .i64 k ∧ wr.ownsRow w.heap.size 3 1 v5 ([] ++ (l.take k).filter (fun x => decide (x < n))).length (enI ([] ++ (l.take k).filter (fun x => decide (x < n)))) ∧ Below w.heap.size w wr) (fun _ v6 _ => m - (intOf v6).toNat)
  case atStart => exact ⟨0, Nat.zero_le _, rfl, ⟨rfl, .inl ⟨rfl, rfl⟩⟩, Below.refl _ _⟩
  case round =>
    obtain ⟨k, hk, rfl, hrow, hB⟩ := hrel
    have HRW := Lib.hid hrow; have HB := Lib.hid hB
    clear hrow hB
    have hlen : ([] ++ (l.take k).filter (fun x => decide (x < n))).length ≤ 0 + k := by
      rw [List.length_append]
      have h1 : ((l.take k).filter (fun x => decide (x < n))).length ≤ (l.take k).length := List.length_filter_le _ _
      have h2 : (l.take k).length ≤ k := List.length_take_le _ _
      have h3 : ([]).length ≤ 0 := HPL6.out
      omega
    by_cases hkm : k < m
    · have hkl : k < l.length := by rw [Hm.out]; exact hkm
      have e1 : decide ((k : Int) < (m : Int)) = true := decide_eq_true (by omega)
      have e1' : decide (k < m) = true := decide_eq_true hkm
      obtain ⟨b, off, rfl, hb, hcl⟩ := HX.out.get hkl
      have hcl : wr.cell? ⟨b, off + k, none⟩ = some (.int .i64 l[k]) := (HB.out.cell (p := ⟨b, off + k, none⟩) hb).trans hcl
      have hst : (l.take (k + 1)).filter (fun x => decide (x < n)) = (l.take k).filter (fun x => decide (x < n)) ++ (if l[k] < n then [l[k]] else []) := by
        rw [List.take_succ_eq_append_getElem hkl, List.filter_append, List.filter_cons]
        by_cases h : l[k] < n
        · rw [if_pos h, if_pos (by simpa using h)]; rfl
        · rw [if_neg h, if_neg (by simpa using h)]; rfl
      generalize l[k] = t at hcl hst
      have hbs := HB.out.size
      obtain ⟨st, Hst⟩ : ∃ st, Hid ([] ++ (l.take k).filter (fun x => decide (x < n)) = st) := ⟨[] ++ (l.take k).filter (fun x => decide (x < n)), Lib.hid rfl⟩
      rw [Hst.out] at HRW hlen
      by_cases ht : t < n
      · have e2 : decide (t < n) = true := decide_eq_true ht
        have HT : Hid ([] ++ (l.take (k + 1)).filter (fun x => decide (x < n)) = st ++ [t]) := by show _ = _; rw [hst, if_pos ht, ← Hst.out]; simp only [List.append_assoc]
        clear hst
        obtain ⟨ii, hii, hzz, hs3, hb3⟩ := info_parts info3
        have HRA := Lib.hid (HRW.out.alloc (.cells #[.int .i64 t] 3))
        have HNW : Hid (∀ j u, ([.int .i64 t] : List Value)[j]? = some u → (wr.alloc (.cells #[.int .i64 t] 3)).cell? ((⟨wr.heap.size, 0, none⟩ : Addr).add j) = some u) := World.news_of_block (heap_alloc_new wr _)
        have hcl2 : ∀ o, (wr.alloc o).cell? ⟨b, off + k, none⟩ = some (.int .i64 t) := fun o => ((Below.refl _ wr).alloc (Nat.le_refl _) o).cell (p := ⟨b, off + k, none⟩) (show b < wr.heap.size by omega) |>.trans hcl
        go_wp2_with (first
          | (at_builtin; refine wpList_append_lies _ rfl _ _ 22 (by rfl) w.heap.size 3 ii _ 1 8 Try.underlying22 hii hzz hs3 hb3 rfl (by omega) _ st.length _ (by rfl) HRA.out ⟨wr.heap.size, 0, none⟩ 1 1 [.int .i64 t] (by rfl) (by rfl) HNW.out (by simp [Value.oneCell']) (by omega) (by unfold maxLen; omega) (by omega) (by rw [World.size_alloc]; omega) _ rfl ?_; intro g c5 w5 hrow5 hg5 hgb5 hgl5))
        have HB5 : Hid (Below w.heap.size w w5) := (HB.out.alloc hbs _).trans (own_below HRA.out hg5 (by rw [World.size_alloc]; omega))
        go_roundw
        case rel => exact ⟨k + 1, by omega, by go_num, by rw [HT.out]; exact row_snoc hrow5, HB5.out⟩
        case measure => simp [intOf]; omega
      · have e2 : decide (t < n) = false := decide_eq_false ht
        have HT : Hid ([] ++ (l.take (k + 1)).filter (fun x => decide (x < n)) = st) := by show _ = _; rw [hst, if_neg ht, ← Hst.out, List.append_nil]
        clear hst
        go_wp2
        go_roundw
        case rel => exact ⟨k + 1, by omega, by go_num, by rw [HT.out]; exact HRW.out, HB.out⟩
        case measure => simp [intOf]; omega
    · have e1 : decide ((k : Int) < (m : Int)) = false := decide_eq_false (by omega)
      have e1' : decide (k < m) = false := decide_eq_false hkm
      have hfull : l.take k = l := List.take_of_length_le (by rw [Hm.out]; omega)
      rw [hfull, List.nil_append] at HRW hlen
      obtain ⟨acc, Hacc⟩ : ∃ acc, Hid (l.filter (fun x => decide (x < n)) = acc) := ⟨l.filter (fun x => decide (x < n)), Lib.hid rfl⟩
      rw [Hacc.out] at HRW hlen HPL7
      have hbs := HB.out.size
      obtain ⟨ii, hii, hzz, hs3, hb3⟩ := info_parts info3
      have HRA := Lib.hid (HRW.out.alloc (.cells #[.int .i64 n] 3))
      have HNW : Hid (∀ j u, ([.int .i64 n] : List Value)[j]? = some u → (wr.alloc (.cells #[.int .i64 n] 3)).cell? ((⟨wr.heap.size, 0, none⟩ : Addr).add j) = some u) := World.news_of_block (heap_alloc_new wr _)
      clear hfull
      go_wp2_with (first
        | (at_builtin; refine wpList_append_lies _ rfl _ _ 22 (by rfl) w.heap.size 3 ii _ 1 8 Try.underlying22 hii hzz hs3 hb3 rfl (by omega) _ acc.length _ (by rfl) HRA.out ⟨wr.heap.size, 0, none⟩ 1 1 [.int .i64 n] (by rfl) (by rfl) HNW.out (by simp [Value.oneCell']) (by omega) (by unfold maxLen; omega) (by omega) (by rw [World.size_alloc]; omega) _ rfl ?_; intro g c5 w5 hrow5 hg5 hgb5 hgl5))
      have HB5 : Hid (Below w.heap.size w w5) := (HB.out.alloc hbs _).trans (own_below HRA.out hg5 (by rw [World.size_alloc]; omega))
      have HR5 := Lib.hid (row_snoc hrow5)
      clear hrow5 hg5 hgb5 hgl5 HRA HNW HRW HB hbs
      go_loopw [5, 7] (fun v5 v6 wr => ∃ k : Nat, k ≤ m ∧ v6 = .int .i64 k ∧ wr.ownsRow w.heap.size 3 1 v5 ((acc ++ [n]) ++ (l.take k).filter (fun x => decide (n < x))).length (enI ((acc ++ [n]) ++ (l.take k).filter (fun x => decide (n < x)))) ∧ Below w.heap.size w wr) (fun _ v6 _ => m - (intOf v6).toNat)
      case atStart => exact ⟨0, Nat.zero_le _, rfl, by simpa using HR5.out, HB5.out⟩
      case round =>
        obtain ⟨k, hk, rfl, hrow, hB⟩ := hrel
        have HRW := Lib.hid hrow; have HB := Lib.hid hB
        clear hrow hB
        have hlen : ((acc ++ [n]) ++ (l.take k).filter (fun x => decide (n < x))).length ≤ 301 + k := by
          rw [List.length_append]
          have h1 : ((l.take k).filter (fun x => decide (n < x))).length ≤ (l.take k).length := List.length_filter_le _ _
          have h2 : (l.take k).length ≤ k := List.length_take_le _ _
          have h3 : ((acc ++ [n])).length ≤ 301 := HPL7.out
          omega
        by_cases hkm : k < m
        · have hkl : k < l.length := by rw [Hm.out]; exact hkm
          have e1 : decide ((k : Int) < (m : Int)) = true := decide_eq_true (by omega)
          have e1' : decide (k < m) = true := decide_eq_true hkm
          obtain ⟨b, off, rfl, hb, hcl⟩ := HX.out.get hkl
          have hcl : wr.cell? ⟨b, off + k, none⟩ = some (.int .i64 l[k]) := (HB.out.cell (p := ⟨b, off + k, none⟩) hb).trans hcl
          have hst : (l.take (k + 1)).filter (fun x => decide (n < x)) = (l.take k).filter (fun x => decide (n < x)) ++ (if n < l[k] then [l[k]] else []) := by
            rw [List.take_succ_eq_append_getElem hkl, List.filter_append, List.filter_cons]
            by_cases h : n < l[k]
            · rw [if_pos h, if_pos (by simpa using h)]; rfl
            · rw [if_neg h, if_neg (by simpa using h)]; rfl
          generalize l[k] = t at hcl hst
          have hbs := HB.out.size
          obtain ⟨st, Hst⟩ : ∃ st, Hid ((acc ++ [n]) ++ (l.take k).filter (fun x => decide (n < x)) = st) := ⟨(acc ++ [n]) ++ (l.take k).filter (fun x => decide (n < x)), Lib.hid rfl⟩
          rw [Hst.out] at HRW hlen
          by_cases ht : n < t
          · have e2 : decide (n < t) = true := decide_eq_true ht
            have HT : Hid ((acc ++ [n]) ++ (l.take (k + 1)).filter (fun x => decide (n < x)) = st ++ [t]) := by show _ = _; rw [hst, if_pos ht, ← Hst.out]; simp only [List.append_assoc]
            clear hst
            obtain ⟨ii, hii, hzz, hs3, hb3⟩ := info_parts info3
            have HRA := Lib.hid (HRW.out.alloc (.cells #[.int .i64 t] 3))
            have HNW : Hid (∀ j u, ([.int .i64 t] : List Value)[j]? = some u → (wr.alloc (.cells #[.int .i64 t] 3)).cell? ((⟨wr.heap.size, 0, none⟩ : Addr).add j) = some u) := World.news_of_block (heap_alloc_new wr _)
            have hcl2 : ∀ o, (wr.alloc o).cell? ⟨b, off + k, none⟩ = some (.int .i64 t) := fun o => ((Below.refl _ wr).alloc (Nat.le_refl _) o).cell (p := ⟨b, off + k, none⟩) (show b < wr.heap.size by omega) |>.trans hcl
            go_wp2_with (first
              | (at_builtin; refine wpList_append_lies _ rfl _ _ 22 (by rfl) w.heap.size 3 ii _ 1 8 Try.underlying22 hii hzz hs3 hb3 rfl (by omega) _ st.length _ (by rfl) HRA.out ⟨wr.heap.size, 0, none⟩ 1 1 [.int .i64 t] (by rfl) (by rfl) HNW.out (by simp [Value.oneCell']) (by omega) (by unfold maxLen; omega) (by omega) (by rw [World.size_alloc]; omega) _ rfl ?_; intro g c5 w5 hrow5 hg5 hgb5 hgl5))
            have HB5 : Hid (Below w.heap.size w w5) := (HB.out.alloc hbs _).trans (own_below HRA.out hg5 (by rw [World.size_alloc]; omega))
            go_roundw
            case rel => exact ⟨k + 1, by omega, by go_num, by rw [HT.out]; exact row_snoc hrow5, HB5.out⟩
            case measure => simp [intOf]; omega
          · have e2 : decide (n < t) = false := decide_eq_false ht
            have HT : Hid ((acc ++ [n]) ++ (l.take (k + 1)).filter (fun x => decide (n < x)) = st) := by show _ = _; rw [hst, if_neg ht, ← Hst.out, List.append_nil]
            clear hst
            go_wp2
            go_roundw
            case rel => exact ⟨k + 1, by omega, by go_num, by rw [HT.out]; exact HRW.out, HB.out⟩
            case measure => simp [intOf]; omega
        · have e1 : decide ((k : Int) < (m : Int)) = false := decide_eq_false (by omega)
          have e1' : decide (k < m) = false := decide_eq_false hkm
          have hfull : l.take k = l := List.take_of_length_le (by rw [Hm.out]; omega)
          rw [hfull] at HRW
          have HIN : Hid (acc ++ [n] ++ l.filter (fun x => decide (n < x)) = PitotConf.ins l n) := by show _ = _; rw [← Hacc.out]; simp [PitotConf.ins]
          rw [HIN.out] at HRW
          go_wp2
          go_returns
          exact ⟨⟨_, rfl, HRW.out⟩, HB.out⟩
end Go.Proofs.Ythicfgcnhefinaa
/- The document's Sends (trial). -/
set_option maxRecDepth 100000
namespace Go.Proofs.Ythicfgcnhefinaa
open Go.RowKit Go.Deep

theorem own_mono {w : World} {B B' : Nat} {e : TypeId} {size : Nat} {v : Value} {n : Nat} {xs : List Value} (h : w.ownsRow B e size v n xs) (hB : B' ≤ B) : w.ownsRow B' e size v n xs := by
  refine ⟨h.1, ?_⟩
  rcases h.2 with h | ⟨g, cap, cur, h1, h2, h3⟩
  · exact .inl h
  · exact .inr ⟨g, cap, cur, h1, Nat.le_trans hB h2, h3⟩
theorem enI_length (l : List Int) : (enI l).length = l.length := by simp [enI]
/-- A row of ints that a call owns, as ints in memory. -/
theorem row_ints {w : World} {B : Nat} {v : Value} {l : List Int} (h : w.ownsRow B 3 1 v l.length (enI l)) : ∃ A cap, v = .slice A l.length cap ∧ IntsAt w A l := by
  by_cases h0 : 0 < l.length
  · obtain ⟨g, cap, hv, hg, hlt⟩ := h.form h0
    refine ⟨some ⟨g, 0, none⟩, cap, hv, fun _ => ⟨g, 0, rfl, hlt, fun i hi => ?_⟩⟩
    have := h.cells (g := g) (by rw [hv]; rfl) i (.int .i64 l[i]) (by simp [enI, hi])
    rw [show (⟨g, 0, none⟩ : Addr).add i = ⟨g, 0 + i, none⟩ by unfold Addr.add; split <;> simp_all] at this
    exact this
  · have hl : l = [] := List.length_eq_zero_iff.1 (by omega)
    subst hl
    rcases h.2 with ⟨e, _⟩ | ⟨g, cap, cur, e, _⟩
    · exact ⟨none, 0, by rw [e]; rfl, fun h => absurd rfl h⟩
    · exact ⟨_, cap, e, fun h => absurd rfl h⟩
theorem two_filters (l : List Int) (n : Int) : (l.filter (fun x => decide (x < n))).length + (l.filter (fun x => decide (n < x))).length ≤ l.length := by
  induction l with
  | nil => simp
  | cons a r ih =>
    rw [List.filter_cons, List.filter_cons]
    by_cases h1 : a < n
    · rw [if_pos (by simpa using h1), if_neg (by simp; omega)]; simp; omega
    · rw [if_neg (by simpa using h1)]
      by_cases h2 : n < a
      · rw [if_pos (by simpa using h2)]; simp; omega
      · rw [if_neg (by simpa using h2)]; simp; omega
theorem ins_length (l : List Int) (n : Int) : (PitotConf.ins l n).length ≤ l.length + 1 := by
  have := two_filters l n
  simp [PitotConf.ins]; omega
theorem gather_length (l : List PitotConf.Vl) (f : PitotConf.Vl → Bool) : (PitotConf.gatherIds l f).length ≤ l.length := by
  unfold PitotConf.gatherIds
  have key : ∀ (r : List PitotConf.Vl) (a : List Int), (r.foldl (fun l v => PitotConf.ins l v.id) a).length ≤ a.length + r.length := by
    intro r
    induction r with
    | nil => intro a; simp
    | cons v r ih =>
      intro a
      have h1 := ih (PitotConf.ins a v.id)
      have h2 := ins_length a v.id
      simp only [List.foldl_cons, List.length_cons]; omega
  have h1 := key (l.filter f) []
  have h2 := List.length_filter_le f l
  simp only [List.length_nil] at h1
  omega
theorem gather_snoc (l : List PitotConf.Vl) (v : PitotConf.Vl) (f : PitotConf.Vl → Bool) : PitotConf.gatherIds (l ++ [v]) f = if f v = true then PitotConf.ins (PitotConf.gatherIds l f) v.id else PitotConf.gatherIds l f := by
  unfold PitotConf.gatherIds
  rw [List.filter_append, List.filter_cons]
  by_cases h : f v = true
  · rw [if_pos h, if_pos h, List.foldl_append]; rfl
  · rw [if_neg h, if_neg h, List.filter_nil, List.append_nil]
set_option maxHeartbeats 4000000 in
theorem sends_any (c : Cx) (h : Int) (w : World) (hc : c.Held w) (hl : c.vls.length ≤ 300) : Calls Try.prog 21 #[c.val, .int .i64 h] w fun e w' => (∃ v, e = .returned v ∧ w'.ownsRow w.heap.size 3 1 v (PitotConf.gatherIds (c.vls.map Vx.pl) (fun v => decide (v.host = h))).length (enI (PitotConf.gatherIds (c.vls.map Vx.pl) (fun v => decide (v.host = h))))) ∧ Below w.heap.size w w' := by
  have HV : Hid (VxsAt w c.vlsA c.vls) := hc.2.2.1
  clear hc
  obtain ⟨hosts, pA, pc, parts, major, wA, wk, wins, vA, vc, vls, qA, qc, ports⟩ := c
  simp only at HV hl ⊢
  obtain ⟨m, Hm⟩ : ∃ m, Hid (vls.length = m) := ⟨_, rfl⟩
  show Calls Try.prog 21 #[.agg #[.int .i64 hosts, .slice pA parts.length pc, .int .i64 major, .slice wA wins.length wk, .slice vA vls.length vc, .slice qA ports.length qc], .int .i64 h] w _
  rw [Hm.out] at hl ⊢
  have CB : Hid ((w.alloc (.cells #[.int .i64 hosts, .slice pA parts.length pc, .int .i64 major, .slice wA wins.length wk, .slice vA m vc, .slice qA ports.length qc] 27)).heap[w.heap.size]? = some (.cells #[.int .i64 hosts, .slice pA parts.length pc, .int .i64 major, .slice wA wins.length wk, .slice vA m vc, .slice qA ports.length qc] 27)) := heap_alloc_new w _
  have BB : Hid (Below w.heap.size w (w.alloc (.cells #[.int .i64 hosts, .slice pA parts.length pc, .int .i64 major, .slice wA wins.length wk, .slice vA m vc, .slice qA ports.length qc] 27))) := (Below.refl _ w).alloc (Nat.le_refl _) _
  go_enter Try.func21, Try.ntmps21
  go_wp2
  go_loopw [5, 6] (fun v5 v6 wr => ∃ k : Nat, k ≤ m ∧ v6 = .int .i64 k ∧ wr.ownsRow w.heap.size 3 1 v5 (PitotConf.gatherIds ((vls.take k).map Vx.pl) (fun v => decide (v.host = h))).length (enI (PitotConf.gatherIds ((vls.take k).map Vx.pl) (fun v => decide (v.host = h)))) ∧ wr.heap[w.heap.size]? = some (.cells #[.int .i64 hosts, .slice pA parts.length pc, .int .i64 major, .slice wA wins.length wk, .slice vA m vc, .slice qA ports.length qc] 27) ∧ Below w.heap.size w wr) (fun _ v6 _ => m - (intOf v6).toNat)
  case atStart => exact ⟨0, Nat.zero_le _, rfl, ⟨rfl, .inl ⟨rfl, rfl⟩⟩, CB.out, BB.out⟩
  case round =>
    obtain ⟨k, hk, rfl, hrow, hC, hB⟩ := hrel
    have HRW := Lib.hid hrow; have HB := Lib.hid hB; have HC := Lib.hid hC
    clear hrow hB hC
    obtain ⟨c0, c1, c2, c3, c4, c5⟩ := cells_6 HC.out
    have hgl := gather_length ((vls.take k).map Vx.pl) (fun v => decide (v.host = h))
    rw [List.length_map] at hgl
    have hgl2 : (vls.take k).length ≤ k := List.length_take_le _ _
    have HGS := Lib.hid (gather_snoc ((vls.take k).map Vx.pl))
    by_cases hkm : k < m
    · have hkl : k < vls.length := by rw [Hm.out]; exact hkm
      have e1 : decide ((k : Int) < (m : Int)) = true := decide_eq_true (by omega)
      have e1' : decide (k < m) = true := decide_eq_true hkm
      obtain ⟨b, off, rfl, hb, hat, _⟩ := HV.out.get hkl
      have HST : Hid ((vls.take (k + 1)).map Vx.pl = (vls.take k).map Vx.pl ++ [vls[k].pl]) := by show _ = _; rw [List.take_succ_eq_append_getElem hkl, List.map_append]; rfl
      have hat := hat.below HB.out hb
      generalize vls[k] = x at hat HST
      obtain ⟨a0, a1, a2, a3, a4, a5, a6, a7⟩ := hat
      obtain ⟨acc, Hacc⟩ : ∃ acc, Hid (PitotConf.gatherIds ((vls.take k).map Vx.pl) (fun v => decide (v.host = h)) = acc) := ⟨PitotConf.gatherIds ((vls.take k).map Vx.pl) (fun v => decide (v.host = h)), Lib.hid rfl⟩
      rw [Hacc.out] at HRW hgl
      have hbs := HB.out.size
      by_cases ht : x.host = h
      · have e2 : (x.host == h) = true := by simpa using ht
        have HT : Hid (PitotConf.gatherIds ((vls.take (k + 1)).map Vx.pl) (fun v => decide (v.host = h)) = PitotConf.ins acc x.id) := by
          show _ = _; rw [HST.out, HGS.out, if_pos (decide_eq_true ht), Hacc.out]
        obtain ⟨A, cap, hv, hia⟩ := row_ints HRW.out
        have HPU := Lib.hid (put_any A cap acc x.id wr hia (by omega))
        subst hv
        clear ht hia
        go_wp2_with (first
          | (go_at_call 43; (with_reducible refine (HPU.out).mono ?_); rintro e w2 ⟨⟨v, rfl, hr2⟩, hb2⟩))
        have HR2 := Lib.hid (own_mono hr2 hbs)
        have HB2 : Hid (Below w.heap.size w w2) := HB.out.trans (hb2.mono hbs)
        have HC2 := Lib.hid (lies_below HC.out hb2 (lies_lt HC.out))
        clear hr2 hb2
        go_roundw
        case rel => exact ⟨k + 1, by omega, by go_num, by rw [HT.out]; exact HR2.out, HC2.out, HB2.out⟩
        case measure => simp [intOf]; omega
      · have e2 : (x.host == h) = false := by simpa using ht
        have HT : Hid (PitotConf.gatherIds ((vls.take (k + 1)).map Vx.pl) (fun v => decide (v.host = h)) = acc) := by
          show _ = _; rw [HST.out, HGS.out, if_neg (by simpa using ht), Hacc.out]
        clear ht
        go_wp2
        go_roundw
        case rel => exact ⟨k + 1, by omega, by go_num, by rw [HT.out]; exact HRW.out, HC.out, HB.out⟩
        case measure => simp [intOf]; omega
    · have e1 : decide ((k : Int) < (m : Int)) = false := decide_eq_false (by omega)
      have e1' : decide (k < m) = false := decide_eq_false hkm
      rw [List.take_of_length_le (by rw [Hm.out]; omega)] at HRW
      go_wp2
      go_returns
      exact ⟨⟨_, rfl, HRW.out⟩, HB.out⟩
end Go.Proofs.Ythicfgcnhefinaa
/- The program looks at the partitions. -/
set_option maxRecDepth 100000
namespace Go.Proofs.Ythicfgcnhefinaa
open Go.RowKit

/-- What a judge tells: which one, and why. -/
def told (o : Option (Nat × Int)) : Int × Int := match o with
  | some x => ((x.1 : Int), x.2)
  | none => (0, 0)
abbrev judged (x : Int × Int) : Value := .tuple #[.int .i64 x.1, .int .i64 x.2]
theorem scan_step {α : Type} (J : List α → α → Int) (l : List α) (k : Nat) (h : k < l.length) : PitotConf.scan J (l.take k) (l.drop k) = if J (l.take k) l[k] = 0 then PitotConf.scan J (l.take (k + 1)) (l.drop (k + 1)) else some (k, J (l.take k) l[k]) := by
  rw [List.drop_eq_getElem_cons h, PitotConf.scan, List.take_succ_eq_append_getElem h, List.length_take, Nat.min_eq_left (by omega)]
theorem scan_end {α : Type} (J : List α → α → Int) (l : List α) (k : Nat) (h : l.length ≤ k) : PitotConf.scan J (l.take k) (l.drop k) = none := by
  rw [List.drop_of_length_le h]; rfl
set_option maxHeartbeats 2000000 in
theorem judgeParts_any (c : Cx) (w : World) (hc : c.Held w) (hl : c.parts.length ≤ maxLen) (h0 : 1 ≤ c.hosts ∧ c.hosts ≤ 64) : Calls Try.prog 26 #[c.val] w fun e w' => e = .returned (judged (told (PitotConf.scan (PitotConf.partJ c.hosts) [] c.parts))) ∧ Below w.heap.size w w' := by
  unfold maxLen at hl
  have HV : Hid (IntsAt w c.partsA c.parts) := hc.1
  clear hc
  obtain ⟨R, HR⟩ : ∃ R, Hid (told (PitotConf.scan (PitotConf.partJ c.hosts) [] c.parts) = R) := ⟨_, rfl⟩
  rw [HR.out]
  obtain ⟨hosts, pA, pc, parts, major, wA, wk, wins, vA, vc, vls, qA, qc, ports⟩ := c
  simp only at HV HR hl h0 ⊢
  obtain ⟨m, Hm⟩ : ∃ m, Hid (parts.length = m) := ⟨_, rfl⟩
  obtain ⟨wl, _⟩ : ∃ n, wins.length = n := ⟨_, rfl⟩
  show Calls Try.prog 26 #[.agg #[.int .i64 hosts, .slice pA parts.length pc, .int .i64 major, .slice wA wins.length wk, .slice vA vls.length vc, .slice qA ports.length qc]] w _
  rw [Hm.out] at hl ⊢
  generalize wins.length = wl, vls.length = vl, ports.length = ql
  obtain ⟨ra, re⟩ := R
  have HH := Lib.hid (fun n w => isHost_any hosts major pA wA vA qA m pc wl wk vl vc ql qc n w (by omega) (by omega))
  have CB : Hid ((w.alloc (.cells #[.int .i64 hosts, .slice pA m pc, .int .i64 major, .slice wA wl wk, .slice vA vl vc, .slice qA ql qc] 27)).heap[w.heap.size]? = some (.cells #[.int .i64 hosts, .slice pA m pc, .int .i64 major, .slice wA wl wk, .slice vA vl vc, .slice qA ql qc] 27)) := heap_alloc_new w _
  have BB : Hid (Below w.heap.size w (w.alloc (.cells #[.int .i64 hosts, .slice pA m pc, .int .i64 major, .slice wA wl wk, .slice vA vl vc, .slice qA ql qc] 27))) := (Below.refl _ w).alloc (Nat.le_refl _) _
  go_enter Try.func26, Try.ntmps26
  go_wp2
  go_loopw [9] (fun v9 wr => ∃ k : Nat, k ≤ m ∧ v9 = .int .i64 k ∧ Hid (told (PitotConf.scan (PitotConf.partJ hosts) (parts.take k) (parts.drop k)) = (ra, re)) ∧ wr.heap[w.heap.size]? = some (.cells #[.int .i64 hosts, .slice pA m pc, .int .i64 major, .slice wA wl wk, .slice vA vl vc, .slice qA ql qc] 27) ∧ Below w.heap.size w wr) (fun v9 _ => m - (intOf v9).toNat)
  case atStart => exact ⟨0, Nat.zero_le _, rfl, HR, CB.out, BB.out⟩
  case round =>
    obtain ⟨k, hk, rfl, ht, hC, hB⟩ := hrel
    have HB := Lib.hid hB; have HC := Lib.hid hC
    clear hB hC
    obtain ⟨c0, c1, c2, c3, c4, c5⟩ := cells_6 HC.out
    by_cases hkm : k < m
    · have hkl : k < parts.length := by rw [Hm.out]; exact hkm
      have e1 : decide ((k : Int) < (m : Int)) = true := decide_eq_true (by omega)
      have e1' : decide (k < m) = true := decide_eq_true hkm
      obtain ⟨b, off, rfl, hb, hat⟩ := HV.out.get hkl
      have hat : wr.cell? ⟨b, off + k, none⟩ = some (.int .i64 parts[k]) := (HB.out.cell hb).trans hat
      have hs := scan_step (PitotConf.partJ hosts) parts k hkl
      have hJ : PitotConf.partJ hosts (parts.take k) parts[k] = if 64 ≤ k ∨ PitotConf.isHost hosts parts[k] = false then 1 else 0 := by
        rw [PitotConf.partJ, List.length_take, Nat.min_eq_left (by omega)]
      generalize parts[k] = x at hat hs hJ
      generalize PitotConf.partJ hosts (parts.take k) x = J at hs hJ
      by_cases g0 : 64 ≤ k
      · have f0 : decide (64 ≤ (k : Int)) = true := decide_eq_true (by omega)
        have f0' : decide (64 ≤ k) = true := decide_eq_true g0
        have HT : Hid (((k : Int), (1 : Int)) = (ra, re)) := by
          show _ = _
          have hJ1 : J = 1 := by rw [hJ, if_pos (Or.inl g0)]
          rw [← ht.out, hs, if_neg (by rw [hJ1]; decide), hJ1]; rfl
        clear hs hJ g0 ht
        go_wp2
        go_returns
        have := HT.out
        injection this with h1 h2
        subst h1; subst h2
        exact ⟨rfl, HB.out⟩
      · have f0 : decide (64 ≤ (k : Int)) = false := decide_eq_false (by omega)
        have f0' : decide (64 ≤ k) = false := decide_eq_false g0
        have HX := HH.out x
        cases hp : PitotConf.isHost hosts x
        · rw [hp] at HX
          have HX := Lib.hid HX
          have HT : Hid (((k : Int), (1 : Int)) = (ra, re)) := by
            show _ = _
            have hJ1 : J = 1 := by rw [hJ, if_pos (Or.inr hp)]
            rw [← ht.out, hs, if_neg (by rw [hJ1]; decide), hJ1]; rfl
          clear hs hJ hp g0 ht
          go_wp2_with (go_at_call 48; (with_reducible refine (HX.out _).mono ?_); rintro e w2 ⟨rfl, hb2⟩)
          go_returns
          have := HT.out
          injection this with h1 h2
          subst h1; subst h2
          exact ⟨rfl, HB.out.trans (hb2.mono HB.out.size)⟩
        · rw [hp] at HX
          have HX := Lib.hid HX
          have HT : Hid (told (PitotConf.scan (PitotConf.partJ hosts) (parts.take (k + 1)) (parts.drop (k + 1))) = (ra, re)) := by
            show _ = _
            have hJ1 : J = 0 := by rw [hJ, if_neg (by rw [hp]; simp; omega)]
            rw [← ht.out, hs, if_pos hJ1]
          clear hs hJ hp g0 ht
          go_wp2_with (go_at_call 48; (with_reducible refine (HX.out _).mono ?_); rintro e w2 ⟨rfl, hb2⟩)
          have HB2 := Lib.hid (HB.out.trans (hb2.mono HB.out.size))
          have HC2 := Lib.hid (lies_below HC.out hb2 (lies_lt HC.out))
          clear hb2
          go_roundw
          case rel => exact ⟨k + 1, by omega, by go_num, HT, HC2.out, HB2.out⟩
          case measure => simp [intOf]; omega
    · have e1 : decide ((k : Int) < (m : Int)) = false := decide_eq_false (by omega)
      have e1' : decide (k < m) = false := decide_eq_false hkm
      have HT : Hid (((0 : Int), (0 : Int)) = (ra, re)) := by
        show _ = _
        rw [← ht.out, scan_end _ _ _ (by rw [Hm.out]; omega)]; rfl
      clear ht
      go_wp2
      go_returns
      have := HT.out
      injection this with h1 h2
      subst h1; subst h2
      exact ⟨rfl, HB.out⟩
end Go.Proofs.Ythicfgcnhefinaa
