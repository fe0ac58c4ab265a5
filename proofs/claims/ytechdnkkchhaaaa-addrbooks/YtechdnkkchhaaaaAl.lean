/- Contract of All of a book. -/
import Derived.Test.YtechdnkkchhaaaaSo
import Derived.Test.YtechdnkkchhaaaaBd
import Derived.Test.YtechdnkkchhaaaaNl
import Derived.Deep.AppendLies
set_option maxRecDepth 100000
namespace Go.Proofs.Ytechdnkkchhaaaa
open Go.RowKit Go.Proofs.PitotAddr Go.Maps

/-- The addresses that were met so far. -/
def Coll (D : DataW Unit) (left : Lit → Bool) (ss : List M6) : Prop := ss.Nodup ∧ ∀ m, m ∈ ss ↔ (Maps.has D (kl m) = true ∧ left (kl m) = false)
theorem Coll.start (D : DataW Unit) : Coll D (Maps.has D) [] := ⟨List.nodup_nil, fun m => by cases Maps.has D (kl m) <;> simp⟩
theorem Coll.step {D : DataW Unit} {left : Lit → Bool} {ss : List M6} (h : Coll D left ss) {x : M6} {y : DataW Unit} (hlk : left (kl x) = true) (hat : ∀ zd, D.atKey (kl x) zd = y) : Coll D (fun z => left z && !z.sameKey (kl x)) (ss ++ [x]) := by
  have hhas : Maps.has D (kl x) = true := has_true_of_atKey hat
  have hnew : x ∉ ss := fun hx => by have := ((h.2 x).1 hx).2; rw [hlk] at this; cases this
  refine ⟨List.nodup_append.2 ⟨h.1, by simp, fun a ha b hb => by simp at hb; subst hb; exact fun e => hnew (e ▸ ha)⟩, fun m => ?_⟩
  by_cases hm : m = x
  · subst hm
    simp [hhas, WideAt.sameKey_self (kl_key m)]
  · have : (kl m).sameKey (kl x) = false := sameKey_ne (fun e => hm (kl_inj e))
    simp [h.2 m, hm, this]

theorem new2 (w : World) (o o' : Obj) : ((w.alloc o).alloc o').heap[w.heap.size + 1]? = some o' := by
  have := heap_alloc_new (w.alloc o) o'
  rwa [show (w.alloc o).heap.size = w.heap.size + 1 by simp] at this

theorem hrow_ne {w wr : World} {v : Value} {ss : List M6} {b n : Nat} {D : DataW Unit} {left : Lit → Bool} {cnt : Nat} (h : wr.ownsRow w.heap.size 23 6 v ss.length (flat ss)) (hrg : wr.ranges Try.prog 23 IE b w.heap.size n D left cnt) : v.ownBlock = none ∨ v.ownBlock ≠ some w.heap.size := by
  rcases h.2 with ⟨rfl, _⟩ | ⟨g, cap, cur, rfl, _, hg, _⟩
  · exact .inl rfl
  · right
    intro e
    have e : g = w.heap.size := by simpa [Value.ownBlock] using e
    subst e
    obtain ⟨es, cl, since, seen, c0, _, _, _, _, hr, _⟩ := hrg
    rw [hg] at hr
    cases hr

theorem own_ne {w wr : World} {v : Value} {ss : List M6} {b n : Nat} {D : DataW Unit} {left : Lit → Bool} {cnt : Nat} (h : wr.ownsRow w.heap.size 23 6 v ss.length (flat ss)) (hrg : wr.ranges Try.prog 23 IE b w.heap.size n D left cnt) : some b ≠ v.ownBlock ∧ some w.heap.size ≠ v.ownBlock := by
  rcases h.2 with ⟨rfl, _⟩ | ⟨g, cap, cur, rfl, _, hg, _⟩
  · exact ⟨by simp [Value.ownBlock], by simp [Value.ownBlock]⟩
  · obtain ⟨es, cl, since, seen, c0, hm, _, _, _, hr, _⟩ := hrg
    refine ⟨fun e => ?_, fun e => ?_⟩
    · have e : b = g := by simpa [Value.ownBlock] using e
      subst e; rw [hg] at hm; cases hm
    · have e : w.heap.size = g := by simpa [Value.ownBlock] using e
      subst e; rw [hg] at hr; cases hr

/-- What All answers. -/
def AllIs (w : World) (g : M6 → Option Int) (r : Ending) (w' : World) : Prop :=
  ∃ A cap ls, r = .returned (.slice A (List.length ls) cap) ∧ MacsAt w' A ls ∧ ls.Pairwise (fun x y => x.bytes < y.bytes) ∧ (∀ m, m ∈ ls ↔ (g m).isSome = true) ∧ Below w.heap.size w w' ∧ ls.length ≤ 1000000

set_option maxHeartbeats 4000000 in
theorem all_made (w : World) (p b n : Nat) (D : DataW Unit) (g : M6 → Option Int) (hp : w.heap[p]? = some (.cells #[.map (some b)] 63)) (hown : w.ownsMap Try.prog 23 IE b n D) (hr : Rep D g) (hn : n ≤ 1000) :
    Calls Try.prog 38 #[.pointer (some ⟨p, 0, none⟩)] w fun r w' => AllIs w g r w' := by
  have hsz := hown.size_le
  have hc : w.cell? ⟨p, 0, none⟩ = some (.map (some b)) := lies_cell hp 0
  obtain ⟨i0, hi, hz0, hz1, hz2⟩ := info_parts (show (Try.prog.info? 23).map (fun i => (i.zero, i.size, i.bytes)) = some (some (.agg #[.int .u8 0, .int .u8 0, .int .u8 0, .int .u8 0, .int .u8 0, .int .u8 0]), 6, 6) by kernel_rfl)
  have Hr := Lib.hid hr; clear hr
  have Hp := Lib.hid hp; clear hp
  have hbl := hown.lt
  go_enter Try.func38, Try.ntmps38
  go_wp2_with (first
    | (at_range; refine wpList_range_own _ rfl _ 61 rfl 23 3 law23 Try.underlying61 IE b n D rfl hown ?_; intro w0 hrg0 hg0 hs0))
  go_frame
  clear hc
  have HO := Lib.hid hown; clear hown
  go_loopw [3] (fun v3 wr => ∃ (left : Lit → Bool) (cnt : Nat) (ss : List M6), wr.ranges Try.prog 23 IE b w.heap.size n D left cnt ∧ Hid (Coll D left ss) ∧ ss.length + cnt ≤ Maps.size D ∧ wr.ownsRow w.heap.size 23 6 v3 ss.length (flat ss) ∧ Below w.heap.size w wr ∧ w.heap.size + 1 ≤ wr.heap.size)
    (fun _ wr => wr.rangeLeft b w.heap.size)
  case atStart =>
    exact ⟨_, _, [], hrg0, Coll.start D, by simp, World.ownsRow_nil _ _ _ _, (Below.refl _ _).grown hg0 (Nat.le_refl _) (fun j hj => by cases hj), by omega⟩
  case round =>
    obtain ⟨left, cnt, ss, hrg, hC, hcnt, hrow, hb, hws⟩ := hrel
    clear hrg0 hg0 hs0
    go_wp2_with (first
      | (at_next; refine wpList_next_ranges _ rfl _ rfl 23 law23 IE M6.val (Value.int .i64) (fun key kl hk => by obtain ⟨m, hm, _⟩ := mac_key hk; exact ⟨m, hm⟩) (fun v y hv => by obtain ⟨c, rfl, _⟩ := plainElem_int_inv Try.underlying3 hv; exact ⟨c, rfl⟩) b w.heap.size n _ _ _ rfl hrg ?_ ?_))
    · intro hc0 hl0
      have HL0 := Lib.hid hl0; clear hl0
      have HW := Lib.hid hrow; clear hrow
      have hl1 : ss.length ≤ 1000000 := by omega
      have HND : Hid ss.Nodup := hC.out.1
      clear hrg
      go_wp2_with (first
        | (go_at_call 48; (with_reducible refine (sort_any wr w.heap.size _ ss HW.out hb.size hl1 HND.out).mono ?_); rintro r w2 ⟨rfl, A, cap, ls, hv, hM, hs, hmem, hb2, hlen2⟩; (have HV := Lib.hid hv); clear hv))
      go_returns
      refine ⟨A, cap, ls, ?_, hM, hs, fun m => ?_, hb.trans hb2, by omega⟩
      · show Ending.returned u3 = _
        rw [HV.out]
      · rw [hmem m, hC.out.2 m, HL0.out (kl m), (Hr.out m).1]
        simp
    · intro x c kl' yd yp w1 cnt1 hkey hlk hv hat hrg1 hlt hg1 hs1 hen
      have hk2 : kl' = kl x := by have := key_mac x; rw [hkey] at this; exact Option.some.inj this
      subst hk2
      have hC1 := Lib.hid (hC.out.step hlk hat)
      have hrow1 := hrow.kept hg1 (hrow_ne hrow hrg)
      have hb1 : Below w.heap.size w w1 := hb.grown hg1 hb.size (fun j hj => by cases hj; exact Nat.le_refl _)
      have hsz1 : w.heap.size + 1 ≤ w1.heap.size := by omega
      have HL := Lib.hid hlt; have HA := Lib.hid hat; have HK := Lib.hid hkey; have HV := Lib.hid hv; have HLK := Lib.hid hlk
      have HS1 := Lib.hid hs1
      have HRG := Lib.hid hrg
      clear hlt hat hkey hv hlk hs1 hrow hrg hws hb
      obtain ⟨a, b', c', d, e, f⟩ := x
      have hen' : (Instr.entry (.pointer (some ⟨w.heap.size, 0, none⟩))).run Try.prog w1 = .ok (.tuple #[.agg #[.int .u8 a.toNat, .int .u8 b'.toNat, .int .u8 c'.toNat, .int .u8 d.toNat, .int .u8 e.toNat, .int .u8 f.toNat], .int .i64 c]) w1 := hen
      clear hen
      have hone : ∀ u ∈ encM ⟨a, b', c', d, e, f⟩, u.oneCell' = true := by intro u hu; simp [encM] at hu; rcases hu with rfl | rfl | rfl | rfl | rfl | rfl <;> rfl
      have Hone := Lib.hid hone; clear hone
      go_wp2_with (first
        | (at_builtin; refine wpList_append_lies _ rfl _ _ 76 (by rfl) w.heap.size 23 i0 (.agg #[.int .u8 0, .int .u8 0, .int .u8 0, .int .u8 0, .int .u8 0, .int .u8 0]) 6 6 Try.underlying76 hi hz0 hz1 hz2 rfl (by decide) _ _ _ (by rfl) ((hrow1.alloc _).alloc _) ⟨w1.heap.size + 1, 0, none⟩ 1 1 (encM ⟨a, b', c', d, e, f⟩) (by rfl) rfl (World.news_of_block (new2 w1 _ _)) Hone.out (by omega) (by unfold maxLen; omega) (by omega) (by simp; omega) _ rfl ?_; intro gg cap w2 hown2 hgrow2 hat2 hlt2))
      have hne := own_ne hrow1 hrg1
      have hrg2 := (((hrg1.alloc _).alloc _).kept hgrow2 hne.1 hne.2)
      have HBe : Below w.heap.size w w2 := (((hb1.alloc hb1.size _).alloc (by simp; omega) _).grown hgrow2 (by simp; omega) (fun j hj => (hrow1.lt j hj).1))
      go_roundw
      case rel =>
        refine ⟨_, cnt1, ss ++ [⟨a, b', c', d, e, f⟩], hrg2, hC1, ?_, ?_, HBe, ?_⟩
        · have := HL.out; simp; omega
        · rw [List.length_append, flat_snoc]; exact hown2
        · have := HBe.size; have := hgrow2.size; simp at this; omega
      case measure => rw [hrg2.left_eq, HRG.out.left_eq]; exact HL.out

set_option maxHeartbeats 1000000 in
theorem all_none (w : World) (p : Nat) (g : M6 → Option Int) (hp : w.heap[p]? = some (.cells #[.map none] 63)) (hg : ∀ m, g m = none) :
    Calls Try.prog 38 #[.pointer (some ⟨p, 0, none⟩)] w fun r w' => AllIs w g r w' := by
  have hc : w.cell? ⟨p, 0, none⟩ = some (.map none) := lies_cell hp 0
  have hrg := run_range_nilMap (P := Try.prog) w 61 23 3 Try.underlying61
  have hnx : ∀ ty, (Instr.next (.pointer (some ⟨w.heap.size, 0, none⟩)) false ty).run Try.prog (w.alloc (.mapIter none 0 #[] 0)) = _ := fun ty => run_next_nilMap _ ty 0 0 #[]
  have HG := Lib.hid hg; clear hg
  have Hp := Lib.hid hp; clear hp
  have hs := fun w => sort_any w 0 (.slice none 0 0) [] (World.ownsRow_nil _ _ _ _) (Nat.zero_le _) (by simp) List.nodup_nil
  have hs' : ∀ w, Calls Try.prog 48 #[.slice none 0 0, .func (.func 49) #[] #[]] w fun r w' => r = .returned (.tuple #[]) ∧ w' = w := fun w => AnyF.slices_SortFunc_none { Try.sortMac with } none 0 (.func (.func 49) #[] #[]) w
  have HS := Lib.hid hs'; clear hs hs'
  go_enter Try.func38, Try.ntmps38
  go_wp2
  refine wp_loop_rounds 1 ?_
  rw [rounds_succ]
  go_wp2_with (first
    | (go_at_call 48; (with_reducible refine (HS.out _).mono ?_); rintro r w2 ⟨rfl, rfl⟩))
  go_returns
  refine ⟨none, 0, [], rfl, fun h => absurd rfl h, List.Pairwise.nil, fun m => ?_, (Below.refl _ _).alloc (Nat.le_refl _) _, by simp⟩
  rw [HG.out m]; simp

theorem BookAt.more {base : Nat} {w : World} {p n n' : Nat} {g : M6 → Option Int} (h : BookAt base w p n g) (hn : n ≤ n') : BookAt base w p n' g := by
  refine ⟨h.1, ?_⟩
  rcases h.2 with h | ⟨b, D, hp, hb, hown, hr⟩
  · exact .inl h
  · exact .inr ⟨b, D, hp, hb, hown.mono hn, hr⟩

/-- All of a book. -/
theorem all_any {base : Nat} {w : World} {p n : Nat} {g : M6 → Option Int} (h : BookAt base w p n g) (hn : n ≤ 1000) :
    Calls Try.prog 38 #[.pointer (some ⟨p, 0, none⟩)] w fun r w' => AllIs w g r w' := by
  rcases h.2 with ⟨hp, hg⟩ | ⟨b, D, hp, hb, hown, hr⟩
  · exact all_none w p g hp hg
  · exact all_made w p b n D g hp hown hr hn
end Go.Proofs.Ytechdnkkchhaaaa
