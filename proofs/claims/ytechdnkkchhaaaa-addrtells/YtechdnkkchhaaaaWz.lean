/- Contract of Whose: the document's. -/
import Derived.Test.YtechdnkkchhaaaaWh
namespace Go.Proofs.Ytechdnkkchhaaaa
open Go.RowKit Go.Proofs.PitotAddr

set_option maxRecDepth 100000 in
set_option maxHeartbeats 4000000 in
theorem refWhose_any (a b c d : UInt8) (w : World) :
    Calls Try.prog 27 #[.string ⟨#[a, b, c, d]⟩] w fun r w' => Hid (r = .returned (whoA a b c d)) ∧ Below w.heap.size w w' := by
  have hd := d.toNat_lt
  have hn := num_lt b c
  have hm := num_lt c d
  obtain ⟨n, Hn⟩ : ∃ n, Hid (n = num b c) := ⟨_, rfl⟩
  obtain ⟨m, Hm⟩ : ∃ m, Hid (m = num c d) := ⟨_, rfl⟩
  have h1 := fun w => refnum_any ⟨#[b, c, d]⟩ b c w (by show 2 ≤ 3; omega) rfl rfl
  have h2 := fun w => refnum_any ⟨#[c, d]⟩ c d w (by show 2 ≤ 2; omega) rfl rfl
  rw [← Hn.out] at h1 hn
  rw [← Hm.out] at h2 hm
  have H1 := Lib.hid h1; clear h1
  have H2 := Lib.hid h2; clear h2
  obtain ⟨P, HP⟩ : ∃ P, Hid (P = isPart a b c) := ⟨_, rfl⟩
  obtain ⟨G, HG⟩ : ∃ G, Hid (G = isGroup a b c d) := ⟨_, rfl⟩
  obtain ⟨S, HS⟩ : ∃ S : ByteArray, Hid (S = ⟨#[a, b, c, d]⟩) := ⟨_, rfl⟩
  have hsz : S.size = 4 := by rw [HS.out]; rfl
  have hex1 : S.extract 1 4 = ⟨#[b, c, d]⟩ := by rw [HS.out]; rfl
  have hex2 : S.extract 2 4 = ⟨#[c, d]⟩ := by rw [HS.out]; rfl
  have hat : S[3]'(by omega) = d := by
    have : ∀ (T : ByteArray) (h : 3 < T.size), T = ⟨#[a, b, c, d]⟩ → T[3]'h = d := by intro T h e; subst e; rfl
    exact this S _ HS.out
  have h3 : (3 : Int) < (S.size : Int) := by omega
  rw [← HS.out]
  have heq : n ≤ 4095 → ([10, hi n, lo n, d] == S.toList) = P := fun h4 => by
    rw [HP.out, HS.out, str_beq4, part_eq a b c d n Hn.out h4]
  have heg : 1 ≤ m → ([224, 224, hi m, lo m] == S.toList) = G := fun h4 => by
    rw [HG.out, HS.out, str_beq4, group_eq a b c d m Hm.out h4]
  have HQ := Lib.hid heq; clear heq
  have HH := Lib.hid heg; clear heg
  have hwr : IntKind.i64.wrap (d.toNat : Int) = (d.toNat : Int) := IntWalk.i64_in _ (by omega)
  by_cases h4 : n ≤ 4095
  · have hp := fun w => refPart_ok n d.toNat w h4 (by omega)
    rw [lo_byte] at hp
    have HA := Lib.hid hp; clear hp
    have heq := HQ.out h4
    cases P
    · by_cases hm1 : 1 ≤ m
      · have hp := fun w => refGroup_ok m w hm1 (by omega)
        have HC := Lib.hid hp; clear hp
        have heg := HH.out hm1
        cases G
        all_goals
          go_enter Try.func27, Try.ntmps27
          go_wp2
          go_region_held3 (fun _ => True) (exact trivial) (first
            | (go_at_call 45; (with_reducible refine (H1.out _).mono ?_); rintro e w1 ⟨rfl, hb1⟩)
            | (go_at_call 16; (with_reducible refine (HA.out _).mono ?_); rintro e w2 ⟨rfl, hb2⟩))
          all_goals
            have HB1 : Below w.heap.size w w1 := (Below.refl _ w).drew.trans hb1
            have HB2 : Below w.heap.size w w2 := HB1.trans (hb2.mono HB1.size)
            clear hb1 HB1 hb2
            go_wp2_with (first
              | (go_at_call 45; (with_reducible refine (H2.out _).mono ?_); rintro e w3 ⟨rfl, hb3⟩; (have HB2 := HB2.trans (hb3.mono HB2.size)); clear hb3)
              | (go_at_call 18; (with_reducible refine (HC.out _).mono ?_); rintro e w4 ⟨rfl, hb4⟩; (have HB2 := HB2.trans (hb4.mono HB2.size)); clear hb4))
            go_returns
            refine ⟨?_, HB2⟩
            show _ = _
            unfold whoA
            rw [← HP.out, ← HG.out, ← Hm.out]
            rfl
      · have hp := fun w => refGroup_bad m w (by omega)
        have HC := Lib.hid hp; clear hp
        have hG : G = false := by rw [HG.out]; unfold isGroup; rw [← Hm.out, decide_eq_false hm1]; simp
        subst hG
        go_enter Try.func27, Try.ntmps27
        go_wp2
        go_region_held3 (fun _ => True) (exact trivial) (first
          | (go_at_call 45; (with_reducible refine (H1.out _).mono ?_); rintro e w1 ⟨rfl, hb1⟩)
          | (go_at_call 16; (with_reducible refine (HA.out _).mono ?_); rintro e w2 ⟨rfl, hb2⟩))
        all_goals
          have HB1 : Below w.heap.size w w1 := (Below.refl _ w).drew.trans hb1
          have HB2 : Below w.heap.size w w2 := HB1.trans (hb2.mono HB1.size)
          clear hb1 HB1 hb2
          go_wp2_with (first
            | (go_at_call 45; (with_reducible refine (H2.out _).mono ?_); rintro e w3 ⟨rfl, hb3⟩; (have HB2 := HB2.trans (hb3.mono HB2.size)); clear hb3)
            | (go_at_call 18; (with_reducible refine (HC.out _).mono ?_); rintro e w4 ⟨rfl, rfl⟩))
          go_returns
          refine ⟨?_, HB2⟩
          show _ = _
          unfold whoA
          rw [← HP.out, ← HG.out]
          rfl
    · skip
      go_enter Try.func27, Try.ntmps27
      go_wp2
      go_region_held3 (fun _ => True) (exact trivial) (first
        | (go_at_call 45; (with_reducible refine (H1.out _).mono ?_); rintro e w1 ⟨rfl, hb1⟩)
        | (go_at_call 16; (with_reducible refine (HA.out _).mono ?_); rintro e w2 ⟨rfl, hb2⟩))
      all_goals
        have HB1 : Below w.heap.size w w1 := (Below.refl _ w).drew.trans hb1
        have HB2 : Below w.heap.size w w2 := HB1.trans (hb2.mono HB1.size)
        clear hb1 HB1 hb2
        go_wp2
        go_region_held3 (fun _ => True) (exact trivial) (first
          | (go_at_call 45; (with_reducible refine (H1.out _).mono ?_); rintro e w3 ⟨rfl, hb3⟩))
        all_goals
          have HB3 : Below w.heap.size w w3 := HB2.drew.trans (hb3.mono HB2.size)
          go_wp2
          go_returns
          refine ⟨?_, HB3⟩
          show _ = _
          unfold whoA
          rw [← HP.out, ← Hn.out]
          rfl
  · have hp := fun w => refPart_bad n d.toNat w (by omega)
    have HA := Lib.hid hp; clear hp
    have hP : P = false := by rw [HP.out]; unfold isPart; rw [← Hn.out, decide_eq_false h4]; simp
    subst hP
    by_cases hm1 : 1 ≤ m
    · have hp := fun w => refGroup_ok m w hm1 (by omega)
      have HC := Lib.hid hp; clear hp
      have heg := HH.out hm1
      cases G
      all_goals
        go_enter Try.func27, Try.ntmps27
        go_wp2
        go_region_held3 (fun _ => True) (exact trivial) (first
          | (go_at_call 45; (with_reducible refine (H1.out _).mono ?_); rintro e w1 ⟨rfl, hb1⟩)
          | (go_at_call 16; (with_reducible refine (HA.out _).mono ?_); rintro e w2 ⟨rfl, rfl⟩))
        all_goals
          have HB1 : Below w.heap.size w w1 := (Below.refl _ w).drew.trans hb1
          have HB2 : Below w.heap.size w w1 := HB1
          clear hb1 HB1
          go_wp2_with (first
            | (go_at_call 45; (with_reducible refine (H2.out _).mono ?_); rintro e w3 ⟨rfl, hb3⟩; (have HB2 := HB2.trans (hb3.mono HB2.size)); clear hb3)
            | (go_at_call 18; (with_reducible refine (HC.out _).mono ?_); rintro e w4 ⟨rfl, hb4⟩; (have HB2 := HB2.trans (hb4.mono HB2.size)); clear hb4))
          go_returns
          refine ⟨?_, HB2⟩
          show _ = _
          unfold whoA
          rw [← HP.out, ← HG.out, ← Hm.out]
          rfl
    · have hp := fun w => refGroup_bad m w (by omega)
      have HC := Lib.hid hp; clear hp
      have hG : G = false := by rw [HG.out]; unfold isGroup; rw [← Hm.out, decide_eq_false hm1]; simp
      subst hG
      go_enter Try.func27, Try.ntmps27
      go_wp2
      go_region_held3 (fun _ => True) (exact trivial) (first
        | (go_at_call 45; (with_reducible refine (H1.out _).mono ?_); rintro e w1 ⟨rfl, hb1⟩)
        | (go_at_call 16; (with_reducible refine (HA.out _).mono ?_); rintro e w2 ⟨rfl, rfl⟩))
      all_goals
        have HB1 : Below w.heap.size w w1 := (Below.refl _ w).drew.trans hb1
        have HB2 : Below w.heap.size w w1 := HB1
        clear hb1 HB1
        go_wp2_with (first
          | (go_at_call 45; (with_reducible refine (H2.out _).mono ?_); rintro e w3 ⟨rfl, hb3⟩; (have HB2 := HB2.trans (hb3.mono HB2.size)); clear hb3)
          | (go_at_call 18; (with_reducible refine (HC.out _).mono ?_); rintro e w4 ⟨rfl, rfl⟩))
        go_returns
        refine ⟨?_, HB2⟩
        show _ = _
        unfold whoA
        rw [← HP.out, ← HG.out]
        rfl
end Go.Proofs.Ytechdnkkchhaaaa
