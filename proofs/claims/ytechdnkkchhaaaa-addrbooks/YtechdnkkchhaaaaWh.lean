/- Contracts of Whose: the program's and the document's. -/
import Derived.Test.YtechdnkkchhaaaaOf
namespace Go.Proofs.Ytechdnkkchhaaaa
open Go.RowKit Go.Proofs.PitotAddr

def isPart (a b c : UInt8) : Bool := a == 10 && decide (num b c ≤ 4095)
def isGroup (a b c d : UInt8) : Bool := a == 224 && b == 224 && decide (1 ≤ num c d)
/-- What Whose answers. -/
def whoA (a b c d : UInt8) : Value :=
  if isPart a b c = true then .tuple #[.int .i64 (num b c : Nat), .int .i64 d.toNat, .int .i64 0, .int .i64 0]
  else if isGroup a b c d = true then .tuple #[.int .i64 0, .int .i64 0, .int .i64 (num c d : Nat), .int .i64 0]
  else .tuple #[.int .i64 0, .int .i64 0, .int .i64 0, .int .i64 14]

abbrev ip (a b c d : UInt8) : Value := .agg #[.int .u8 a.toNat, .int .u8 b.toNat, .int .u8 c.toNat, .int .u8 d.toNat]

theorem lo_byte (d : UInt8) : lo d.toNat = d := by
  apply UInt8.toNat_inj.1; rw [lo_nat]; have := d.toNat_lt; omega
theorem part_eq (a b c d : UInt8) (n : Nat) (hn : n = num b c) (h4 : n ≤ 4095) : (10 == a && hi n == b && lo n == c && d == d) = isPart a b c := by
  unfold isPart
  rw [hn, hi_num, lo_num, ← hn, decide_eq_true h4, Bool.beq_comm (a := 10)]
  simp
theorem group_eq (a b c d : UInt8) (n : Nat) (hn : n = num c d) (h4 : 1 ≤ n) : (224 == a && 224 == b && hi n == c && lo n == d) = isGroup a b c d := by
  unfold isGroup
  rw [hn, hi_num, lo_num, ← hn, decide_eq_true h4, Bool.beq_comm (a := 224), Bool.beq_comm (a := 224)]
  simp
theorem number_same (h l : UInt8) (w : World) :
    Calls Try.prog 44 #[.int .u8 h.toNat, .int .u8 l.toNat] w fun e w' => e = .returned (.int .i64 (num h l : Nat)) ∧ w' = w := (number_any h l w).mono fun _ _ ⟨h1, h2⟩ => ⟨h1, h2.symm⟩

set_option maxRecDepth 100000 in
set_option maxHeartbeats 2000000 in
theorem whose_any (a b c d : UInt8) (w : World) :
    Calls Try.prog 26 #[ip a b c d] w fun r w' => Hid (r = .returned (whoA a b c d)) ∧ Below w.heap.size w w' := by
  have hd := d.toNat_lt
  have hn := num_lt b c
  have hm := num_lt c d
  obtain ⟨n, Hn⟩ : ∃ n, Hid (n = num b c) := ⟨_, rfl⟩
  obtain ⟨m, Hm⟩ : ∃ m, Hid (m = num c d) := ⟨_, rfl⟩
  have h1 := fun w => number_same b c w
  have h2 := fun w => number_same c d w
  rw [← Hn.out] at h1 hn
  rw [← Hm.out] at h2 hm
  have H1 := Lib.hid h1; clear h1
  have H2 := Lib.hid h2; clear h2
  obtain ⟨P, HP⟩ : ∃ P, Hid (P = isPart a b c) := ⟨_, rfl⟩
  obtain ⟨G, HG⟩ : ∃ G, Hid (G = isGroup a b c d) := ⟨_, rfl⟩
  have heq : n ≤ 4095 → ∀ w, (Go.Op.equalIn 10000 35 (.agg #[.int .u8 10, .int .u8 (hi n).toNat, .int .u8 (lo n).toNat, .int .u8 d.toNat]) (ip a b c d)).run Try.prog w = .ok P w := fun h4 w => by
    rw [eq4, HP.out, ← part_eq a b c d n Hn.out h4, int_beq, int_beq, int_beq, show (10 : Int) = ((10 : UInt8).toNat : Int) from rfl, int_beq]
  have heg : 1 ≤ m → ∀ w, (Go.Op.equalIn 10000 35 (.agg #[.int .u8 224, .int .u8 224, .int .u8 (hi m).toNat, .int .u8 (lo m).toNat]) (ip a b c d)).run Try.prog w = .ok G w := fun h4 w => by
    rw [eq4, HG.out, ← group_eq a b c d m Hm.out h4, int_beq, int_beq, show (224 : Int) = ((224 : UInt8).toNat : Int) from rfl, int_beq, int_beq]
  have HQ := Lib.hid heq; clear heq
  have HH := Lib.hid heg; clear heg
  have HW : ∀ nq, Hid (((w.alloc (.cells #[.int .u8 a.toNat, .int .u8 b.toNat, .int .u8 c.toNat, .int .u8 d.toNat] 35)).drewN nq).heap[w.heap.size]? = some (.cells #[.int .u8 a.toNat, .int .u8 b.toNat, .int .u8 c.toNat, .int .u8 d.toNat] 35)) ∧ Below w.heap.size w ((w.alloc (.cells #[.int .u8 a.toNat, .int .u8 b.toNat, .int .u8 c.toNat, .int .u8 d.toNat] 35)).drewN nq) :=
    fun nq => ⟨heap_alloc_new w _, below_drewN (below_new (Below.refl _ _) _) _⟩
  have HW := Lib.hid HW
  by_cases h4 : n ≤ 4095
  · have hp := fun w => part_ok n d.toNat w h4 (by omega)
    have HA := Lib.hid hp; clear hp
    have heq := HQ.out h4
    cases P
    · by_cases hm1 : 1 ≤ m
      · have hp := fun w => group_ok m w hm1 (by omega)
        have HC := Lib.hid hp; clear hp
        have heg := HH.out hm1
        cases G
        all_goals
          go_enter Try.func26, Try.ntmps26
          go_wp2
          go_quiet ((go_at_call 44; exact Calls.quiet_of_same (H1.out _)))
          obtain ⟨HL, HBW⟩ := HW.out nq
          generalize (w.alloc (.cells #[.int .u8 a.toNat, .int .u8 b.toNat, .int .u8 c.toNat, .int .u8 d.toNat] 35)).drewN nq = W at HL HBW ⊢
          have hWs := lies_lt HL.out
          have HWs := Lib.hid hWs; clear hWs
          go_wp2_with (first
            | (go_at_call 15; (with_reducible refine (HA.out _).mono ?_); rintro e w1 ⟨rfl, hb1⟩
               (have HL1 := Lib.hid (fun o => lies_alloc (lies_below HL.out hb1 HWs.out) o))
               (obtain ⟨k0, k1, k2, k3⟩ := forall_and4 (fun o => four (HL1.out o))))
            | (go_at_call 44; (with_reducible refine (H2.out _).mono ?_); rintro e w2 ⟨rfl, rfl⟩)
            | (go_at_call 17; (with_reducible refine (HC.out _).mono ?_); rintro e w3 ⟨rfl, hb3⟩
               (have L := fun o => four (lies_alloc (lies_below (HL1.out _) hb3 (lies_lt (HL1.out _))) o)); (obtain ⟨j0, j1, j2, j3⟩ := forall_and4 L)))
          go_returns
          refine ⟨?_, ?_⟩
          · show _ = _
            unfold whoA
            rw [← HP.out, ← HG.out, ← Hm.out]
            rfl
          · have h1 := HBW.trans (hb1.mono HBW.size)
            have h2 := below_new h1 (.cells #[.int .u8 10, .int .u8 (hi n).toNat, .int .u8 (lo n).toNat, .int .u8 d.toNat] 35)
            exact below_new (h2.trans (hb3.mono h2.size)) _
      · have hp := fun w => group_bad m w (by omega)
        have HC := Lib.hid hp; clear hp
        have hG : G = false := by rw [HG.out]; unfold isGroup; rw [← Hm.out, decide_eq_false hm1]; simp
        subst hG
        go_enter Try.func26, Try.ntmps26
        go_wp2
        go_quiet ((go_at_call 44; exact Calls.quiet_of_same (H1.out _)))
        obtain ⟨HL, HBW⟩ := HW.out nq
        generalize (w.alloc (.cells #[.int .u8 a.toNat, .int .u8 b.toNat, .int .u8 c.toNat, .int .u8 d.toNat] 35)).drewN nq = W at HL HBW ⊢
        have hWs := lies_lt HL.out
        have HWs := Lib.hid hWs; clear hWs
        go_wp2_with (first
          | (go_at_call 15; (with_reducible refine (HA.out _).mono ?_); rintro e w1 ⟨rfl, hb1⟩
             (have HL1 := Lib.hid (fun o => lies_alloc (lies_below HL.out hb1 HWs.out) o))
             (obtain ⟨k0, k1, k2, k3⟩ := forall_and4 (fun o => four (HL1.out o))))
          | (go_at_call 44; (with_reducible refine (H2.out _).mono ?_); rintro e w2 ⟨rfl, rfl⟩)
          | (go_at_call 17; (with_reducible refine (HC.out _).mono ?_); rintro e w3 ⟨rfl, hb3⟩))
        go_returns
        refine ⟨?_, ?_⟩
        · show _ = _
          unfold whoA
          rw [← HP.out, ← HG.out]
          rfl
        · have h1 := HBW.trans (hb1.mono HBW.size)
          have h2 := below_new h1 (.cells #[.int .u8 10, .int .u8 (hi n).toNat, .int .u8 (lo n).toNat, .int .u8 d.toNat] 35)
          exact below_new (h2.trans (hb3.mono h2.size)) _
    · go_enter Try.func26, Try.ntmps26
      go_wp2
      go_quiet ((go_at_call 44; exact Calls.quiet_of_same (H1.out _)))
      obtain ⟨HL, HBW⟩ := HW.out nq
      generalize (w.alloc (.cells #[.int .u8 a.toNat, .int .u8 b.toNat, .int .u8 c.toNat, .int .u8 d.toNat] 35)).drewN nq = W at HL HBW ⊢
      have hWs := lies_lt HL.out
      have HWs := Lib.hid hWs; clear hWs
      go_wp2_with (first
        | (go_at_call 15; (with_reducible refine (HA.out _).mono ?_); rintro e w1 ⟨rfl, hb1⟩; (have L := fun o => four (lies_alloc (lies_below HL.out hb1 HWs.out) o)); (obtain ⟨k0, k1, k2, k3⟩ := forall_and4 L)))
      go_returns
      refine ⟨?_, below_new (HBW.trans (hb1.mono HBW.size)) _⟩
      show _ = _
      unfold whoA
      rw [← HP.out, ← Hn.out]
      rfl
  · have hp := fun w => part_bad n d.toNat w (by omega)
    have HA := Lib.hid hp; clear hp
    have hP : P = false := by rw [HP.out]; unfold isPart; rw [← Hn.out, decide_eq_false h4]; simp
    subst hP
    by_cases hm1 : 1 ≤ m
    · have hp := fun w => group_ok m w hm1 (by omega)
      have HC := Lib.hid hp; clear hp
      have heg := HH.out hm1
      cases G
      all_goals
        go_enter Try.func26, Try.ntmps26
        go_wp2
        go_quiet ((go_at_call 44; exact Calls.quiet_of_same (H1.out _)))
        obtain ⟨HL, HBW⟩ := HW.out nq
        generalize (w.alloc (.cells #[.int .u8 a.toNat, .int .u8 b.toNat, .int .u8 c.toNat, .int .u8 d.toNat] 35)).drewN nq = W at HL HBW ⊢
        have hWs := lies_lt HL.out
        have HWs := Lib.hid hWs; clear hWs
        go_wp2_with (first
          | (go_at_call 15; (with_reducible refine (HA.out _).mono ?_); rintro e w1 ⟨rfl, hb1⟩
             (have HL1 := Lib.hid (fun o => lies_alloc (lies_below HL.out hb1 HWs.out) o))
             (obtain ⟨k0, k1, k2, k3⟩ := forall_and4 (fun o => four (HL1.out o))))
          | (go_at_call 44; (with_reducible refine (H2.out _).mono ?_); rintro e w2 ⟨rfl, rfl⟩)
          | (go_at_call 17; (with_reducible refine (HC.out _).mono ?_); rintro e w3 ⟨rfl, hb3⟩
             (have L := fun o => four (lies_alloc (lies_below (HL1.out _) hb3 (lies_lt (HL1.out _))) o)); (obtain ⟨j0, j1, j2, j3⟩ := forall_and4 L)))
        go_returns
        refine ⟨?_, ?_⟩
        · show _ = _
          unfold whoA
          rw [← HP.out, ← HG.out, ← Hm.out]
          rfl
        · have h1 := HBW.trans (hb1.mono HBW.size)
          have h2 := below_new h1 (.cells #[.int .u8 0, .int .u8 0, .int .u8 0, .int .u8 0] 35)
          exact below_new (h2.trans (hb3.mono h2.size)) _
    · have hp := fun w => group_bad m w (by omega)
      have HC := Lib.hid hp; clear hp
      have hG : G = false := by rw [HG.out]; unfold isGroup; rw [← Hm.out, decide_eq_false hm1]; simp
      subst hG
      go_enter Try.func26, Try.ntmps26
      go_wp2
      go_quiet ((go_at_call 44; exact Calls.quiet_of_same (H1.out _)))
      obtain ⟨HL, HBW⟩ := HW.out nq
      generalize (w.alloc (.cells #[.int .u8 a.toNat, .int .u8 b.toNat, .int .u8 c.toNat, .int .u8 d.toNat] 35)).drewN nq = W at HL HBW ⊢
      have hWs := lies_lt HL.out
      have HWs := Lib.hid hWs; clear hWs
      go_wp2_with (first
        | (go_at_call 15; (with_reducible refine (HA.out _).mono ?_); rintro e w1 ⟨rfl, hb1⟩
           (have HL1 := Lib.hid (fun o => lies_alloc (lies_below HL.out hb1 HWs.out) o))
           (obtain ⟨k0, k1, k2, k3⟩ := forall_and4 (fun o => four (HL1.out o))))
        | (go_at_call 44; (with_reducible refine (H2.out _).mono ?_); rintro e w2 ⟨rfl, rfl⟩)
        | (go_at_call 17; (with_reducible refine (HC.out _).mono ?_); rintro e w3 ⟨rfl, hb3⟩))
      go_returns
      refine ⟨?_, ?_⟩
      · show _ = _
        unfold whoA
        rw [← HP.out, ← HG.out]
        rfl
      · have h1 := HBW.trans (hb1.mono HBW.size)
        have h2 := below_new h1 (.cells #[.int .u8 0, .int .u8 0, .int .u8 0, .int .u8 0] 35)
        exact below_new (h2.trans (hb3.mono h2.size)) _
end Go.Proofs.Ytechdnkkchhaaaa
