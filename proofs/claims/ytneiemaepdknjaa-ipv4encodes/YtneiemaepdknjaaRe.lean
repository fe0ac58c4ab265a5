/- Contracts of the document's head and Encode: a packet's bytes. -/
import Derived.Test.YtneiemaepdknjaaIp
import Derived.Test.YtneiemaepdknjaaBiRef
import Derived.Test.YtneiemaepdknjaaEc
namespace Go.Proofs.Ytneiemaepdknjaa
open Go.RowKit Go.Proofs.PitotIp
open Go.Proofs.PitotAddr (hi lo)
open Go.Proofs.Ytneiemaepdknjaa.Bi (lies_lt lies_cell lies_frozen lies_alloc)

theorem be1 (n : Nat) : PitotMath.be 1 n = [lo n] := by rw [Bi.be_cons 0 n]; simp [PitotMath.be, lo]
theorem be2 (n : Nat) : PitotMath.be 2 n = [hi n, lo n] := by rw [Bi.be_cons 1 n, Bi.be_cons 0 n]; simp [PitotMath.be, lo, hi]

abbrev NumIs (n : Int) (k : Int) (B : ByteArray) : Prop := ∀ w, Calls Try.prog 29 #[.int .i64 n, .int .i64 k] w fun e w' => e = .returned (.string B) ∧ Below w.heap.size w w'
theorem num_one (n : Nat) (h : n < 65536) : NumIs n 1 ⟨#[lo n]⟩ := fun w => by
  have := Bi.num_any n 1 w (by omega) (by omega)
  rw [be1] at this
  exact this
theorem num_two (n : Nat) (h : n < 65536) : NumIs n 2 ⟨#[hi n, lo n]⟩ := fun w => by
  have := Bi.num_any n 2 w (by omega) (by omega)
  rw [be2] at this
  exact this

set_option maxRecDepth 100000 in
set_option maxHeartbeats 4000000 in
theorem refHead_core (id off ttl pr sum : Int) (m : Bool) (A B s : ByteArray) (w : World) (N0 N1 N2 N3 N4 N5 R : ByteArray) (part : Int)
    (hp : part = if m = true then off + 8192 else off) (ho : 0 ≤ off) (ho2 : off ≤ 8191) (hs : s.size ≤ 65515)
    (H0 : NumIs (20 + s.size) 2 N0) (H1 : NumIs id 2 N1) (H2 : NumIs part 2 N2) (H3 : NumIs ttl 1 N3) (H4 : NumIs pr 1 N4) (H5 : NumIs sum 2 N5)
    (z0 : N0.size = 2) (z1 : N1.size = 2) (z2 : N2.size = 2) (z3 : N3.size = 1) (z4 : N4.size = 1) (z5 : N5.size = 2) (zA : A.size = 4) (zB : B.size = 4)
    (hR : (⟨#[69, 0]⟩ : ByteArray) ++ N0 ++ N1 ++ N2 ++ N3 ++ N4 ++ N5 ++ A ++ B = R) :
    Calls Try.prog 19 #[rp id m off ttl pr A B s, .int .i64 sum] w fun e w' => e = .returned (.string R) ∧ Below w.heap.size w w' := by
  have H0 := Lib.hid H0; have H1 := Lib.hid H1; have H2 := Lib.hid H2; have H3 := Lib.hid H3; have H4 := Lib.hid H4; have H5 := Lib.hid H5
  have HR := Lib.hid hR
  clear hR
  have zc : (⟨#[69, 0]⟩ : ByteArray).size = 2 := rfl
  have L0 : Hid ((w.alloc (rpC id m off ttl pr A B s)).heap[w.heap.size]? = some (rpC id m off ttl pr A B s)) := heap_alloc_new w _
  have k0 : Hid (Below w.heap.size w (w.alloc (rpC id m off ttl pr A B s))) := (Below.refl _ w).alloc (Nat.le_refl _) _
  have hw : IntKind.i64.wrap (20 + (s.size : Int)) = 20 + (s.size : Int) := IntWalk.i64_in _ (by omega)
  cases m
  · simp only [Bool.false_eq_true, if_false] at hp
    have hp' := hp.symm
    subst hp'
    clear hp
    go_enter Try.func19, Try.ntmps19
    go_upto_region 4 with fail
    generalize w.alloc (rpC id false off ttl pr A B s) = X at L0 k0 ⊢
    have L0 : Hid (X.drew.heap[w.heap.size]? = some (rpC id false off ttl pr A B s)) := L0.out
    have k0 : Hid (Below w.heap.size w X.drew) := k0.out.drew
    go_region_held3 (fun w' => w'.cell? ⟨w.heap.size, 0, none⟩ = some (.int .i64 id) ∧ w'.cell? ⟨w.heap.size, 1, none⟩ = some (.bool false) ∧ w'.cell? ⟨w.heap.size, 2, none⟩ = some (.int .i64 off) ∧ w'.cell? ⟨w.heap.size, 3, none⟩ = some (.int .i64 ttl) ∧ w'.cell? ⟨w.heap.size, 4, none⟩ = some (.int .i64 pr) ∧ w'.cell? ⟨w.heap.size, 5, none⟩ = some (.string A) ∧ w'.cell? ⟨w.heap.size, 6, none⟩ = some (.string B) ∧ w'.cell? ⟨w.heap.size, 7, none⟩ = some (.string s))
      (with_reducible exact cells8 L0.out)
      (first
        | (go_at_call 29; (with_reducible refine (H0.out _).mono ?_); rintro r w0 ⟨rfl, hb⟩
           (have L0 : Hid (w0.heap[w.heap.size]? = some (rpC id false off ttl pr A B s)) := lies_below L0.out hb (lies_lt L0.out))
           (have k0 : Hid (Below w.heap.size w w0) := k0.out.trans (hb.mono k0.out.size))
           (clear hb))
        | (go_at_call 29; (with_reducible refine (H1.out _).mono ?_); rintro r w1 ⟨rfl, hb⟩
           (have L0 : Hid (w1.heap[w.heap.size]? = some (rpC id false off ttl pr A B s)) := lies_below L0.out hb (lies_lt L0.out))
           (have k0 : Hid (Below w.heap.size w w1) := k0.out.trans (hb.mono k0.out.size))
           (clear hb))
        | (go_at_call 29; (with_reducible refine (H2.out _).mono ?_); rintro r w2 ⟨rfl, hb⟩
           (have L0 : Hid (w2.heap[w.heap.size]? = some (rpC id false off ttl pr A B s)) := lies_below L0.out hb (lies_lt L0.out))
           (have k0 : Hid (Below w.heap.size w w2) := k0.out.trans (hb.mono k0.out.size))
           (clear hb))
        | (go_at_call 29; (with_reducible refine (H3.out _).mono ?_); rintro r w3 ⟨rfl, hb⟩
           (have L0 : Hid (w3.heap[w.heap.size]? = some (rpC id false off ttl pr A B s)) := lies_below L0.out hb (lies_lt L0.out))
           (have k0 : Hid (Below w.heap.size w w3) := k0.out.trans (hb.mono k0.out.size))
           (clear hb))
        | (go_at_call 29; (with_reducible refine (H4.out _).mono ?_); rintro r w4 ⟨rfl, hb⟩
           (have L0 : Hid (w4.heap[w.heap.size]? = some (rpC id false off ttl pr A B s)) := lies_below L0.out hb (lies_lt L0.out))
           (have k0 : Hid (Below w.heap.size w w4) := k0.out.trans (hb.mono k0.out.size))
           (clear hb))
        | (go_at_call 29; (with_reducible refine (H5.out _).mono ?_); rintro r w5 ⟨rfl, hb⟩
           (have L0 : Hid (w5.heap[w.heap.size]? = some (rpC id false off ttl pr A B s)) := lies_below L0.out hb (lies_lt L0.out))
           (have k0 : Hid (Below w.heap.size w w5) := k0.out.trans (hb.mono k0.out.size))
           (clear hb)))
    all_goals
      go_wp2
      go_returns
      refine ⟨?_, k0.out⟩
      rw [← HR.out]; rfl
  · simp only [if_true] at hp
    subst hp
    go_enter Try.func19, Try.ntmps19
    go_upto_region 4 with fail
    generalize w.alloc (rpC id true off ttl pr A B s) = X at L0 k0 ⊢
    have L0 : Hid (X.drew.heap[w.heap.size]? = some (rpC id true off ttl pr A B s)) := L0.out
    have k0 : Hid (Below w.heap.size w X.drew) := k0.out.drew
    go_region_held3 (fun w' => w'.cell? ⟨w.heap.size, 0, none⟩ = some (.int .i64 id) ∧ w'.cell? ⟨w.heap.size, 1, none⟩ = some (.bool true) ∧ w'.cell? ⟨w.heap.size, 2, none⟩ = some (.int .i64 off) ∧ w'.cell? ⟨w.heap.size, 3, none⟩ = some (.int .i64 ttl) ∧ w'.cell? ⟨w.heap.size, 4, none⟩ = some (.int .i64 pr) ∧ w'.cell? ⟨w.heap.size, 5, none⟩ = some (.string A) ∧ w'.cell? ⟨w.heap.size, 6, none⟩ = some (.string B) ∧ w'.cell? ⟨w.heap.size, 7, none⟩ = some (.string s))
      (with_reducible exact cells8 L0.out)
      (first
        | (go_at_call 29; (with_reducible refine (H0.out _).mono ?_); rintro r w0 ⟨rfl, hb⟩
           (have L0 : Hid (w0.heap[w.heap.size]? = some (rpC id true off ttl pr A B s)) := lies_below L0.out hb (lies_lt L0.out))
           (have k0 : Hid (Below w.heap.size w w0) := k0.out.trans (hb.mono k0.out.size))
           (clear hb))
        | (go_at_call 29; (with_reducible refine (H1.out _).mono ?_); rintro r w1 ⟨rfl, hb⟩
           (have L0 : Hid (w1.heap[w.heap.size]? = some (rpC id true off ttl pr A B s)) := lies_below L0.out hb (lies_lt L0.out))
           (have k0 : Hid (Below w.heap.size w w1) := k0.out.trans (hb.mono k0.out.size))
           (clear hb))
        | (go_at_call 29; (with_reducible refine (H2.out _).mono ?_); rintro r w2 ⟨rfl, hb⟩
           (have L0 : Hid (w2.heap[w.heap.size]? = some (rpC id true off ttl pr A B s)) := lies_below L0.out hb (lies_lt L0.out))
           (have k0 : Hid (Below w.heap.size w w2) := k0.out.trans (hb.mono k0.out.size))
           (clear hb))
        | (go_at_call 29; (with_reducible refine (H3.out _).mono ?_); rintro r w3 ⟨rfl, hb⟩
           (have L0 : Hid (w3.heap[w.heap.size]? = some (rpC id true off ttl pr A B s)) := lies_below L0.out hb (lies_lt L0.out))
           (have k0 : Hid (Below w.heap.size w w3) := k0.out.trans (hb.mono k0.out.size))
           (clear hb))
        | (go_at_call 29; (with_reducible refine (H4.out _).mono ?_); rintro r w4 ⟨rfl, hb⟩
           (have L0 : Hid (w4.heap[w.heap.size]? = some (rpC id true off ttl pr A B s)) := lies_below L0.out hb (lies_lt L0.out))
           (have k0 : Hid (Below w.heap.size w w4) := k0.out.trans (hb.mono k0.out.size))
           (clear hb))
        | (go_at_call 29; (with_reducible refine (H5.out _).mono ?_); rintro r w5 ⟨rfl, hb⟩
           (have L0 : Hid (w5.heap[w.heap.size]? = some (rpC id true off ttl pr A B s)) := lies_below L0.out hb (lies_lt L0.out))
           (have k0 : Hid (Below w.heap.size w w5) := k0.out.trans (hb.mono k0.out.size))
           (clear hb)))
    all_goals
      go_wp2
      go_returns
      refine ⟨?_, k0.out⟩
      rw [← HR.out]; rfl

theorem refHead_any (id : Nat) (m : Bool) (off ttl pr sum : Nat) (a b : Q4) (s : ByteArray) (h : MayBe id off ttl pr s) (hs : sum < 65536) (w : World) :
    Calls Try.prog 19 #[rp id m off ttl pr (ipB a) (ipB b) s, .int .i64 sum] w fun e w' => e = .returned (.string ⟨(head (20 + s.size) id (pt m off) ttl pr sum a b).list.toArray⟩) ∧ Below w.heap.size w w' := by
  have h1 := h.i
  have h2 := h.o
  have h3 := h.t
  have h4 := h.p
  have h5 := h.d
  have H0 : NumIs (20 + (s.size : Int)) 2 ⟨#[hi (20 + s.size), lo (20 + s.size)]⟩ := by have := num_two (20 + s.size) (by omega); rwa [show ((20 + s.size : Nat) : Int) = 20 + (s.size : Int) by omega] at this
  have hp : ((pt m off : Nat) : Int) = if m = true then (off : Int) + 8192 else off := by cases m <;> simp [pt]; omega
  refine refHead_core id off ttl pr sum m (ipB a) (ipB b) s w _ _ _ _ _ _ _ (pt m off) hp (by omega) (by omega) h5 H0 (num_two id h1) (num_two (pt m off) (by have := pt_lt m off h2; omega)) (num_one ttl (by omega)) (num_one pr (by omega)) (num_two sum hs) rfl rfl rfl rfl rfl rfl rfl rfl ?_
  apply ByteArray.ext
  rw [← Array.toList_inj]
  simp [head, H20.list, H20.front, H20.back, ipB]

set_option maxRecDepth 100000 in
set_option maxHeartbeats 4000000 in
theorem refenc_arg (id off ttl pr : Int) (m : Bool) (A B s : ByteArray) (w : World) (h : ¬ ((0 ≤ id ∧ id ≤ 65535) ∧ (0 ≤ off ∧ off ≤ 8191) ∧ (0 ≤ ttl ∧ ttl ≤ 255) ∧ (0 ≤ pr ∧ pr ≤ 255))) :
    Calls Try.prog 11 #[rp id m off ttl pr A B s] w fun e w' => e = .returned (.tuple #[.string ⟨#[]⟩, .int .i64 1]) ∧ Below w.heap.size w w' := by
  have h' : id < 0 ∨ (¬ id < 0 ∧ 65535 < id) ∨ (¬ id < 0 ∧ ¬ 65535 < id ∧ off < 0) ∨ (¬ id < 0 ∧ ¬ 65535 < id ∧ ¬ off < 0 ∧ 8191 < off) ∨ (¬ id < 0 ∧ ¬ 65535 < id ∧ ¬ off < 0 ∧ ¬ 8191 < off ∧ ttl < 0) ∨ (¬ id < 0 ∧ ¬ 65535 < id ∧ ¬ off < 0 ∧ ¬ 8191 < off ∧ ¬ ttl < 0 ∧ 255 < ttl) ∨ (¬ id < 0 ∧ ¬ 65535 < id ∧ ¬ off < 0 ∧ ¬ 8191 < off ∧ ¬ ttl < 0 ∧ ¬ 255 < ttl ∧ pr < 0) ∨ (¬ id < 0 ∧ ¬ 65535 < id ∧ ¬ off < 0 ∧ ¬ 8191 < off ∧ ¬ ttl < 0 ∧ ¬ 255 < ttl ∧ ¬ pr < 0 ∧ 255 < pr) := by omega
  clear h
  have k0 : Hid (Below w.heap.size w (w.alloc (rpC id m off ttl pr A B s))) := (Below.refl _ w).alloc (Nat.le_refl _) _
  rcases h' with h1 | ⟨h1, h2⟩ | ⟨h1, h2, h3⟩ | ⟨h1, h2, h3, h4⟩ | ⟨h1, h2, h3, h4, h5⟩ | ⟨h1, h2, h3, h4, h5, h6⟩ | ⟨h1, h2, h3, h4, h5, h6, h7⟩ | ⟨h1, h2, h3, h4, h5, h6, h7, h8⟩
  all_goals
    go_enter Try.func11, Try.ntmps11
    go_wp2
    go_returns
    exact ⟨rfl, k0.out⟩

set_option maxRecDepth 100000 in
set_option maxHeartbeats 4000000 in
theorem refenc_long (id off ttl pr : Nat) (m : Bool) (A B s : ByteArray) (w : World) (h1 : id < 65536) (h2 : off < 8192) (h3 : ttl < 256) (h4 : pr < 256) (hs : 65515 < s.size) (hm : s.size ≤ 9223372036854775807) :
    Calls Try.prog 11 #[rp id m off ttl pr A B s] w fun e w' => e = .returned (.tuple #[.string ⟨#[]⟩, .int .i64 11]) ∧ Below w.heap.size w w' := by
  have k0 : Hid (Below w.heap.size w (w.alloc (rpC id m off ttl pr A B s))) := (Below.refl _ w).alloc (Nat.le_refl _) _
  go_enter Try.func11, Try.ntmps11
  go_wp2
  go_returns
  exact ⟨rfl, k0.out⟩

set_option maxRecDepth 100000 in
set_option maxHeartbeats 4000000 in
theorem refenc_ok (id : Nat) (m : Bool) (off ttl pr : Nat) (a b : Q4) (s : ByteArray) (w : World) (h : MayBe id off ttl pr s) :
    Calls Try.prog 11 #[rp id m off ttl pr (ipB a) (ipB b) s] w fun e w' => e = .returned (.tuple #[.string (outB id m off ttl pr a b s), .int .i64 0]) ∧ Below w.heap.size w w' := by
  obtain ⟨R, HR⟩ : ∃ R, Hid (R = outB id m off ttl pr a b s) := ⟨_, rfl⟩
  rw [← HR.out]
  obtain ⟨S, HS⟩ : ∃ S, Hid (S = (head (20 + s.size) id (pt m off) ttl pr 0 a b).sum) := ⟨_, rfl⟩
  have hS : S < 65536 := by rw [HS.out]; exact sum_lt _
  obtain ⟨B0, HB0⟩ : ∃ B : ByteArray, Hid (B = ⟨(head (20 + s.size) id (pt m off) ttl pr 0 a b).list.toArray⟩) := ⟨_, rfl⟩
  obtain ⟨B1, HB1⟩ : ∃ B : ByteArray, Hid (B = ⟨(head (20 + s.size) id (pt m off) ttl pr S a b).list.toArray⟩) := ⟨_, rfl⟩
  have T1 := fun w => refHead_any id m off ttl pr 0 a b s h (by omega) w
  rw [← HB0.out] at T1
  have T2 := fun w => refHead_any id m off ttl pr S a b s h hS w
  rw [← HB1.out] at T2
  have z0 : B0.size = 20 := by rw [HB0.out]; rfl
  have z1 : B1.size = 20 := by rw [HB1.out]; rfl
  have TO : ∀ w, Calls Try.prog 20 #[.string B0] w fun e w' => e = .returned (.int .i64 S) ∧ Below w.heap.size w w' := fun w => by
    have := Bi.refOnes_any B0 w (by omega)
    rw [show PitotMath.ones B0.data.toList = S by rw [HB0.out, HS.out]; rfl] at this
    exact this
  have HF : Hid (B1 ++ s = R) := by
    show _ = _
    rw [HB1.out, HR.out, HS.out]
    apply ByteArray.ext
    rw [← Array.toList_inj]
    simp [outB, PitotIp.bytes, headOk]
  rw [show ((0 : Nat) : Int) = 0 from rfl] at T1
  obtain ⟨h1, h2, h3, h4, h5⟩ := h
  generalize ipB a = A at T1 T2 ⊢
  generalize ipB b = B at T1 T2 ⊢
  have T1 := Lib.hid T1; have T2 := Lib.hid T2; have TO := Lib.hid TO
  have L0 : Hid ((w.alloc (rpC id m off ttl pr A B s)).heap[w.heap.size]? = some (rpC id m off ttl pr A B s)) := heap_alloc_new w _
  have k0 : Hid (Below w.heap.size w (w.alloc (rpC id m off ttl pr A B s))) := (Below.refl _ w).alloc (Nat.le_refl _) _
  go_enter Try.func11, Try.ntmps11
  go_upto_region 5 with fail
  have hc : ¬ 9223372036854775807 < B1.size + s.size := by omega
  clear z1 z0
  generalize w.alloc (rpC id m off ttl pr A B s) = X at L0 k0 ⊢
  have L0 : Hid (X.drew.heap[w.heap.size]? = some (rpC id m off ttl pr A B s)) := L0.out
  have k0 : Hid (Below w.heap.size w X.drew) := k0.out.drew
  go_region_held3 (fun w' => w'.cell? ⟨w.heap.size, 0, none⟩ = some (.int .i64 id) ∧ w'.cell? ⟨w.heap.size, 1, none⟩ = some (.bool m) ∧ w'.cell? ⟨w.heap.size, 2, none⟩ = some (.int .i64 off) ∧ w'.cell? ⟨w.heap.size, 3, none⟩ = some (.int .i64 ttl) ∧ w'.cell? ⟨w.heap.size, 4, none⟩ = some (.int .i64 pr) ∧ w'.cell? ⟨w.heap.size, 5, none⟩ = some (.string A) ∧ w'.cell? ⟨w.heap.size, 6, none⟩ = some (.string B) ∧ w'.cell? ⟨w.heap.size, 7, none⟩ = some (.string s))
    (with_reducible exact cells8 L0.out)
    (first
      | (go_at_call 19; (with_reducible refine (T1.out _).mono ?_); rintro r w1 ⟨rfl, hb⟩
         (have L0 : Hid (w1.heap[w.heap.size]? = some (rpC id m off ttl pr A B s)) := lies_below L0.out hb (lies_lt L0.out))
         (have k0 : Hid (Below w.heap.size w w1) := k0.out.trans (hb.mono k0.out.size))
         (clear hb))
      | (go_at_call 20; (with_reducible refine (TO.out _).mono ?_); rintro r w2 ⟨rfl, hb⟩
         (have L0 : Hid (w2.heap[w.heap.size]? = some (rpC id m off ttl pr A B s)) := lies_below L0.out hb (lies_lt L0.out))
         (have k0 : Hid (Below w.heap.size w w2) := k0.out.trans (hb.mono k0.out.size))
         (clear hb))
      | (go_at_call 19; (with_reducible refine (T2.out _).mono ?_); rintro r w3 ⟨rfl, hb⟩
         (have L0 : Hid (w3.heap[w.heap.size]? = some (rpC id m off ttl pr A B s)) := lies_below L0.out hb (lies_lt L0.out))
         (have k0 : Hid (Below w.heap.size w w3) := k0.out.trans (hb.mono k0.out.size))
         (clear hb)))
  all_goals
    go_wp2
    go_returns
    refine ⟨?_, k0.out⟩
    show Ending.returned (.tuple #[.string (B1 ++ s), .int .i64 0]) = _
    rw [HF.out]

/-- Both Encodes answer the same. -/
theorem enc_both (id : Int) (m : Bool) (off ttl pr : Int) (a b : Q4) (s : ByteArray) (hs : s.size ≤ 9223372036854775807) :
    ∃ (S : ByteArray) (e : Int), (∀ w, Calls Try.prog 10 #[pk id m off ttl pr a b s] w fun r w' => r = .returned (.tuple #[.string S, .int .i64 e]) ∧ Below w.heap.size w w') ∧
      (∀ w, Calls Try.prog 11 #[rp id m off ttl pr (ipB a) (ipB b) s] w fun r w' => r = .returned (.tuple #[.string S, .int .i64 e]) ∧ Below w.heap.size w w') := by
  by_cases h : (0 ≤ id ∧ id ≤ 65535) ∧ (0 ≤ off ∧ off ≤ 8191) ∧ (0 ≤ ttl ∧ ttl ≤ 255) ∧ (0 ≤ pr ∧ pr ≤ 255)
  · obtain ⟨⟨h1, h2⟩, ⟨h3, h4⟩, ⟨h5, h6⟩, ⟨h7, h8⟩⟩ := h
    obtain ⟨i, rfl⟩ := Int.eq_ofNat_of_zero_le h1
    obtain ⟨o, rfl⟩ := Int.eq_ofNat_of_zero_le h3
    obtain ⟨t, rfl⟩ := Int.eq_ofNat_of_zero_le h5
    obtain ⟨p, rfl⟩ := Int.eq_ofNat_of_zero_le h7
    by_cases hl : s.size ≤ 65515
    · have hm : MayBe i o t p s := ⟨by omega, by omega, by omega, by omega, hl⟩
      exact ⟨_, _, fun w => encode_ok i m o t p a b s w hm, fun w => refenc_ok i m o t p a b s w hm⟩
    · exact ⟨_, _, fun w => encode_long i m o t p a b s w (by omega) (by omega) (by omega) (by omega) (by omega) hs, fun w => refenc_long i o t p m _ _ s w (by omega) (by omega) (by omega) (by omega) (by omega) hs⟩
  · exact ⟨_, _, fun w => encode_arg id m off ttl pr a b s w h, fun w => refenc_arg id off ttl pr m _ _ s w h⟩
end Go.Proofs.Ytneiemaepdknjaa
