/- Contracts of the law's Plain: a packet as the document's answer has it. -/
import Derived.Test.YtiedfdnjnjohdaaIp
import Derived.Test.YtiedfdnjnjohdaaRh
import Derived.Test.YtiedfdnjnjohdaaEq
import Derived.Deep.Cut
namespace Go.Proofs.Ytiedfdnjnjohdaa
open Go.RowKit Go.Proofs.PitotIp
open Go.Proofs.Ytiedfdnjnjohdaa.Bi (lies_lt lies_cell lies_frozen lies_alloc)

abbrev rpz : Obj := .cells #[.int .i64 0, .bool false, .int .i64 0, .int .i64 0, .int .i64 0, .string ⟨#[]⟩, .string ⟨#[]⟩, .string ⟨#[]⟩] 39
abbrev rp0 : Value := .agg #[.int .i64 0, .bool false, .int .i64 0, .int .i64 0, .int .i64 0, .string ⟨#[]⟩, .string ⟨#[]⟩, .string ⟨#[]⟩]

/-- What Plain holds: the packet, its result's cells. -/
structure Pl (w X : World) (P : Obj) : Prop where
  lp : X.heap[w.heap.size]? = some P
  lr : X.heap[w.heap.size + 1]? = some rpz
  lb : Below w.heap.size w X
theorem Pl.below {w X Y : World} {cs : Array Value} {t : TypeId} (q : Pl w X (.cells cs t)) (hb : Below X.heap.size X Y) : Pl w Y (.cells cs t) :=
  ⟨lies_below q.lp hb (lies_lt q.lp), lies_below q.lr hb (lies_lt q.lr), q.lb.trans (hb.mono q.lb.size)⟩
theorem Pl.alloc {w X : World} {cs : Array Value} {t : TypeId} (q : Pl w X (.cells cs t)) (o : Obj) : Pl w (X.alloc o) (.cells cs t) :=
  ⟨lies_alloc q.lp o, lies_alloc q.lr o, q.lb.alloc q.lb.size o⟩
theorem Pl.drew {w X : World} {P : Obj} (q : Pl w X P) : Pl w X.drew P := ⟨q.lp, q.lr, q.lb.drew⟩

theorem pl_store {w W : World} {cs : Array Value} {t : TypeId} {gx : Nat} (LO : W.heap[gx]? = some rpz) (q : Pl w W (.cells cs t)) (hg : w.heap.size + 1 < gx) (y0 y1 y2 y3 y4 y5 y6 y7 : Value) :
    ((((((((W.setCell ⟨gx, 0, none⟩ y0).setCell ⟨gx, 1, none⟩ y1).setCell ⟨gx, 2, none⟩ y2).setCell ⟨gx, 3, none⟩ y3).setCell ⟨gx, 4, none⟩ y4).setCell ⟨gx, 5, none⟩ y5).setCell ⟨gx, 6, none⟩ y6).setCell ⟨gx, 7, none⟩ y7).heap[gx]? = some (.cells #[y0, y1, y2, y3, y4, y5, y6, y7] 39) ∧ Pl w ((((((((W.setCell ⟨gx, 0, none⟩ y0).setCell ⟨gx, 1, none⟩ y1).setCell ⟨gx, 2, none⟩ y2).setCell ⟨gx, 3, none⟩ y3).setCell ⟨gx, 4, none⟩ y4).setCell ⟨gx, 5, none⟩ y5).setCell ⟨gx, 6, none⟩ y6).setCell ⟨gx, 7, none⟩ y7) (.cells cs t) := by
  have e : ∀ {V : World} (k : Nat) (v : Value), Pl w V (.cells cs t) → Pl w (V.setCell ⟨gx, k, none⟩ v) (.cells cs t) := fun {V} k v q => ⟨(Below.heap_setCell V _ v _ (by show w.heap.size ≠ gx; omega)).trans q.lp, (Below.heap_setCell V _ v _ (by show w.heap.size + 1 ≠ gx; omega)).trans q.lr, q.lb.setCell (show w.heap.size ≤ (⟨gx, k, none⟩ : Addr).block from by show w.heap.size ≤ gx; omega) v⟩
  exact ⟨(read_8 LO).2.2.2.2.2.2.2.2, e _ _ (e _ _ (e _ _ (e _ _ (e _ _ (e _ _ (e _ _ (e _ _ (q))))))))⟩

set_option maxRecDepth 100000 in
set_option maxHeartbeats 4000000 in
theorem plain_false (id : Int) (m : Bool) (off ttl pr : Int) (a b : Q4) (s : ByteArray) (w : World) :
    Calls Try.prog 16 #[pk id m off ttl pr a b s, .bool false] w fun e w' => e = .returned (rp id m off ttl pr (ipB a) (ipB b) s) ∧ Below w.heap.size w w' := by
  have HA := ip_any a
  have HB := ip_any b
  obtain ⟨A, HAA⟩ : ∃ A, Hid (A = ipB a) := ⟨_, rfl⟩
  obtain ⟨B, HBB⟩ : ∃ A, Hid (A = ipB b) := ⟨_, rfl⟩
  rw [← HAA.out] at HA
  rw [← HBB.out] at HB
  have HA := Lib.hid HA
  have HB := Lib.hid HB
  have P0 : Pl w ((w.alloc (pkC id m off ttl pr a b s)).alloc rpz) (pkC id m off ttl pr a b s) := by
    refine ⟨lies_alloc (heap_alloc_new w _) _, ?_, ((Below.refl _ w).alloc (Nat.le_refl _) _).alloc (by simp) _⟩
    have := heap_alloc_new (w.alloc (pkC id m off ttl pr a b s)) rpz
    simpa using this
  go_enter Try.func16, Try.ntmps16
  go_upto_region 1 with fail
  generalize (w.alloc (pkC id m off ttl pr a b s)).alloc rpz = X at P0 ⊢
  have NX0 : Hid (w.heap.size + 1 < X.heap.size) := lies_lt P0.lr
  have PD := Lib.hid P0.drew
  have PA : Hid (Pl w (X.alloc rpz).drew (pkC id m off ttl pr a b s)) := (P0.alloc rpz).drew
  have LX : Hid ((X.alloc rpz).drew.heap[X.heap.size]? = some rpz) := heap_alloc_new X rpz
  have PF : Hid (∀ o, (X.alloc o).drew.heap[w.heap.size]? = some (pkC id m off ttl pr a b s)) := fun o => lies_alloc P0.lp o
  clear P0
  go_cut [5] from 6 (fun s5 wc => ∃ gx, s5 = .pointer (some ⟨gx, 0, none⟩) ∧ w.heap.size + 1 < gx ∧ wc.heap[gx]? = some (rpC id m off ttl pr A B s) ∧ Pl w wc (pkC id m off ttl pr a b s))
  case first =>
    go_region_held3 (fun w' => w'.cell? ⟨w.heap.size, 0, none⟩ = some (.int .i64 id) ∧ w'.cell? ⟨w.heap.size, 1, none⟩ = some (.bool m) ∧ w'.cell? ⟨w.heap.size, 2, none⟩ = some (.int .i64 off) ∧ w'.cell? ⟨w.heap.size, 3, none⟩ = some (.int .i64 ttl) ∧ w'.cell? ⟨w.heap.size, 4, none⟩ = some (.int .i64 pr) ∧ w'.cell? ⟨w.heap.size, 5, none⟩ = some (.int .u8 a.a.toNat) ∧ w'.cell? ⟨w.heap.size, 6, none⟩ = some (.int .u8 a.b.toNat) ∧ w'.cell? ⟨w.heap.size, 7, none⟩ = some (.int .u8 a.c.toNat) ∧ w'.cell? ⟨w.heap.size, 8, none⟩ = some (.int .u8 a.d.toNat) ∧ w'.cell? ⟨w.heap.size, 9, none⟩ = some (.int .u8 b.a.toNat) ∧ w'.cell? ⟨w.heap.size, 10, none⟩ = some (.int .u8 b.b.toNat) ∧ w'.cell? ⟨w.heap.size, 11, none⟩ = some (.int .u8 b.c.toNat) ∧ w'.cell? ⟨w.heap.size, 12, none⟩ = some (.int .u8 b.d.toNat) ∧ w'.cell? ⟨w.heap.size, 13, none⟩ = some (.string s))
      (first | (with_reducible exact cells14 PD.out.lp) | (with_reducible exact cells14 (PF.out _)) | (with_reducible exact cells14 P1.out.lp) | (with_reducible exact cells14 (P1A.out _)) | (with_reducible exact cells14 P2.out.lp) | (with_reducible exact cells14 (P2A.out _)) | (with_reducible exact cells14 (pl_store LO2.out P2.out NX0.out _ _ _ _ _ _ _ _).2.lp) | (with_reducible exact cells14 (pl_store LO2.out P2.out N1.out _ _ _ _ _ _ _ _).2.lp))
      (first
        | (go_at_call 25; (with_reducible refine (HA.out X.drew).mono ?_); rintro r w1 ⟨rfl, hb⟩
           (have P1 : Hid (Pl w w1 (pkC id m off ttl pr a b s)) := PD.out.below hb)
           (have P1A : Hid (∀ o, (w1.alloc o).heap[w.heap.size]? = some (pkC id m off ttl pr a b s)) := fun o => lies_alloc P1.out.lp o)
           (have N1 : Hid (w.heap.size + 1 < w1.heap.size) := lies_lt P1.out.lr)
           (clear hb))
        | (go_at_call 25; (with_reducible refine (HA.out (X.alloc rpz).drew).mono ?_); rintro r w1 ⟨rfl, hb⟩
           (have P1 : Hid (Pl w w1 (pkC id m off ttl pr a b s)) := PA.out.below hb)
           (have P1A : Hid (∀ o, (w1.alloc o).heap[w.heap.size]? = some (pkC id m off ttl pr a b s)) := fun o => lies_alloc P1.out.lp o)
           (have N1 : Hid (w.heap.size + 1 < w1.heap.size) := lies_lt P1.out.lr)
           (have LO : Hid (w1.heap[X.heap.size]? = some rpz) := lies_below LX.out hb (lies_lt LX.out))
           (clear hb))
        | (go_at_call 25; (with_reducible refine (HB.out w1).mono ?_); rintro r w2 ⟨rfl, hb⟩
           (have LO2 : Hid (w2.heap[X.heap.size]? = some rpz) := lies_below LO.out hb (lies_lt LO.out))
           (have P2 : Hid (Pl w w2 (pkC id m off ttl pr a b s)) := P1.out.below hb)
           (have P2A : Hid (∀ o, (w2.alloc o).heap[w.heap.size]? = some (pkC id m off ttl pr a b s)) := fun o => lies_alloc P2.out.lp o)
           (obtain ⟨o0, o1, o2, o3, o4, o5, o6, o7⟩ := cells8 LO2.out)
           (have f0 := lies_frozen LO2.out 0)
           (have f1 := lies_frozen LO2.out 1)
           (have f2 := lies_frozen LO2.out 2)
           (have f3 := lies_frozen LO2.out 3)
           (have f4 := lies_frozen LO2.out 4)
           (have f5 := lies_frozen LO2.out 5)
           (have f6 := lies_frozen LO2.out 6)
           (have f7 := lies_frozen LO2.out 7)
           (clear hb))
        | (go_at_call 25; (with_reducible refine (HB.out (w1.alloc rpz)).mono ?_); rintro r w2 ⟨rfl, hb⟩
           (have LO2 : Hid (w2.heap[w1.heap.size]? = some rpz) := lies_below (heap_alloc_new w1 rpz) hb (by simp))
           (have P2 : Hid (Pl w w2 (pkC id m off ttl pr a b s)) := (P1.out.alloc rpz).below hb)
           (have P2A : Hid (∀ o, (w2.alloc o).heap[w.heap.size]? = some (pkC id m off ttl pr a b s)) := fun o => lies_alloc P2.out.lp o)
           (obtain ⟨o0, o1, o2, o3, o4, o5, o6, o7⟩ := cells8 LO2.out)
           (have f0 := lies_frozen LO2.out 0)
           (have f1 := lies_frozen LO2.out 1)
           (have f2 := lies_frozen LO2.out 2)
           (have f3 := lies_frozen LO2.out 3)
           (have f4 := lies_frozen LO2.out 4)
           (have f5 := lies_frozen LO2.out 5)
           (have f6 := lies_frozen LO2.out 6)
           (have f7 := lies_frozen LO2.out 7)
           (clear hb))
        | (go_at_call 25; (with_reducible refine (HB.out w1).mono ?_); rintro r w2 ⟨rfl, hb⟩
           (have P2 : Hid (Pl w w2 (pkC id m off ttl pr a b s)) := P1.out.below hb)
           (have P2A : Hid (∀ o, (w2.alloc o).heap[w.heap.size]? = some (pkC id m off ttl pr a b s)) := fun o => lies_alloc P2.out.lp o)
           (clear hb)))
    all_goals
      go_wp2
      go_meet
      case rel =>
        first
        | exact ⟨_, rfl, NX0.out, pl_store LO2.out P2.out NX0.out _ _ _ _ _ _ _ _⟩
        | exact ⟨_, rfl, N1.out, pl_store LO2.out P2.out N1.out _ _ _ _ _ _ _ _⟩
        | exact ⟨_, rfl, lies_lt P2.out.lr, heap_alloc_new _ _, P2.out.alloc _⟩
  case rest =>
    obtain ⟨gx, rfl, NX, LY, PY⟩ := hcut
    clear PD PA LX PF NX0 HA HB
    have v1 : ¬ gx = w.heap.size := by omega
    have v2 : ¬ gx = w.heap.size + 1 := by omega
    obtain ⟨c0, c1, c2, c3, c4, c5, c6, c7, c8, c9, c10, c11, c12, c13⟩ := cells14 PY.lp
    obtain ⟨l0, l1, l2, l3, l4, l5, l6, l7⟩ := cells8 LY
    obtain ⟨q0, q1, q2, q3, q4, q5, q6, q7⟩ := cells8 PY.lr
    have fr0 := lies_frozen PY.lr 0
    have fr1 := lies_frozen PY.lr 1
    have fr2 := lies_frozen PY.lr 2
    have fr3 := lies_frozen PY.lr 3
    have fr4 := lies_frozen PY.lr 4
    have fr5 := lies_frozen PY.lr 5
    have fr6 := lies_frozen PY.lr 6
    have fr7 := lies_frozen PY.lr 7
    have PY := Lib.hid PY; have LY := Lib.hid LY
    go_wp2
    (try simp only [Exit.inBlock, Exit.then])
    obtain ⟨k0, k1, k2, k3, k4, k5, k6, k7, E8⟩ := read_8 (y0 := .int .i64 id) (y1 := .bool m) (y2 := .int .i64 off) (y3 := .int .i64 ttl) (y4 := .int .i64 pr) (y5 := .string A) (y6 := .string B) (y7 := .string s) PY.out.lr
    refine bodyPost_ret (by simp [results, Try.results16, go_sem, k0, k1, k2, k3, k4, k5, k6, k7]; try rfl) rfl ?_
    refine ⟨?_, below_8 PY.out.lb (Nat.le_succ _) _ _ _ _ _ _ _ _⟩
    first
    | (rw [← HAA.out, ← HBB.out]; done)
    | (rw [← HAA.out, ← HBB.out]; rfl)

set_option maxRecDepth 100000 in
set_option maxHeartbeats 4000000 in
theorem plain_true (id : Int) (m : Bool) (off ttl pr : Int) (a b : Q4) (s : ByteArray) (w : World) (ha : a = q0) (hb : b = q0) :
    Calls Try.prog 16 #[pk id m off ttl pr a b s, .bool true] w fun e w' => e = .returned (rp id m off ttl pr ⟨#[]⟩ ⟨#[]⟩ s) ∧ Below w.heap.size w w' := by
  have eqa : ∀ w, (Go.Op.equalIn 10000 29 (.agg #[.int .u8 a.a.toNat, .int .u8 a.b.toNat, .int .u8 a.c.toNat, .int .u8 a.d.toNat]) (.agg #[.int .u8 0, .int .u8 0, .int .u8 0, .int .u8 0])).run Try.prog w = .ok true w := fun w => by rw [ha]; exact zero10 w
  have eqb : ∀ w, (Go.Op.equalIn 10000 29 (.agg #[.int .u8 b.a.toNat, .int .u8 b.b.toNat, .int .u8 b.c.toNat, .int .u8 b.d.toNat]) (.agg #[.int .u8 0, .int .u8 0, .int .u8 0, .int .u8 0])).run Try.prog w = .ok true w := fun w => by rw [hb]; exact zero10 w
  clear ha hb
  have HA := ip_any a
  have HB := ip_any b
  obtain ⟨A, HAA⟩ : ∃ A, Hid (A = ipB a) := ⟨_, rfl⟩
  obtain ⟨B, HBB⟩ : ∃ A, Hid (A = ipB b) := ⟨_, rfl⟩
  rw [← HAA.out] at HA
  rw [← HBB.out] at HB
  have HA := Lib.hid HA
  have HB := Lib.hid HB
  have P0 : Pl w ((w.alloc (pkC id m off ttl pr a b s)).alloc rpz) (pkC id m off ttl pr a b s) := by
    refine ⟨lies_alloc (heap_alloc_new w _) _, ?_, ((Below.refl _ w).alloc (Nat.le_refl _) _).alloc (by simp) _⟩
    have := heap_alloc_new (w.alloc (pkC id m off ttl pr a b s)) rpz
    simpa using this
  go_enter Try.func16, Try.ntmps16
  go_upto_region 1 with fail
  generalize (w.alloc (pkC id m off ttl pr a b s)).alloc rpz = X at P0 ⊢
  have NX0 : Hid (w.heap.size + 1 < X.heap.size) := lies_lt P0.lr
  have PD := Lib.hid P0.drew
  have PA : Hid (Pl w (X.alloc rpz).drew (pkC id m off ttl pr a b s)) := (P0.alloc rpz).drew
  have LX : Hid ((X.alloc rpz).drew.heap[X.heap.size]? = some rpz) := heap_alloc_new X rpz
  have PF : Hid (∀ o, (X.alloc o).drew.heap[w.heap.size]? = some (pkC id m off ttl pr a b s)) := fun o => lies_alloc P0.lp o
  clear P0
  go_cut [5] from 6 (fun s5 wc => ∃ gx, s5 = .pointer (some ⟨gx, 0, none⟩) ∧ w.heap.size + 1 < gx ∧ wc.heap[gx]? = some (rpC id m off ttl pr A B s) ∧ Pl w wc (pkC id m off ttl pr a b s))
  case first =>
    go_region_held3 (fun w' => w'.cell? ⟨w.heap.size, 0, none⟩ = some (.int .i64 id) ∧ w'.cell? ⟨w.heap.size, 1, none⟩ = some (.bool m) ∧ w'.cell? ⟨w.heap.size, 2, none⟩ = some (.int .i64 off) ∧ w'.cell? ⟨w.heap.size, 3, none⟩ = some (.int .i64 ttl) ∧ w'.cell? ⟨w.heap.size, 4, none⟩ = some (.int .i64 pr) ∧ w'.cell? ⟨w.heap.size, 5, none⟩ = some (.int .u8 a.a.toNat) ∧ w'.cell? ⟨w.heap.size, 6, none⟩ = some (.int .u8 a.b.toNat) ∧ w'.cell? ⟨w.heap.size, 7, none⟩ = some (.int .u8 a.c.toNat) ∧ w'.cell? ⟨w.heap.size, 8, none⟩ = some (.int .u8 a.d.toNat) ∧ w'.cell? ⟨w.heap.size, 9, none⟩ = some (.int .u8 b.a.toNat) ∧ w'.cell? ⟨w.heap.size, 10, none⟩ = some (.int .u8 b.b.toNat) ∧ w'.cell? ⟨w.heap.size, 11, none⟩ = some (.int .u8 b.c.toNat) ∧ w'.cell? ⟨w.heap.size, 12, none⟩ = some (.int .u8 b.d.toNat) ∧ w'.cell? ⟨w.heap.size, 13, none⟩ = some (.string s))
      (first | (with_reducible exact cells14 PD.out.lp) | (with_reducible exact cells14 (PF.out _)) | (with_reducible exact cells14 P1.out.lp) | (with_reducible exact cells14 (P1A.out _)) | (with_reducible exact cells14 P2.out.lp) | (with_reducible exact cells14 (P2A.out _)) | (with_reducible exact cells14 (pl_store LO2.out P2.out NX0.out _ _ _ _ _ _ _ _).2.lp) | (with_reducible exact cells14 (pl_store LO2.out P2.out N1.out _ _ _ _ _ _ _ _).2.lp))
      (first
        | (go_at_call 25; (with_reducible refine (HA.out X.drew).mono ?_); rintro r w1 ⟨rfl, hb⟩
           (have P1 : Hid (Pl w w1 (pkC id m off ttl pr a b s)) := PD.out.below hb)
           (have P1A : Hid (∀ o, (w1.alloc o).heap[w.heap.size]? = some (pkC id m off ttl pr a b s)) := fun o => lies_alloc P1.out.lp o)
           (have N1 : Hid (w.heap.size + 1 < w1.heap.size) := lies_lt P1.out.lr)
           (clear hb))
        | (go_at_call 25; (with_reducible refine (HA.out (X.alloc rpz).drew).mono ?_); rintro r w1 ⟨rfl, hb⟩
           (have P1 : Hid (Pl w w1 (pkC id m off ttl pr a b s)) := PA.out.below hb)
           (have P1A : Hid (∀ o, (w1.alloc o).heap[w.heap.size]? = some (pkC id m off ttl pr a b s)) := fun o => lies_alloc P1.out.lp o)
           (have N1 : Hid (w.heap.size + 1 < w1.heap.size) := lies_lt P1.out.lr)
           (have LO : Hid (w1.heap[X.heap.size]? = some rpz) := lies_below LX.out hb (lies_lt LX.out))
           (clear hb))
        | (go_at_call 25; (with_reducible refine (HB.out w1).mono ?_); rintro r w2 ⟨rfl, hb⟩
           (have LO2 : Hid (w2.heap[X.heap.size]? = some rpz) := lies_below LO.out hb (lies_lt LO.out))
           (have P2 : Hid (Pl w w2 (pkC id m off ttl pr a b s)) := P1.out.below hb)
           (have P2A : Hid (∀ o, (w2.alloc o).heap[w.heap.size]? = some (pkC id m off ttl pr a b s)) := fun o => lies_alloc P2.out.lp o)
           (obtain ⟨o0, o1, o2, o3, o4, o5, o6, o7⟩ := cells8 LO2.out)
           (have f0 := lies_frozen LO2.out 0)
           (have f1 := lies_frozen LO2.out 1)
           (have f2 := lies_frozen LO2.out 2)
           (have f3 := lies_frozen LO2.out 3)
           (have f4 := lies_frozen LO2.out 4)
           (have f5 := lies_frozen LO2.out 5)
           (have f6 := lies_frozen LO2.out 6)
           (have f7 := lies_frozen LO2.out 7)
           (clear hb))
        | (go_at_call 25; (with_reducible refine (HB.out (w1.alloc rpz)).mono ?_); rintro r w2 ⟨rfl, hb⟩
           (have LO2 : Hid (w2.heap[w1.heap.size]? = some rpz) := lies_below (heap_alloc_new w1 rpz) hb (by simp))
           (have P2 : Hid (Pl w w2 (pkC id m off ttl pr a b s)) := (P1.out.alloc rpz).below hb)
           (have P2A : Hid (∀ o, (w2.alloc o).heap[w.heap.size]? = some (pkC id m off ttl pr a b s)) := fun o => lies_alloc P2.out.lp o)
           (obtain ⟨o0, o1, o2, o3, o4, o5, o6, o7⟩ := cells8 LO2.out)
           (have f0 := lies_frozen LO2.out 0)
           (have f1 := lies_frozen LO2.out 1)
           (have f2 := lies_frozen LO2.out 2)
           (have f3 := lies_frozen LO2.out 3)
           (have f4 := lies_frozen LO2.out 4)
           (have f5 := lies_frozen LO2.out 5)
           (have f6 := lies_frozen LO2.out 6)
           (have f7 := lies_frozen LO2.out 7)
           (clear hb))
        | (go_at_call 25; (with_reducible refine (HB.out w1).mono ?_); rintro r w2 ⟨rfl, hb⟩
           (have P2 : Hid (Pl w w2 (pkC id m off ttl pr a b s)) := P1.out.below hb)
           (have P2A : Hid (∀ o, (w2.alloc o).heap[w.heap.size]? = some (pkC id m off ttl pr a b s)) := fun o => lies_alloc P2.out.lp o)
           (clear hb)))
    all_goals
      go_wp2
      go_meet
      case rel =>
        first
        | exact ⟨_, rfl, NX0.out, pl_store LO2.out P2.out NX0.out _ _ _ _ _ _ _ _⟩
        | exact ⟨_, rfl, N1.out, pl_store LO2.out P2.out N1.out _ _ _ _ _ _ _ _⟩
        | exact ⟨_, rfl, lies_lt P2.out.lr, heap_alloc_new _ _, P2.out.alloc _⟩
  case rest =>
    obtain ⟨gx, rfl, NX, LY, PY⟩ := hcut
    clear PD PA LX PF NX0 HA HB
    have v1 : ¬ gx = w.heap.size := by omega
    have v2 : ¬ gx = w.heap.size + 1 := by omega
    obtain ⟨c0, c1, c2, c3, c4, c5, c6, c7, c8, c9, c10, c11, c12, c13⟩ := cells14 PY.lp
    obtain ⟨l0, l1, l2, l3, l4, l5, l6, l7⟩ := cells8 LY
    obtain ⟨q0, q1, q2, q3, q4, q5, q6, q7⟩ := cells8 PY.lr
    have fr0 := lies_frozen PY.lr 0
    have fr1 := lies_frozen PY.lr 1
    have fr2 := lies_frozen PY.lr 2
    have fr3 := lies_frozen PY.lr 3
    have fr4 := lies_frozen PY.lr 4
    have fr5 := lies_frozen PY.lr 5
    have fr6 := lies_frozen PY.lr 6
    have fr7 := lies_frozen PY.lr 7
    have g5 := lies_frozen LY 5
    have g6 := lies_frozen LY 6
    have PY := Lib.hid PY; have LY := Lib.hid LY
    go_wp2
    (try simp only [Exit.inBlock, Exit.then])
    have LR : ((wc.setCell ⟨gx, 5, none⟩ (.string ⟨#[]⟩)).setCell ⟨gx, 6, none⟩ (.string ⟨#[]⟩)).heap[w.heap.size + 1]? = some rpz := (Below.heap_setCell _ _ _ _ (by show w.heap.size + 1 ≠ gx; omega)).trans ((Below.heap_setCell _ _ _ _ (by show w.heap.size + 1 ≠ gx; omega)).trans PY.out.lr)
    have LB : Below w.heap.size w ((wc.setCell ⟨gx, 5, none⟩ (.string ⟨#[]⟩)).setCell ⟨gx, 6, none⟩ (.string ⟨#[]⟩)) := (PY.out.lb.setCell (show w.heap.size ≤ (⟨gx, 5, none⟩ : Addr).block from by show w.heap.size ≤ gx; omega) _).setCell (show w.heap.size ≤ (⟨gx, 6, none⟩ : Addr).block from by show w.heap.size ≤ gx; omega) _
    obtain ⟨k0, k1, k2, k3, k4, k5, k6, k7, E8⟩ := read_8 (y0 := .int .i64 id) (y1 := .bool m) (y2 := .int .i64 off) (y3 := .int .i64 ttl) (y4 := .int .i64 pr) (y5 := .string ⟨#[]⟩) (y6 := .string ⟨#[]⟩) (y7 := .string s) LR
    refine bodyPost_ret (by simp [results, Try.results16, go_sem, k0, k1, k2, k3, k4, k5, k6, k7]; try rfl) rfl ?_
    exact ⟨rfl, below_8 LB (Nat.le_succ _) _ _ _ _ _ _ _ _⟩

end Go.Proofs.Ytiedfdnjnjohdaa
