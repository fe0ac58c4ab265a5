/- Contracts of writeHead: a head's bytes. -/
import Derived.Test.YtiedfdnjnjohdaaPa
import Derived.Deep.RegionHeld3
import Derived.Deep.Cut
import Derived.Handy
namespace Go.Proofs.Ytiedfdnjnjohdaa
open Go.RowKit Go.Proofs.PitotIp
open Go.Proofs.PitotAddr (hi lo)
open Go.Proofs.Ytiedfdnjnjohdaa.Bi (IntsAt WrAt bitsStep bits_any text_any lies_lt lies_cell lies_frozen lies_alloc)

section
variable {w w' : World} {g : Nat} {t : TypeId}
theorem lies_grown {cs : Array Value} {b : Nat} (h : w.heap[g]? = some (.cells cs t)) (hg : w.grownBy w' (some b)) (hne : g ≠ b) : w'.heap[g]? = some (.cells cs t) :=
  (hg.block g (lies_lt h) (by simpa using hne)).trans h
theorem lies_below {cs : Array Value} {n : Nat} (h : w.heap[g]? = some (.cells cs t)) (hb : Below n w w') (hl : g < n) : w'.heap[g]? = some (.cells cs t) := (hb.block g hl).trans h
end

/-- Bits, its two lists made ahead of it, in either order. -/
theorem bits_two (xs ns : List Int) (K K' : List UInt8) (hb : bitsStep (some K) xs ns = some K') (hK : K.length ≤ 900000) (hl : xs.length ≤ 1000000) (b n : Nat) (X : World) (h : WrAt X b n (some K)) :
    Calls Try.prog 35 #[.pointer (some ⟨b, 0, none⟩), .slice (some ⟨X.heap.size, 0, none⟩) xs.length xs.length, .slice (some ⟨X.heap.size + 1, 0, none⟩) ns.length ns.length]
      ((X.alloc (.cells (xs.map fun x => Value.int .i64 x).toArray 3)).alloc (.cells (ns.map fun x => Value.int .i64 x).toArray 3)).drew
      fun e w' => e = .returned (.tuple #[]) ∧ WrAt w' b (n + 1) (some K') ∧ X.grownBy w' (some b) := by
  have hbl : Below X.heap.size X ((X.alloc (.cells (xs.map fun x => Value.int .i64 x).toArray 3)).alloc (.cells (ns.map fun x => Value.int .i64 x).toArray 3)).drew :=
    (((Below.refl _ X).alloc (Nat.le_refl _) _).alloc (by simp) _).drew
  have hx : IntsAt ((X.alloc (.cells (xs.map fun x => Value.int .i64 x).toArray 3)).alloc (.cells (ns.map fun x => Value.int .i64 x).toArray 3)).drew (some ⟨X.heap.size, 0, none⟩) xs :=
    ints_lie (show ((X.alloc _).alloc _).heap[_]? = _ from lies_alloc (heap_alloc_new X _) _)
  have hy : IntsAt ((X.alloc (.cells (xs.map fun x => Value.int .i64 x).toArray 3)).alloc (.cells (ns.map fun x => Value.int .i64 x).toArray 3)).drew (some ⟨X.heap.size + 1, 0, none⟩) ns :=
    ints_lie (show ((X.alloc _).alloc _).heap[_]? = _ by have := heap_alloc_new (X.alloc (.cells (xs.map fun x => Value.int .i64 x).toArray 3)) (.cells (ns.map fun x => Value.int .i64 x).toArray 3); simpa using this)
  have h1 := bits_any b n (some K) _ _ xs.length ns.length xs ns _ (h.below hbl) hx hy hl (fun l e => by cases e; exact hK)
  rw [hb] at h1
  exact h1.mono fun e w' ⟨he, hw, hg⟩ => ⟨he, hw, Bi.grown_trans (Bi.grown_of_below hbl) hg⟩

theorem bits_two' (xs ns : List Int) (K K' : List UInt8) (hb : bitsStep (some K) xs ns = some K') (hK : K.length ≤ 900000) (hl : xs.length ≤ 1000000) (b n : Nat) (X : World) (h : WrAt X b n (some K)) :
    Calls Try.prog 35 #[.pointer (some ⟨b, 0, none⟩), .slice (some ⟨X.heap.size + 1, 0, none⟩) xs.length xs.length, .slice (some ⟨X.heap.size, 0, none⟩) ns.length ns.length]
      ((X.alloc (.cells (ns.map fun x => Value.int .i64 x).toArray 3)).alloc (.cells (xs.map fun x => Value.int .i64 x).toArray 3)).drew
      fun e w' => e = .returned (.tuple #[]) ∧ WrAt w' b (n + 1) (some K') ∧ X.grownBy w' (some b) := by
  have hbl : Below X.heap.size X ((X.alloc (.cells (ns.map fun x => Value.int .i64 x).toArray 3)).alloc (.cells (xs.map fun x => Value.int .i64 x).toArray 3)).drew :=
    (((Below.refl _ X).alloc (Nat.le_refl _) _).alloc (by simp) _).drew
  have hy : IntsAt ((X.alloc (.cells (ns.map fun x => Value.int .i64 x).toArray 3)).alloc (.cells (xs.map fun x => Value.int .i64 x).toArray 3)).drew (some ⟨X.heap.size, 0, none⟩) ns :=
    ints_lie (show ((X.alloc _).alloc _).heap[_]? = _ from lies_alloc (heap_alloc_new X _) _)
  have hx : IntsAt ((X.alloc (.cells (ns.map fun x => Value.int .i64 x).toArray 3)).alloc (.cells (xs.map fun x => Value.int .i64 x).toArray 3)).drew (some ⟨X.heap.size + 1, 0, none⟩) xs :=
    ints_lie (show ((X.alloc _).alloc _).heap[_]? = _ by have := heap_alloc_new (X.alloc (.cells (ns.map fun x => Value.int .i64 x).toArray 3)) (.cells (xs.map fun x => Value.int .i64 x).toArray 3); simpa using this)
  have h1 := bits_any b n (some K) _ _ xs.length ns.length xs ns _ (h.below hbl) hx hy hl (fun l e => by cases e; exact hK)
  rw [hb] at h1
  exact h1.mono fun e w' ⟨he, hw, hg⟩ => ⟨he, hw, Bi.grown_trans (Bi.grown_of_below hbl) hg⟩

/-- Text at a Writer of which it is known what was written. -/
theorem text_step (K K' : List UInt8) (s : ByteArray) (hK : K' = K ++ s.data.toList) (h1 : K.length ≤ 900000) (h2 : s.size ≤ 1000000) (b n : Nat) (w : World) (h : WrAt w b n (some K)) :
    Calls Try.prog 39 #[.pointer (some ⟨b, 0, none⟩), .string s] w fun e w' => e = .returned (.tuple #[]) ∧ WrAt w' b (n + 1) (some K') ∧ w.grownBy w' (some b) := by
  refine (text_any b n (some K) s w h (fun l e => by cases e; omega) h2).mono fun e w' ⟨he, hw, hg⟩ => ⟨he, ?_, hg⟩
  rw [hK]; exact hw

/-- Four bytes of memory as a string. -/
theorem conv_four (X : World) (g o : Nat) (q : Q4) (h0 : X.cell? ⟨g, o, none⟩ = some (.int .u8 q.a.toNat)) (h1 : X.cell? ⟨g, o + 1, none⟩ = some (.int .u8 q.b.toNat)) (h2 : X.cell? ⟨g, o + 2, none⟩ = some (.int .u8 q.c.toNat)) (h3 : X.cell? ⟨g, o + 3, none⟩ = some (.int .u8 q.d.toNat)) :
    (convert 64 9 (.slice (some ⟨g, o, none⟩) 4 4)).run Try.prog X = .ok (.string ⟨#[q.a, q.b, q.c, q.d]⟩) X := by
  refine run_convert_bytes_back (P := Try.prog) X 64 9 5 ⟨g, o, none⟩ 4 [q.a, q.b, q.c, q.d] Try.underlying64 Try.underlying5 Try.underlying9 (fun j hj => ?_)
  have e : (⟨g, o, none⟩ : Addr).add j = ⟨g, o + j, none⟩ := by unfold Addr.add; split <;> simp_all
  rw [e]
  have hj' : j < 4 := hj
  have : j = 0 ∨ j = 1 ∨ j = 2 ∨ j = 3 := by omega
  rcases this with rfl | rfl | rfl | rfl
  · exact h0
  · exact h1
  · exact h2
  · exact h3

theorem wr_new {X : World} {b : Nat} (h : X.heap[b]? = some (.cells #[.pointer none, .string ⟨#[]⟩, .bool false] 78)) : WrAt X b 0 (some []) :=
  ⟨none, ⟨#[]⟩, [], h, rfl, by simp, rfl⟩

/-- What writeHead holds: the packet, the head, the Writer. -/
structure Wh (w X : World) (P H : Obj) (n : Nat) (K : List UInt8) : Prop where
  lp : X.heap[w.heap.size]? = some P
  lh : X.heap[w.heap.size + 1]? = some H
  lw : WrAt X (w.heap.size + 1 + 1) n (some K)
  lb : Below w.heap.size w X

theorem Wh.step {w X Y : World} {P H : Obj} {n n' : Nat} {K K' : List UInt8} (q : Wh w X P H n K) (hw : WrAt Y (w.heap.size + 1 + 1) n' (some K')) (hg : X.grownBy Y (some (w.heap.size + 1 + 1))) : Wh w Y P H n' K' := by
  have hl : ∀ {k : Nat} {o : Obj}, X.heap[k]? = some o → k < X.heap.size := fun {k o} h => by
    rcases Nat.lt_or_ge k X.heap.size with h1 | h1
    · exact h1
    · rw [Array.getElem?_eq_none h1] at h; cases h
  refine ⟨(hg.block _ (hl q.lp) (by simp; omega)).trans q.lp, (hg.block _ (hl q.lh) (by simp)).trans q.lh, hw, ?_⟩
  exact q.lb.grown hg q.lb.size (fun k e => by cases e; omega)

theorem Wh.start (w : World) (id : Int) (m : Bool) (off ttl pr : Int) (a b : Q4) (s : ByteArray) (k sv f g all sum : Int) :
    Wh w (((w.alloc (pkC id m off ttl pr a b s)).alloc (hdC k sv f g all sum)).alloc (.cells #[.pointer none, .string ⟨#[]⟩, .bool false] 78)) (pkC id m off ttl pr a b s) (hdC k sv f g all sum) 0 [] := by
  refine ⟨lies_alloc (lies_alloc (heap_alloc_new w _) _) _, ?_, wr_new ?_, ?_⟩
  · have := lies_alloc (heap_alloc_new (w.alloc (pkC id m off ttl pr a b s)) (hdC k sv f g all sum)) (.cells #[.pointer none, .string ⟨#[]⟩, .bool false] 78)
    simpa using this
  · have := heap_alloc_new ((w.alloc (pkC id m off ttl pr a b s)).alloc (hdC k sv f g all sum)) (.cells #[.pointer none, .string ⟨#[]⟩, .bool false] 78)
    simpa using this
  · exact (((Below.refl _ w).alloc (Nat.le_refl _) _).alloc (by simp) _).alloc (by simp; omega) _

abbrev i3 (a b c : Int) : Obj := .cells #[.int .i64 a, .int .i64 b, .int .i64 c] 3
abbrev i5 (a b c d e : Int) : Obj := .cells #[.int .i64 a, .int .i64 b, .int .i64 c, .int .i64 d, .int .i64 e] 3
/-- What Bits is asked, its two lists made ahead of it: the widths first; the numbers first. -/
abbrev BitsA (z k : Nat) (o o' : Obj) (b n : Nat) (K K' : List UInt8) : Prop := ∀ X : World, WrAt X b n (some K) →
  Calls Try.prog 35 #[.pointer (some ⟨b, 0, none⟩), .slice (some ⟨X.heap.size, 0, none⟩) z k, .slice (some ⟨X.heap.size + 1, 0, none⟩) z k] ((X.alloc o).alloc o').drew fun e w' => e = .returned (.tuple #[]) ∧ WrAt w' b (n + 1) (some K') ∧ X.grownBy w' (some b)
abbrev BitsB (z k : Nat) (o o' : Obj) (b n : Nat) (K K' : List UInt8) : Prop := ∀ X : World, WrAt X b n (some K) →
  Calls Try.prog 35 #[.pointer (some ⟨b, 0, none⟩), .slice (some ⟨X.heap.size + 1, 0, none⟩) z k, .slice (some ⟨X.heap.size, 0, none⟩) z k] ((X.alloc o').alloc o).drew fun e w' => e = .returned (.tuple #[]) ∧ WrAt w' b (n + 1) (some K') ∧ X.grownBy w' (some b)

set_option maxRecDepth 100000 in
set_option maxHeartbeats 4000000 in
theorem writeHead_core (hBy : ∀ (b n : Nat) (l : List UInt8) (w : World), WrAt w b n (some l) → n ≤ 100000 → l.length ≤ 1000000 →
      Calls Try.prog 40 #[.pointer (some ⟨b, 0, none⟩)] w fun e w' => e = .returned (.tuple #[.string ⟨l.toArray⟩, .int .i64 0]) ∧ Below w.heap.size w w')
    (id : Nat) (m : Bool) (off ttl pr : Nat) (a b : Q4) (s : ByteArray) (n sum : Nat) (w : World) (h1 : id < 65536) (h2 : off < 8192) (h3 : ttl < 256) (h4 : pr < 256) (h5 : n < 65536) (h6 : sum < 65536) :
    Calls Try.prog 30 #[pk id m off ttl pr a b s, hd 69 0 0 0 n sum] w fun e w' => e = .returned (.tuple #[.string ⟨(head n id (pt m off) ttl pr sum a b).list.toArray⟩, .int .i64 0]) ∧ Below w.heap.size w w' := by
  obtain ⟨K1, e1⟩ : ∃ K, K = ([] : List UInt8) ++ [lo 69, lo 0, hi n, lo n] := ⟨_, rfl⟩
  obtain ⟨K2, e2⟩ : ∃ K, K = K1 ++ [hi id, lo id, hi (pt m off), lo (pt m off)] := ⟨_, rfl⟩
  obtain ⟨K3, e3⟩ : ∃ K, K = K2 ++ [lo ttl, lo pr, hi sum, lo sum] := ⟨_, rfl⟩
  obtain ⟨K4, e4⟩ : ∃ K, K = K3 ++ [a.a, a.b, a.c, a.d] := ⟨_, rfl⟩
  obtain ⟨K5, e5⟩ : ∃ K, K = K4 ++ [b.a, b.b, b.c, b.d] := ⟨_, rfl⟩
  have l1 : K1.length = 4 := by rw [e1]; rfl
  have l2 : K2.length = 8 := by rw [e2, List.length_append, l1]; rfl
  have l3 : K3.length = 12 := by rw [e3, List.length_append, l2]; rfl
  have l4 : K4.length = 16 := by rw [e4, List.length_append, l3]; rfl
  have l5 : K5.length = 20 := by rw [e5, List.length_append, l4]; rfl
  have e6 : K5 = (head n id (pt m off) ttl pr sum a b).list := by rw [e5, e4, e3, e2, e1]; rfl
  rw [← e6]
  obtain ⟨M, HM⟩ : ∃ M : Int, Hid (M = (mi m : Int)) := ⟨_, rfl⟩
  have A1 : BitsA 3 3 (i3 8 8 16) (i3 69 0 n) (w.heap.size + 1 + 1) 0 [] K1 := bits_two [8, 8, 16] [((69 : Nat) : Int), ((0 : Nat) : Int), (n : Int)] [] K1 (by rw [e1]; exact word_a [] 69 0 n (by omega) (by omega) h5) (by simp) (by simp) _ _
  have A2 : BitsB 3 3 (i3 8 8 16) (i3 69 0 n) (w.heap.size + 1 + 1) 0 [] K1 := bits_two' [8, 8, 16] [((69 : Nat) : Int), ((0 : Nat) : Int), (n : Int)] [] K1 (by rw [e1]; exact word_a [] 69 0 n (by omega) (by omega) h5) (by simp) (by simp) _ _
  have B1 : BitsA 5 5 (i5 16 1 1 1 13) (i5 id 0 0 M off) (w.heap.size + 1 + 1) 1 K1 K2 := bits_two [16, 1, 1, 1, 13] [(id : Int), 0, 0, M, (off : Int)] K1 K2 (by rw [e2, HM.out]; exact word_b K1 id off m h1 h2) (by omega) (by simp) _ _
  have B2 : BitsB 5 5 (i5 16 1 1 1 13) (i5 id 0 0 M off) (w.heap.size + 1 + 1) 1 K1 K2 := bits_two' [16, 1, 1, 1, 13] [(id : Int), 0, 0, M, (off : Int)] K1 K2 (by rw [e2, HM.out]; exact word_b K1 id off m h1 h2) (by omega) (by simp) _ _
  have C1 : BitsA 3 3 (i3 8 8 16) (i3 ttl pr sum) (w.heap.size + 1 + 1) 2 K2 K3 := bits_two [8, 8, 16] [(ttl : Int), (pr : Int), (sum : Int)] K2 K3 (by rw [e3]; exact word_a K2 ttl pr sum h3 h4 h6) (by omega) (by simp) _ _
  have C2 : BitsB 3 3 (i3 8 8 16) (i3 ttl pr sum) (w.heap.size + 1 + 1) 2 K2 K3 := bits_two' [8, 8, 16] [(ttl : Int), (pr : Int), (sum : Int)] K2 K3 (by rw [e3]; exact word_a K2 ttl pr sum h3 h4 h6) (by omega) (by simp) _ _
  have A1 := Lib.hid A1; have A2 := Lib.hid A2; have B1 := Lib.hid B1; have B2 := Lib.hid B2; have C1 := Lib.hid C1; have C2 := Lib.hid C2
  obtain ⟨SB, HSB⟩ : ∃ B : ByteArray, Hid (B = ⟨#[a.a, a.b, a.c, a.d]⟩) := ⟨_, rfl⟩
  obtain ⟨DB, HDB⟩ : ∃ B : ByteArray, Hid (B = ⟨#[b.a, b.b, b.c, b.d]⟩) := ⟨_, rfl⟩
  have T4 := Lib.hid (text_step K3 K4 SB (by rw [e4, HSB.out]) (by omega) (by rw [HSB.out]; show (4 : Nat) ≤ _; omega))
  have T5 := Lib.hid (text_step K4 K5 DB (by rw [e5, HDB.out]) (by omega) (by rw [HDB.out]; show (4 : Nat) ≤ _; omega))
  have T6 := Lib.hid (fun b w h => hBy b 5 K5 w h (by omega) (by omega))
  have HS := Lib.hid sizeWide_any
  have HP := Lib.hid placeWide_any
  have HL := Lib.hid lifeWide_any
  have HW := Lib.hid (Wh.start w id m off ttl pr a b s 69 0 0 0 n sum)
  clear e1 e2 e3 e4 e5 e6 l1 l2 l3 l4 l5 hBy
  go_enter Try.func30, Try.ntmps30
  go_upto_if 9 with fail
  go_cut [6] from 7 (fun s6 wc => s6 = .int .i64 M ∧ wc = (w.alloc (pkC id m off ttl pr a b s)).alloc (hdC 69 0 0 0 n sum))
  case first =>
    cases m
    all_goals
      go_wp2
      go_meet
      case rel => exact ⟨by rw [HM.out]; rfl, rfl⟩
  case rest =>
    obtain ⟨rfl, rfl⟩ := hcut
    go_upto_region 5 with fail
    generalize ((w.alloc (pkC id m off ttl pr a b s)).alloc (hdC 69 0 0 0 n sum)).alloc (.cells #[.pointer none, .string ⟨#[]⟩, .bool false] 78) = X at HW ⊢
    go_cut [] from 12 (fun wc => Wh w wc (pkC id m off ttl pr a b s) (hdC 69 0 0 0 n sum) 1 K1)
    case first =>
      have d0 : X.drew.cell? ⟨w.heap.size + 1, 0, none⟩ = some (.int .i64 69) := lies_cell (w := X.drew) HW.out.lh 0
      have e0 : ∀ o, (X.alloc o).drew.cell? ⟨w.heap.size + 1, 0, none⟩ = some (.int .i64 69) := fun o => lies_cell (w := (X.alloc o).drew) (lies_alloc HW.out.lh o) 0
      have f0 : ∀ o o', ((X.alloc o).alloc o').drew.cell? ⟨w.heap.size + 1, 0, none⟩ = some (.int .i64 69) := fun o o' => lies_cell (w := ((X.alloc o).alloc o').drew) (lies_alloc (lies_alloc HW.out.lh o) o') 0
      have d1 : X.drew.cell? ⟨w.heap.size + 1, 1, none⟩ = some (.int .i64 0) := lies_cell (w := X.drew) HW.out.lh 1
      have e1 : ∀ o, (X.alloc o).drew.cell? ⟨w.heap.size + 1, 1, none⟩ = some (.int .i64 0) := fun o => lies_cell (w := (X.alloc o).drew) (lies_alloc HW.out.lh o) 1
      have f1 : ∀ o o', ((X.alloc o).alloc o').drew.cell? ⟨w.heap.size + 1, 1, none⟩ = some (.int .i64 0) := fun o o' => lies_cell (w := ((X.alloc o).alloc o').drew) (lies_alloc (lies_alloc HW.out.lh o) o') 1
      have d2 : X.drew.cell? ⟨w.heap.size + 1, 4, none⟩ = some (.int .i64 n) := lies_cell (w := X.drew) HW.out.lh 4
      have e2 : ∀ o, (X.alloc o).drew.cell? ⟨w.heap.size + 1, 4, none⟩ = some (.int .i64 n) := fun o => lies_cell (w := (X.alloc o).drew) (lies_alloc HW.out.lh o) 4
      have f2 : ∀ o o', ((X.alloc o).alloc o').drew.cell? ⟨w.heap.size + 1, 4, none⟩ = some (.int .i64 n) := fun o o' => lies_cell (w := ((X.alloc o).alloc o').drew) (lies_alloc (lies_alloc HW.out.lh o) o') 4
      go_region_held3 (fun w' => w'.cell? ⟨w.heap.size + 1, 0, none⟩ = some (.int .i64 69) ∧ w'.cell? ⟨w.heap.size + 1, 1, none⟩ = some (.int .i64 0) ∧ w'.cell? ⟨w.heap.size + 1, 4, none⟩ = some (.int .i64 n))
        (first | (with_reducible exact ⟨c0, c1, c2⟩) | (with_reducible exact ⟨d0, d1, d2⟩) | (with_reducible exact ⟨e0 _, e1 _, e2 _⟩) | (with_reducible exact ⟨f0 _ _, f1 _ _, f2 _ _⟩))
        (first
          | (go_at_call 36; (with_reducible refine (HS.out _).mono ?_); rintro r wS ⟨rfl, rfl⟩)
          | (go_at_call 35; (with_reducible refine (A1.out _ HW.out.lw).mono ?_); rintro r wY ⟨rfl, hY, gY⟩
             (have V := HW.out.step hY gY)
             (have c0 : wY.cell? ⟨w.heap.size + 1, 0, none⟩ = some (.int .i64 69) := lies_cell V.lh 0)
             (have c1 : wY.cell? ⟨w.heap.size + 1, 1, none⟩ = some (.int .i64 0) := lies_cell V.lh 1)
             (have c2 : wY.cell? ⟨w.heap.size + 1, 4, none⟩ = some (.int .i64 n) := lies_cell V.lh 4)
             (have V := Lib.hid V)
             (clear hY gY))
          | (go_at_call 35; (with_reducible refine (A2.out _ HW.out.lw).mono ?_); rintro r wY ⟨rfl, hY, gY⟩
             (have V := HW.out.step hY gY)
             (have c0 : wY.cell? ⟨w.heap.size + 1, 0, none⟩ = some (.int .i64 69) := lies_cell V.lh 0)
             (have c1 : wY.cell? ⟨w.heap.size + 1, 1, none⟩ = some (.int .i64 0) := lies_cell V.lh 1)
             (have c2 : wY.cell? ⟨w.heap.size + 1, 4, none⟩ = some (.int .i64 n) := lies_cell V.lh 4)
             (have V := Lib.hid V)
             (clear hY gY)))
      all_goals
        go_wp2
        go_meet
        case rel => exact V.out
    case rest =>
    have HX := Lib.hid hcut; clear hcut HW X A1 A2 HS
    go_upto_region 6 with fail
    go_cut [] from 12 (fun wc => Wh w wc (pkC id m off ttl pr a b s) (hdC 69 0 0 0 n sum) 2 K2)
    case first =>
      have d0 : wc.drew.cell? ⟨w.heap.size, 0, none⟩ = some (.int .i64 id) := lies_cell (w := wc.drew) HX.out.lp 0
      have e0 : ∀ o, (wc.alloc o).drew.cell? ⟨w.heap.size, 0, none⟩ = some (.int .i64 id) := fun o => lies_cell (w := (wc.alloc o).drew) (lies_alloc HX.out.lp o) 0
      have f0 : ∀ o o', ((wc.alloc o).alloc o').drew.cell? ⟨w.heap.size, 0, none⟩ = some (.int .i64 id) := fun o o' => lies_cell (w := ((wc.alloc o).alloc o').drew) (lies_alloc (lies_alloc HX.out.lp o) o') 0
      have d1 : wc.drew.cell? ⟨w.heap.size + 1, 2, none⟩ = some (.int .i64 0) := lies_cell (w := wc.drew) HX.out.lh 2
      have e1 : ∀ o, (wc.alloc o).drew.cell? ⟨w.heap.size + 1, 2, none⟩ = some (.int .i64 0) := fun o => lies_cell (w := (wc.alloc o).drew) (lies_alloc HX.out.lh o) 2
      have f1 : ∀ o o', ((wc.alloc o).alloc o').drew.cell? ⟨w.heap.size + 1, 2, none⟩ = some (.int .i64 0) := fun o o' => lies_cell (w := ((wc.alloc o).alloc o').drew) (lies_alloc (lies_alloc HX.out.lh o) o') 2
      have d2 : wc.drew.cell? ⟨w.heap.size + 1, 3, none⟩ = some (.int .i64 0) := lies_cell (w := wc.drew) HX.out.lh 3
      have e2 : ∀ o, (wc.alloc o).drew.cell? ⟨w.heap.size + 1, 3, none⟩ = some (.int .i64 0) := fun o => lies_cell (w := (wc.alloc o).drew) (lies_alloc HX.out.lh o) 3
      have f2 : ∀ o o', ((wc.alloc o).alloc o').drew.cell? ⟨w.heap.size + 1, 3, none⟩ = some (.int .i64 0) := fun o o' => lies_cell (w := ((wc.alloc o).alloc o').drew) (lies_alloc (lies_alloc HX.out.lh o) o') 3
      have d3 : wc.drew.cell? ⟨w.heap.size, 2, none⟩ = some (.int .i64 off) := lies_cell (w := wc.drew) HX.out.lp 2
      have e3 : ∀ o, (wc.alloc o).drew.cell? ⟨w.heap.size, 2, none⟩ = some (.int .i64 off) := fun o => lies_cell (w := (wc.alloc o).drew) (lies_alloc HX.out.lp o) 2
      have f3 : ∀ o o', ((wc.alloc o).alloc o').drew.cell? ⟨w.heap.size, 2, none⟩ = some (.int .i64 off) := fun o o' => lies_cell (w := ((wc.alloc o).alloc o').drew) (lies_alloc (lies_alloc HX.out.lp o) o') 2
      go_region_held3 (fun w' => w'.cell? ⟨w.heap.size, 0, none⟩ = some (.int .i64 id) ∧ w'.cell? ⟨w.heap.size + 1, 2, none⟩ = some (.int .i64 0) ∧ w'.cell? ⟨w.heap.size + 1, 3, none⟩ = some (.int .i64 0) ∧ w'.cell? ⟨w.heap.size, 2, none⟩ = some (.int .i64 off))
        (first | (with_reducible exact ⟨c0, c1, c2, c3⟩) | (with_reducible exact ⟨d0, d1, d2, d3⟩) | (with_reducible exact ⟨e0 _, e1 _, e2 _, e3 _⟩) | (with_reducible exact ⟨f0 _ _, f1 _ _, f2 _ _, f3 _ _⟩))
        (first
          | (go_at_call 37; (with_reducible refine (HP.out _).mono ?_); rintro r wS ⟨rfl, rfl⟩)
          | (go_at_call 35; (with_reducible refine (B1.out _ HX.out.lw).mono ?_); rintro r wY ⟨rfl, hY, gY⟩
             (have V := HX.out.step hY gY)
             (have c0 : wY.cell? ⟨w.heap.size, 0, none⟩ = some (.int .i64 id) := lies_cell V.lp 0)
             (have c1 : wY.cell? ⟨w.heap.size + 1, 2, none⟩ = some (.int .i64 0) := lies_cell V.lh 2)
             (have c2 : wY.cell? ⟨w.heap.size + 1, 3, none⟩ = some (.int .i64 0) := lies_cell V.lh 3)
             (have c3 : wY.cell? ⟨w.heap.size, 2, none⟩ = some (.int .i64 off) := lies_cell V.lp 2)
             (have V := Lib.hid V)
             (clear hY gY))
          | (go_at_call 35; (with_reducible refine (B2.out _ HX.out.lw).mono ?_); rintro r wY ⟨rfl, hY, gY⟩
             (have V := HX.out.step hY gY)
             (have c0 : wY.cell? ⟨w.heap.size, 0, none⟩ = some (.int .i64 id) := lies_cell V.lp 0)
             (have c1 : wY.cell? ⟨w.heap.size + 1, 2, none⟩ = some (.int .i64 0) := lies_cell V.lh 2)
             (have c2 : wY.cell? ⟨w.heap.size + 1, 3, none⟩ = some (.int .i64 0) := lies_cell V.lh 3)
             (have c3 : wY.cell? ⟨w.heap.size, 2, none⟩ = some (.int .i64 off) := lies_cell V.lp 2)
             (have V := Lib.hid V)
             (clear hY gY)))
      all_goals
        go_wp2
        go_meet
        case rel => exact V.out
    case rest =>
    have HY := Lib.hid hcut; clear hcut HX B1 B2 HP
    go_upto_region 7 with fail
    go_cut [] from 12 (fun wc => Wh w wc (pkC id m off ttl pr a b s) (hdC 69 0 0 0 n sum) 3 K3)
    case first =>
      have d0 : wc.drew.cell? ⟨w.heap.size, 3, none⟩ = some (.int .i64 ttl) := lies_cell (w := wc.drew) HY.out.lp 3
      have e0 : ∀ o, (wc.alloc o).drew.cell? ⟨w.heap.size, 3, none⟩ = some (.int .i64 ttl) := fun o => lies_cell (w := (wc.alloc o).drew) (lies_alloc HY.out.lp o) 3
      have f0 : ∀ o o', ((wc.alloc o).alloc o').drew.cell? ⟨w.heap.size, 3, none⟩ = some (.int .i64 ttl) := fun o o' => lies_cell (w := ((wc.alloc o).alloc o').drew) (lies_alloc (lies_alloc HY.out.lp o) o') 3
      have d1 : wc.drew.cell? ⟨w.heap.size, 4, none⟩ = some (.int .i64 pr) := lies_cell (w := wc.drew) HY.out.lp 4
      have e1 : ∀ o, (wc.alloc o).drew.cell? ⟨w.heap.size, 4, none⟩ = some (.int .i64 pr) := fun o => lies_cell (w := (wc.alloc o).drew) (lies_alloc HY.out.lp o) 4
      have f1 : ∀ o o', ((wc.alloc o).alloc o').drew.cell? ⟨w.heap.size, 4, none⟩ = some (.int .i64 pr) := fun o o' => lies_cell (w := ((wc.alloc o).alloc o').drew) (lies_alloc (lies_alloc HY.out.lp o) o') 4
      have d2 : wc.drew.cell? ⟨w.heap.size + 1, 5, none⟩ = some (.int .i64 sum) := lies_cell (w := wc.drew) HY.out.lh 5
      have e2 : ∀ o, (wc.alloc o).drew.cell? ⟨w.heap.size + 1, 5, none⟩ = some (.int .i64 sum) := fun o => lies_cell (w := (wc.alloc o).drew) (lies_alloc HY.out.lh o) 5
      have f2 : ∀ o o', ((wc.alloc o).alloc o').drew.cell? ⟨w.heap.size + 1, 5, none⟩ = some (.int .i64 sum) := fun o o' => lies_cell (w := ((wc.alloc o).alloc o').drew) (lies_alloc (lies_alloc HY.out.lh o) o') 5
      go_region_held3 (fun w' => w'.cell? ⟨w.heap.size, 3, none⟩ = some (.int .i64 ttl) ∧ w'.cell? ⟨w.heap.size, 4, none⟩ = some (.int .i64 pr) ∧ w'.cell? ⟨w.heap.size + 1, 5, none⟩ = some (.int .i64 sum))
        (first | (with_reducible exact ⟨c0, c1, c2⟩) | (with_reducible exact ⟨d0, d1, d2⟩) | (with_reducible exact ⟨e0 _, e1 _, e2 _⟩) | (with_reducible exact ⟨f0 _ _, f1 _ _, f2 _ _⟩))
        (first
          | (go_at_call 38; (with_reducible refine (HL.out _).mono ?_); rintro r wS ⟨rfl, rfl⟩)
          | (go_at_call 35; (with_reducible refine (C1.out _ HY.out.lw).mono ?_); rintro r wY ⟨rfl, hY, gY⟩
             (have V := HY.out.step hY gY)
             (have c0 : wY.cell? ⟨w.heap.size, 3, none⟩ = some (.int .i64 ttl) := lies_cell V.lp 3)
             (have c1 : wY.cell? ⟨w.heap.size, 4, none⟩ = some (.int .i64 pr) := lies_cell V.lp 4)
             (have c2 : wY.cell? ⟨w.heap.size + 1, 5, none⟩ = some (.int .i64 sum) := lies_cell V.lh 5)
             (have V := Lib.hid V)
             (clear hY gY))
          | (go_at_call 35; (with_reducible refine (C2.out _ HY.out.lw).mono ?_); rintro r wY ⟨rfl, hY, gY⟩
             (have V := HY.out.step hY gY)
             (have c0 : wY.cell? ⟨w.heap.size, 3, none⟩ = some (.int .i64 ttl) := lies_cell V.lp 3)
             (have c1 : wY.cell? ⟨w.heap.size, 4, none⟩ = some (.int .i64 pr) := lies_cell V.lp 4)
             (have c2 : wY.cell? ⟨w.heap.size + 1, 5, none⟩ = some (.int .i64 sum) := lies_cell V.lh 5)
             (have V := Lib.hid V)
             (clear hY gY)))
      all_goals
        go_wp2
        go_meet
        case rel => exact V.out
    case rest =>
    have HZ := Lib.hid hcut; clear hcut HY C1 C2 HL
    have cvA := conv_four wc w.heap.size 5 a (lies_cell HZ.out.lp 5) (lies_cell HZ.out.lp 6) (lies_cell HZ.out.lp 7) (lies_cell HZ.out.lp 8)
    rw [← HSB.out] at cvA
    go_wp2_with (first
      | (go_at_call 39; (with_reducible refine (T4.out _ _ _ HZ.out.lw).mono ?_); rintro r w4 ⟨rfl, hY, gY⟩
         (have V4 := HZ.out.step hY gY)
         (have cvB := conv_four w4 w.heap.size 9 b (lies_cell V4.lp 9) (lies_cell V4.lp 10) (lies_cell V4.lp 11) (lies_cell V4.lp 12))
         (rw [← HDB.out] at cvB)
         (have V4 := Lib.hid V4)
         (clear hY gY))
      | (go_at_call 39; (with_reducible refine (T5.out _ _ _ V4.out.lw).mono ?_); rintro r w5 ⟨rfl, hY, gY⟩
         (have V5 := Lib.hid (V4.out.step hY gY))
         (clear hY gY))
      | (go_at_call 40; (with_reducible refine (T6.out _ _ V5.out.lw).mono ?_); rintro r w6 ⟨rfl, hb6⟩))
    go_returns
    exact ⟨rfl, V5.out.lb.trans (hb6.mono V5.out.lb.size)⟩
end Go.Proofs.Ytiedfdnjnjohdaa
