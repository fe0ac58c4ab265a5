/- Merged: BiRb, Pa, Wh, BiWy, Ec, Rh, Aw, Pk, Kr. -/
import Derived.Test.YtgdjcoodjdckkaaM1
import Derived.Deep.RegionHeld3
import Derived.Deep.Cut
import Derived.Handy
import Derived.Deep.AppendLies
import Derived.Deep.DeepFit
import Derived.BigRegion
import Derived.Deep.MidRow
import Derived.Lib.SlicesDelete
set_option linter.unusedVariables false
/- Contracts of the program's Reader: Bits; and of the law's ints. -/
namespace Go.Proofs.Ytgdjcoodjdckkaa.Bi
open Go.RowKit Go.Proofs.PitotMath

/-- The numbers that a number of so many bits is, each so many bits wide, the first one highest. -/
def unpack : List Int → Int → Nat → List Int
  | [], _, _ => []
  | x :: xs, bits, a => ((a / 2 ^ (bits - x).toNat % 2 ^ x.toNat : Nat) : Int) :: unpack xs (bits - x) a

/-- What is packed on top of a stays above. -/
theorem pack_high : ∀ (xs ns : List Int) (a r : Nat) (S tot : Int), 0 ≤ S → xs.length = ns.length → togGo xs S = some tot → packGo xs ns a = some r → S ≤ tot ∧ r / 2 ^ (tot - S).toNat = a
  | [], [], a, r, S, tot, _, _, h, hp => by
    simp only [togGo, Option.some.injEq] at h
    simp only [packGo, Option.some.injEq] at hp
    subst h hp
    simp
  | x :: xs, n :: ns, a, r, S, tot, hS, hl, h, hp => by
    simp only [togGo] at h
    split at h
    · cases h
    · next hx =>
      simp only [packGo] at hp
      split at hp
      · next hf =>
        obtain ⟨u, rfl, hu⟩ := fits_nat hf
        obtain ⟨h1, h2⟩ := pack_high xs ns _ r (S + x) tot (by omega) (by simpa using hl) h hp
        refine ⟨by omega, ?_⟩
        have e : (tot - S).toNat = (tot - (S + x)).toNat + x.toNat := by omega
        rw [e, Nat.pow_add, ← Nat.div_div_eq_div_mul, h2]
        simp only [Int.toNat_natCast]
        rw [Nat.mul_comm a, Nat.mul_add_div (Nat.two_pow_pos _), Nat.div_eq_of_lt hu, Nat.add_zero]
      · cases hp

theorem unpack_pack : ∀ (xs ns : List Int) (a r : Nat) (S tot : Int), 0 ≤ S → xs.length = ns.length → togGo xs S = some tot → packGo xs ns a = some r → unpack xs (tot - S) r = ns
  | [], [], _, _, _, _, _, _, _, _ => rfl
  | x :: xs, n :: ns, a, r, S, tot, hS, hl, h, hp => by
    simp only [togGo] at h
    split at h
    · cases h
    · next hx =>
      simp only [packGo] at hp
      split at hp
      · next hf =>
        obtain ⟨u, rfl, hu⟩ := fits_nat hf
        have hh := pack_high xs ns _ r (S + x) tot (by omega) (by simpa using hl) h hp
        have ih := unpack_pack xs ns _ r (S + x) tot (by omega) (by simpa using hl) h hp
        have e : tot - S - x = tot - (S + x) := by omega
        simp only [unpack, e, ih, hh.2, Int.toNat_natCast]
        have : (a * 2 ^ x.toNat + u) % 2 ^ x.toNat = u := by
          rw [Nat.mul_comm, Nat.mul_add_mod, Nat.mod_eq_of_lt hu]
        rw [this]
      · cases hp

theorem unpack_length : ∀ (xs : List Int) (b : Int) (a : Nat), (unpack xs b a).length = xs.length
  | [], _, _ => rfl
  | x :: xs, b, a => by simp [unpack, unpack_length xs]

theorem tog_le : ∀ (xs : List Int) (S tot : Int), togGo xs S = some tot → S ≤ tot
  | [], S, tot, h => by simp only [togGo, Option.some.injEq] at h; omega
  | x :: xs, S, tot, h => by
    simp only [togGo] at h
    split at h
    · cases h
    · have := tog_le xs (S + x) tot h; omega

/-- The cells of a row of ints of which the first k are written. -/
def pi (l : List Int) (k : Nat) : List Value := (l.take k).map (fun c => Value.int .i64 c) ++ List.replicate (l.length - k) (.int .i64 0)

theorem pi_zero (l : List Int) : pi l 0 = List.replicate l.length (.int .i64 0) := by simp [pi]
theorem pi_full (l : List Int) : pi l l.length = l.map (fun c => Value.int .i64 c) := by simp [pi]

theorem pi_at (l : List Int) (k : Nat) (h : k < l.length) : (pi l k)[k]? = some (.int .i64 0) := by
  unfold pi
  have hm : min k l.length = k := Nat.min_eq_left (Nat.le_of_lt h)
  rw [List.getElem?_append_right (by simp; omega)]
  simp only [List.length_map, List.length_take, hm, Nat.sub_self]
  rw [List.getElem?_replicate, if_pos (by omega)]

theorem pi_step (l : List Int) (k : Nat) (h : k < l.length) (v : Value) (hv : v = .int .i64 l[k]) : (pi l k).set k v = pi l (k + 1) := by
  subst hv
  unfold pi
  rw [List.take_succ_eq_append_getElem h, List.map_append]
  obtain ⟨d, hd⟩ : ∃ d, l.length - k = d + 1 := ⟨l.length - k - 1, by omega⟩
  have hd' : l.length - (k + 1) = d := by omega
  rw [hd, hd', List.replicate_succ, List.set_append_right _ _ (by simp; omega)]
  simp [Nat.min_eq_left (Nat.le_of_lt h)]

theorem Try.info3 : (Try.prog.info? 3).map (fun i => (i.zero, i.size, i.bytes)) = some (some (.int .i64 0), 1, 8) := by kernel_rfl

theorem mask_and (N s x : Nat) (hN : N < 4294967296) (h2 : x ≤ 32) :
    wrap64 (bits .and .u32 ((N : Int) / 2 ^ s) ((2 ^ x - 1) % 4294967296)) = ((N / 2 ^ s % 2 ^ x : Nat) : Int) := by
  have hp : (2 : Nat) ^ x ≤ 2 ^ 32 := Nat.pow_le_pow_right (by omega) h2
  have hp1 : 1 ≤ (2 : Nat) ^ x := Nat.two_pow_pos x
  have hm : ((2 : Int) ^ x - 1) % 4294967296 = ((2 ^ x - 1 : Nat) : Int) := by
    have e : ((2 : Int) ^ x) = ((2 ^ x : Nat) : Int) := by simp
    rw [e]
    generalize (2 : Nat) ^ x = p at hp hp1
    omega
  have hd : ((N : Int) / 2 ^ s) = ((N / 2 ^ s : Nat) : Int) := by simp
  have h5 : N / 2 ^ s ≤ N := Nat.div_le_self _ _
  have h6 : N / 2 ^ s % 2 ^ x ≤ N / 2 ^ s := Nat.mod_le _ _
  rw [hm, hd, u32_and_nat _ _ (by omega) (by omega), Nat.and_two_pow_sub_one_eq_mod, IntWalk.wrap64_in _ (by omega)]

theorem IntsAt.grown {w w' : World} {A : Option Addr} {xs : List Int} {r : Nat} (h : IntsAt w A xs) (hg : w.grownBy w' (some r)) (hne : ∀ b off, A = some ⟨b, off, none⟩ → b ≠ r) : IntsAt w' A xs := fun hx => by
  obtain ⟨b, off, h1, h2, h3⟩ := h hx
  exact ⟨b, off, h1, Nat.lt_of_lt_of_le h2 hg.size, fun i hi => (World.cell?_of_block (hg.block b h2 (by simpa using hne b off h1))).trans (h3 i hi)⟩

theorem unpack_cons {xs : List Int} {k : Nat} (hk : k < xs.length) (B : Int) (N : Nat) : unpack (xs.drop k) B N = ((N / 2 ^ (B - xs[k]).toNat % 2 ^ xs[k].toNat : Nat) : Int) :: unpack (xs.drop (k + 1)) (B - xs[k]) N := by
  rw [List.drop_eq_getElem_cons hk]; rfl

end Go.Proofs.Ytgdjcoodjdckkaa.Bi
/- The words of a head as numbers of bits: written, and read. Plain facts. -/
namespace Go.Proofs.Ytgdjcoodjdckkaa
open Go.RowKit Go.Proofs.PitotIp
open Go.Proofs.PitotAddr (hi lo hi_nat lo_nat)
open Go.Proofs.PitotMath (be)
open Go.Proofs.Ytgdjcoodjdckkaa.Bi (bitsStep bitsOf packGo togRes fitsB unpack)

theorem be4 (n : Nat) : be 4 n = [UInt8.ofNat (n / 16777216 % 256), UInt8.ofNat (n / 65536 % 256), UInt8.ofNat (n / 256 % 256), UInt8.ofNat (n % 256)] := by
  rw [Bi.be_cons 3 n, Bi.be_cons 2 n, Bi.be_cons 1 n, Bi.be_cons 0 n]
  simp [be]

theorem fits (n x : Nat) (h : n < 2 ^ x) : fitsB (n : Int) (x : Int) = true := by
  unfold fitsB
  refine decide_eq_true ⟨by omega, ?_⟩
  rw [Int.toNat_natCast]
  exact_mod_cast h

theorem of4 {a b c d a' b' c' d' : Nat} (h0 : a = a') (h1 : b = b') (h2 : c = c') (h3 : d = d') : [UInt8.ofNat a, UInt8.ofNat b, UInt8.ofNat c, UInt8.ofNat d] = [UInt8.ofNat a', UInt8.ofNat b', UInt8.ofNat c', UInt8.ofNat d'] := by
  rw [h0, h1, h2, h3]

/-- Two bytes and a number of two. -/
theorem word_a (K : List UInt8) (a b n : Nat) (ha : a < 256) (hb : b < 256) (hn : n < 65536) : bitsStep (some K) [8, 8, 16] [(a : Int), (b : Int), (n : Int)] = some (K ++ [lo a, lo b, hi n, lo n]) := by
  have t : togRes [8, 8, 16] = (4, true) := by decide
  have f1 : fitsB (a : Int) 8 = true := fits a 8 ha
  have f2 : fitsB (b : Int) 8 = true := fits b 8 hb
  have f3 : fitsB (n : Int) 16 = true := fits n 16 hn
  simp only [bitsStep, bitsOf, t, packGo, f1, f2, f3, if_true, List.length_cons, List.length_nil, and_self, Option.bind_some, Option.map_some, Int.toNat_natCast]
  show some (K ++ be 4 (((0 * 2 ^ 8 + a) * 2 ^ 8 + b) * 2 ^ 16 + n)) = _
  rw [be4]
  show some (K ++ _) = some (K ++ [UInt8.ofNat (a % 256), UInt8.ofNat (b % 256), UInt8.ofNat (n / 256 % 256), UInt8.ofNat (n % 256)])
  rw [of4 (a' := a % 256) (b' := b % 256) (c' := n / 256 % 256) (d' := n % 256) (by omega) (by omega) (by omega) (by omega)]

/-- The place: the bits 0, 0, More, and Off. -/
def pt (m : Bool) (off : Nat) : Nat := (if m = true then 8192 else 0) + off
theorem pt_lt (m : Bool) (off : Nat) (h : off < 8192) : pt m off < 16384 := by unfold pt; split <;> omega
def mi (m : Bool) : Nat := if m = true then 1 else 0
theorem mi_pt (m : Bool) (off : Nat) : pt m off = mi m * 8192 + off := by cases m <;> simp [pt, mi]

theorem word_b (K : List UInt8) (id off : Nat) (m : Bool) (hi' : id < 65536) (ho : off < 8192) : bitsStep (some K) [16, 1, 1, 1, 13] [(id : Int), 0, 0, (mi m : Int), (off : Int)] = some (K ++ [hi id, lo id, hi (pt m off), lo (pt m off)]) := by
  have t : togRes [16, 1, 1, 1, 13] = (4, true) := by decide
  have f1 : fitsB (id : Int) 16 = true := fits id 16 hi'
  have f2 : fitsB 0 1 = true := by decide
  have f3 : fitsB (mi m : Int) 1 = true := fits (mi m) 1 (by cases m <;> simp [mi])
  have f4 : fitsB (off : Int) 13 = true := fits off 13 ho
  simp only [bitsStep, bitsOf, t, packGo, f1, f2, f3, f4, if_true, List.length_cons, List.length_nil, and_self, Option.bind_some, Option.map_some, Int.toNat_natCast]
  show some (K ++ be 4 (((((0 * 2 ^ 16 + id) * 2 ^ 1 + 0) * 2 ^ 1 + 0) * 2 ^ 1 + mi m) * 2 ^ 13 + off)) = _
  rw [be4]
  show some (K ++ _) = some (K ++ [UInt8.ofNat (id / 256 % 256), UInt8.ofNat (id % 256), UInt8.ofNat (pt m off / 256 % 256), UInt8.ofNat (pt m off % 256)])
  have hm : mi m ≤ 1 := by cases m <;> simp [mi]
  have hp := mi_pt m off
  generalize pt m off = q at *
  generalize mi m = k at *
  rw [of4 (a' := id / 256 % 256) (b' := id % 256) (c' := q / 256 % 256) (d' := q % 256) (by omega) (by omega) (by omega) (by omega)]

theorem num4 (a b c d : UInt8) : PitotMath.num [a, b, c, d] = 16777216 * a.toNat + 65536 * b.toNat + 256 * c.toNat + d.toNat := by
  simp [PitotMath.num]; omega

/-- Two bytes and a number of two, read. -/
theorem read_a (a b c d : UInt8) : unpack [8, 8, 16] 32 (PitotMath.num [a, b, c, d]) = [(a.toNat : Int), (b.toNat : Int), (PitotAddr.num c d : Int)] := by
  have ha := a.toNat_lt; have hb := b.toNat_lt; have hc := c.toNat_lt; have hd := d.toNat_lt
  rw [num4]
  unfold PitotAddr.num
  show [(((16777216 * a.toNat + 65536 * b.toNat + 256 * c.toNat + d.toNat) / 2 ^ 24 % 2 ^ 8 : Nat) : Int), (((16777216 * a.toNat + 65536 * b.toNat + 256 * c.toNat + d.toNat) / 2 ^ 16 % 2 ^ 8 : Nat) : Int), (((16777216 * a.toNat + 65536 * b.toNat + 256 * c.toNat + d.toNat) / 2 ^ 0 % 2 ^ 16 : Nat) : Int)] = _
  generalize a.toNat = A at *
  generalize b.toNat = B at *
  generalize c.toNat = C at *
  generalize d.toNat = D at *
  simp only [List.cons.injEq, and_true]
  refine ⟨?_, ?_, ?_⟩ <;> omega

theorem read_b (a b c d : UInt8) : unpack [16, 1, 1, 1, 13] 32 (PitotMath.num [a, b, c, d]) = [(PitotAddr.num a b : Int), ((PitotAddr.num c d / 32768 : Nat) : Int), ((PitotAddr.num c d / 16384 % 2 : Nat) : Int), ((PitotAddr.num c d / 8192 % 2 : Nat) : Int), ((PitotAddr.num c d % 8192 : Nat) : Int)] := by
  have ha := a.toNat_lt; have hb := b.toNat_lt; have hc := c.toNat_lt; have hd := d.toNat_lt
  rw [num4]
  unfold PitotAddr.num
  show [(((16777216 * a.toNat + 65536 * b.toNat + 256 * c.toNat + d.toNat) / 2 ^ 16 % 2 ^ 16 : Nat) : Int), (((16777216 * a.toNat + 65536 * b.toNat + 256 * c.toNat + d.toNat) / 2 ^ 15 % 2 ^ 1 : Nat) : Int), (((16777216 * a.toNat + 65536 * b.toNat + 256 * c.toNat + d.toNat) / 2 ^ 14 % 2 ^ 1 : Nat) : Int), (((16777216 * a.toNat + 65536 * b.toNat + 256 * c.toNat + d.toNat) / 2 ^ 13 % 2 ^ 1 : Nat) : Int), (((16777216 * a.toNat + 65536 * b.toNat + 256 * c.toNat + d.toNat) / 2 ^ 0 % 2 ^ 13 : Nat) : Int)] = _
  generalize a.toNat = A at *
  generalize b.toNat = B at *
  generalize c.toNat = C at *
  generalize d.toNat = D at *
  simp only [List.cons.injEq, and_true]
  refine ⟨?_, ?_, ?_, ?_, ?_⟩ <;> omega
end Go.Proofs.Ytgdjcoodjdckkaa
/- Contracts of writeHead: a head's bytes. -/
namespace Go.Proofs.Ytgdjcoodjdckkaa
open Go.RowKit Go.Proofs.PitotIp
open Go.Proofs.PitotAddr (hi lo)
open Go.Proofs.Ytgdjcoodjdckkaa.Bi (IntsAt lies_lt lies_cell lies_frozen lies_alloc)

section
variable {w w' : World} {g : Nat} {t : TypeId}
theorem lies_grown {cs : Array Value} {b : Nat} (h : w.heap[g]? = some (.cells cs t)) (hg : w.grownBy w' (some b)) (hne : g ≠ b) : w'.heap[g]? = some (.cells cs t) :=
  (hg.block g (lies_lt h) (by simpa using hne)).trans h
theorem lies_below {cs : Array Value} {n : Nat} (h : w.heap[g]? = some (.cells cs t)) (hb : Below n w w') (hl : g < n) : w'.heap[g]? = some (.cells cs t) := (hb.block g hl).trans h
end

/-- Four bytes of memory as a string. -/
theorem conv_four (X : World) (g o : Nat) (q : Q4) (h0 : X.cell? ⟨g, o, none⟩ = some (.int .u8 q.a.toNat)) (h1 : X.cell? ⟨g, o + 1, none⟩ = some (.int .u8 q.b.toNat)) (h2 : X.cell? ⟨g, o + 2, none⟩ = some (.int .u8 q.c.toNat)) (h3 : X.cell? ⟨g, o + 3, none⟩ = some (.int .u8 q.d.toNat)) :
    (convert 71 9 (.slice (some ⟨g, o, none⟩) 4 4)).run Try.prog X = .ok (.string ⟨#[q.a, q.b, q.c, q.d]⟩) X := by
  refine run_convert_bytes_back (P := Try.prog) X 71 9 5 ⟨g, o, none⟩ 4 [q.a, q.b, q.c, q.d] Try.underlying71 Try.underlying5 Try.underlying9 (fun j hj => ?_)
  have e : (⟨g, o, none⟩ : Addr).add j = ⟨g, o + j, none⟩ := by unfold Addr.add; split <;> simp_all
  rw [e]
  have hj' : j < 4 := hj
  have : j = 0 ∨ j = 1 ∨ j = 2 ∨ j = 3 := by omega
  rcases this with rfl | rfl | rfl | rfl
  · exact h0
  · exact h1
  · exact h2
  · exact h3

abbrev i3 (a b c : Int) : Obj := .cells #[.int .i64 a, .int .i64 b, .int .i64 c] 3
abbrev i5 (a b c d e : Int) : Obj := .cells #[.int .i64 a, .int .i64 b, .int .i64 c, .int .i64 d, .int .i64 e] 3
end Go.Proofs.Ytgdjcoodjdckkaa
/- Contract of the program's Writer: Bytes. -/
namespace Go.Proofs.Ytgdjcoodjdckkaa.Bi
open Go.RowKit Go.Proofs.PitotMath

theorem size_setCells (b : Nat) : ∀ (vs : List Value) (o : Nat) (w : World), (w.setCells b o vs).heap.size = w.heap.size
  | [], _, _ => rfl
  | v :: r, o, w => by rw [World.setCells, size_setCells b r]; simp

theorem below_cells {B b : Nat} {a : World} (hb : B ≤ b) : ∀ (vs : List Value) (o : Nat) {w : World}, Below B a w → Below B a (w.setCells b o vs)
  | [], _, _, h => h
  | v :: r, o, _, h => by rw [World.setCells]; exact below_cells hb r (o + 1) (h.setCell (p := ⟨b, o, none⟩) hb v)

theorem Try.info9 : (Try.prog.info? 9).map (fun i => (i.zero, i.size, i.bytes)) = some (some (.string ⟨#[]⟩), 1, 16) := by kernel_rfl

theorem add_plain (g j : Nat) : (⟨g, 0, none⟩ : Addr).add j = ⟨g, j, none⟩ := by unfold Addr.add; split <;> simp_all

theorem own_cells {w : World} {base g n cap : Nat} {xs : List ByteArray} (h : w.ownsRow base 9 1 (.slice (some ⟨g, 0, none⟩) n cap) n (xs.map .string)) (i : Nat) (hi : i < xs.length) : w.cell? ⟨g, i, none⟩ = some (.string xs[i]) := by
  have := h.cells (g := g) rfl i (.string xs[i]) (by simp [hi])
  rwa [add_plain] at this

theorem own_cap {w : World} {base e size g n cap : Nat} {xs : List Value} (h : w.ownsRow base e size (.slice (some ⟨g, 0, none⟩) n cap) n xs) : n ≤ cap := by
  rcases h.2 with ⟨h', _⟩ | ⟨g', cap', cur, h', _, _, hc, _⟩
  · cases h'
  · cases h'; exact hc

/-- How many elements a slice has. -/
def sliceLen : Value → Nat
  | .slice _ n _ => n
  | _ => 0

end Go.Proofs.Ytgdjcoodjdckkaa.Bi
/- Contracts of Encode: a packet's bytes, or why there are none. -/
namespace Go.Proofs.Ytgdjcoodjdckkaa
open Go.RowKit Go.Proofs.PitotIp
open Go.Proofs.PitotAddr (hi lo)
open Go.Proofs.Ytgdjcoodjdckkaa.Bi (IntsAt lies_lt lies_cell lies_frozen lies_alloc)

abbrev i1 (a : Int) : Obj := .cells #[.int .i64 a] 3
abbrev i2 (a b : Int) : Obj := .cells #[.int .i64 a, .int .i64 b] 3

theorem wi_one {most x : Int} : wi most [x] = decide (0 ≤ x ∧ x ≤ most) := by simp [wi]
theorem wi_two {most x y : Int} : wi most [x, y] = decide ((0 ≤ x ∧ x ≤ most) ∧ (0 ≤ y ∧ y ≤ most)) := by simp [wi]

/-- A packet that may be. -/
structure MayBe (id off ttl pr : Nat) (s : ByteArray) : Prop where
  i : id < 65536
  o : off < 8192
  t : ttl < 256
  p : pr < 256
  d : s.size ≤ 65515
/-- Its bytes. -/
def outB (id : Nat) (m : Bool) (off ttl pr : Nat) (a b : Q4) (s : ByteArray) : ByteArray := ⟨(PitotIp.bytes id (pt m off) ttl pr a b s.data.toList).toArray⟩
theorem outB_list (id : Nat) (m : Bool) (off ttl pr : Nat) (a b : Q4) (s : ByteArray) : (outB id m off ttl pr a b s).data.toList = PitotIp.bytes id (pt m off) ttl pr a b s.data.toList := by simp [outB]
theorem outB_size (id : Nat) (m : Bool) (off ttl pr : Nat) (a b : Q4) (s : ByteArray) : (outB id m off ttl pr a b s).size = 20 + s.size := by
  show (PitotIp.bytes id (pt m off) ttl pr a b s.data.toList).toArray.size = _
  rw [List.size_toArray, bytes_length]
  simp

section
variable {w : World} {g : Nat} {t : TypeId}
theorem cells14 {x0 x1 x2 x3 x4 x5 x6 x7 x8 x9 x10 x11 x12 x13 : Value} (h : w.heap[g]? = some (.cells #[x0, x1, x2, x3, x4, x5, x6, x7, x8, x9, x10, x11, x12, x13] t)) :
    (w.cell? ⟨g, 0, none⟩ = some x0) ∧ (w.cell? ⟨g, 1, none⟩ = some x1) ∧ (w.cell? ⟨g, 2, none⟩ = some x2) ∧ (w.cell? ⟨g, 3, none⟩ = some x3) ∧ (w.cell? ⟨g, 4, none⟩ = some x4) ∧ (w.cell? ⟨g, 5, none⟩ = some x5) ∧ (w.cell? ⟨g, 6, none⟩ = some x6) ∧ (w.cell? ⟨g, 7, none⟩ = some x7) ∧ (w.cell? ⟨g, 8, none⟩ = some x8) ∧ (w.cell? ⟨g, 9, none⟩ = some x9) ∧ (w.cell? ⟨g, 10, none⟩ = some x10) ∧ (w.cell? ⟨g, 11, none⟩ = some x11) ∧ (w.cell? ⟨g, 12, none⟩ = some x12) ∧ (w.cell? ⟨g, 13, none⟩ = some x13) :=
  ⟨lies_cell h 0, lies_cell h 1, lies_cell h 2, lies_cell h 3, lies_cell h 4, lies_cell h 5, lies_cell h 6, lies_cell h 7, lies_cell h 8, lies_cell h 9, lies_cell h 10, lies_cell h 11, lies_cell h 12, lies_cell h 13⟩
theorem cells6 {x0 x1 x2 x3 x4 x5 : Value} (h : w.heap[g]? = some (.cells #[x0, x1, x2, x3, x4, x5] t)) :
    (w.cell? ⟨g, 0, none⟩ = some x0) ∧ (w.cell? ⟨g, 1, none⟩ = some x1) ∧ (w.cell? ⟨g, 2, none⟩ = some x2) ∧ (w.cell? ⟨g, 3, none⟩ = some x3) ∧ (w.cell? ⟨g, 4, none⟩ = some x4) ∧ (w.cell? ⟨g, 5, none⟩ = some x5) :=
  ⟨lies_cell h 0, lies_cell h 1, lies_cell h 2, lies_cell h 3, lies_cell h 4, lies_cell h 5⟩
theorem cells8 {x0 x1 x2 x3 x4 x5 x6 x7 : Value} (h : w.heap[g]? = some (.cells #[x0, x1, x2, x3, x4, x5, x6, x7] t)) :
    (w.cell? ⟨g, 0, none⟩ = some x0) ∧ (w.cell? ⟨g, 1, none⟩ = some x1) ∧ (w.cell? ⟨g, 2, none⟩ = some x2) ∧ (w.cell? ⟨g, 3, none⟩ = some x3) ∧ (w.cell? ⟨g, 4, none⟩ = some x4) ∧ (w.cell? ⟨g, 5, none⟩ = some x5) ∧ (w.cell? ⟨g, 6, none⟩ = some x6) ∧ (w.cell? ⟨g, 7, none⟩ = some x7) :=
  ⟨lies_cell h 0, lies_cell h 1, lies_cell h 2, lies_cell h 3, lies_cell h 4, lies_cell h 5, lies_cell h 6, lies_cell h 7⟩
end

theorem sum_lt (h : H20) : h.sum < 65536 := by have := PitotMath.ones_le h.bare; unfold H20.sum; omega

end Go.Proofs.Ytgdjcoodjdckkaa
/- Contracts of readHead: what the bytes of a whole head say. -/
namespace Go.Proofs.Ytgdjcoodjdckkaa
open Go.RowKit Go.Proofs.PitotIp
open Go.Proofs.Ytgdjcoodjdckkaa.Bi (lies_lt lies_cell lies_frozen lies_alloc)

theorem read_14 {W : World} {g : Nat} {x0 x1 x2 x3 x4 x5 x6 x7 x8 x9 x10 x11 x12 x13 y0 y1 y2 y3 y4 y5 y6 y7 y8 y9 y10 y11 y12 y13 : Value} {t : TypeId} (h : W.heap[g]? = some (.cells #[x0, x1, x2, x3, x4, x5, x6, x7, x8, x9, x10, x11, x12, x13] t)) :
    (W.setCell ⟨g, 0, none⟩ y0).cell? ⟨g, 0, none⟩ = some y0 ∧
    ((W.setCell ⟨g, 0, none⟩ y0).setCell ⟨g, 1, none⟩ y1).cell? ⟨g, 1, none⟩ = some y1 ∧
    (((W.setCell ⟨g, 0, none⟩ y0).setCell ⟨g, 1, none⟩ y1).setCell ⟨g, 2, none⟩ y2).cell? ⟨g, 2, none⟩ = some y2 ∧
    ((((W.setCell ⟨g, 0, none⟩ y0).setCell ⟨g, 1, none⟩ y1).setCell ⟨g, 2, none⟩ y2).setCell ⟨g, 3, none⟩ y3).cell? ⟨g, 3, none⟩ = some y3 ∧
    (((((W.setCell ⟨g, 0, none⟩ y0).setCell ⟨g, 1, none⟩ y1).setCell ⟨g, 2, none⟩ y2).setCell ⟨g, 3, none⟩ y3).setCell ⟨g, 4, none⟩ y4).cell? ⟨g, 4, none⟩ = some y4 ∧
    ((((((W.setCell ⟨g, 0, none⟩ y0).setCell ⟨g, 1, none⟩ y1).setCell ⟨g, 2, none⟩ y2).setCell ⟨g, 3, none⟩ y3).setCell ⟨g, 4, none⟩ y4).setCell ⟨g, 5, none⟩ y5).cell? ⟨g, 5, none⟩ = some y5 ∧
    (((((((W.setCell ⟨g, 0, none⟩ y0).setCell ⟨g, 1, none⟩ y1).setCell ⟨g, 2, none⟩ y2).setCell ⟨g, 3, none⟩ y3).setCell ⟨g, 4, none⟩ y4).setCell ⟨g, 5, none⟩ y5).setCell ⟨g, 6, none⟩ y6).cell? ⟨g, 6, none⟩ = some y6 ∧
    ((((((((W.setCell ⟨g, 0, none⟩ y0).setCell ⟨g, 1, none⟩ y1).setCell ⟨g, 2, none⟩ y2).setCell ⟨g, 3, none⟩ y3).setCell ⟨g, 4, none⟩ y4).setCell ⟨g, 5, none⟩ y5).setCell ⟨g, 6, none⟩ y6).setCell ⟨g, 7, none⟩ y7).cell? ⟨g, 7, none⟩ = some y7 ∧
    (((((((((W.setCell ⟨g, 0, none⟩ y0).setCell ⟨g, 1, none⟩ y1).setCell ⟨g, 2, none⟩ y2).setCell ⟨g, 3, none⟩ y3).setCell ⟨g, 4, none⟩ y4).setCell ⟨g, 5, none⟩ y5).setCell ⟨g, 6, none⟩ y6).setCell ⟨g, 7, none⟩ y7).setCell ⟨g, 8, none⟩ y8).cell? ⟨g, 8, none⟩ = some y8 ∧
    ((((((((((W.setCell ⟨g, 0, none⟩ y0).setCell ⟨g, 1, none⟩ y1).setCell ⟨g, 2, none⟩ y2).setCell ⟨g, 3, none⟩ y3).setCell ⟨g, 4, none⟩ y4).setCell ⟨g, 5, none⟩ y5).setCell ⟨g, 6, none⟩ y6).setCell ⟨g, 7, none⟩ y7).setCell ⟨g, 8, none⟩ y8).setCell ⟨g, 9, none⟩ y9).cell? ⟨g, 9, none⟩ = some y9 ∧
    (((((((((((W.setCell ⟨g, 0, none⟩ y0).setCell ⟨g, 1, none⟩ y1).setCell ⟨g, 2, none⟩ y2).setCell ⟨g, 3, none⟩ y3).setCell ⟨g, 4, none⟩ y4).setCell ⟨g, 5, none⟩ y5).setCell ⟨g, 6, none⟩ y6).setCell ⟨g, 7, none⟩ y7).setCell ⟨g, 8, none⟩ y8).setCell ⟨g, 9, none⟩ y9).setCell ⟨g, 10, none⟩ y10).cell? ⟨g, 10, none⟩ = some y10 ∧
    ((((((((((((W.setCell ⟨g, 0, none⟩ y0).setCell ⟨g, 1, none⟩ y1).setCell ⟨g, 2, none⟩ y2).setCell ⟨g, 3, none⟩ y3).setCell ⟨g, 4, none⟩ y4).setCell ⟨g, 5, none⟩ y5).setCell ⟨g, 6, none⟩ y6).setCell ⟨g, 7, none⟩ y7).setCell ⟨g, 8, none⟩ y8).setCell ⟨g, 9, none⟩ y9).setCell ⟨g, 10, none⟩ y10).setCell ⟨g, 11, none⟩ y11).cell? ⟨g, 11, none⟩ = some y11 ∧
    (((((((((((((W.setCell ⟨g, 0, none⟩ y0).setCell ⟨g, 1, none⟩ y1).setCell ⟨g, 2, none⟩ y2).setCell ⟨g, 3, none⟩ y3).setCell ⟨g, 4, none⟩ y4).setCell ⟨g, 5, none⟩ y5).setCell ⟨g, 6, none⟩ y6).setCell ⟨g, 7, none⟩ y7).setCell ⟨g, 8, none⟩ y8).setCell ⟨g, 9, none⟩ y9).setCell ⟨g, 10, none⟩ y10).setCell ⟨g, 11, none⟩ y11).setCell ⟨g, 12, none⟩ y12).cell? ⟨g, 12, none⟩ = some y12 ∧
    ((((((((((((((W.setCell ⟨g, 0, none⟩ y0).setCell ⟨g, 1, none⟩ y1).setCell ⟨g, 2, none⟩ y2).setCell ⟨g, 3, none⟩ y3).setCell ⟨g, 4, none⟩ y4).setCell ⟨g, 5, none⟩ y5).setCell ⟨g, 6, none⟩ y6).setCell ⟨g, 7, none⟩ y7).setCell ⟨g, 8, none⟩ y8).setCell ⟨g, 9, none⟩ y9).setCell ⟨g, 10, none⟩ y10).setCell ⟨g, 11, none⟩ y11).setCell ⟨g, 12, none⟩ y12).setCell ⟨g, 13, none⟩ y13).cell? ⟨g, 13, none⟩ = some y13 ∧
    ((((((((((((((W.setCell ⟨g, 0, none⟩ y0).setCell ⟨g, 1, none⟩ y1).setCell ⟨g, 2, none⟩ y2).setCell ⟨g, 3, none⟩ y3).setCell ⟨g, 4, none⟩ y4).setCell ⟨g, 5, none⟩ y5).setCell ⟨g, 6, none⟩ y6).setCell ⟨g, 7, none⟩ y7).setCell ⟨g, 8, none⟩ y8).setCell ⟨g, 9, none⟩ y9).setCell ⟨g, 10, none⟩ y10).setCell ⟨g, 11, none⟩ y11).setCell ⟨g, 12, none⟩ y12).setCell ⟨g, 13, none⟩ y13).heap[g]? = some (.cells #[y0, y1, y2, y3, y4, y5, y6, y7, y8, y9, y10, y11, y12, y13] t) := by
  have h0 : (W.setCell ⟨g, 0, none⟩ y0).heap[g]? = some (.cells #[y0, x1, x2, x3, x4, x5, x6, x7, x8, x9, x10, x11, x12, x13] t) := Bi.lies_set h 0 _
  have h1 : ((W.setCell ⟨g, 0, none⟩ y0).setCell ⟨g, 1, none⟩ y1).heap[g]? = some (.cells #[y0, y1, x2, x3, x4, x5, x6, x7, x8, x9, x10, x11, x12, x13] t) := Bi.lies_set h0 1 _
  have h2 : (((W.setCell ⟨g, 0, none⟩ y0).setCell ⟨g, 1, none⟩ y1).setCell ⟨g, 2, none⟩ y2).heap[g]? = some (.cells #[y0, y1, y2, x3, x4, x5, x6, x7, x8, x9, x10, x11, x12, x13] t) := Bi.lies_set h1 2 _
  have h3 : ((((W.setCell ⟨g, 0, none⟩ y0).setCell ⟨g, 1, none⟩ y1).setCell ⟨g, 2, none⟩ y2).setCell ⟨g, 3, none⟩ y3).heap[g]? = some (.cells #[y0, y1, y2, y3, x4, x5, x6, x7, x8, x9, x10, x11, x12, x13] t) := Bi.lies_set h2 3 _
  have h4 : (((((W.setCell ⟨g, 0, none⟩ y0).setCell ⟨g, 1, none⟩ y1).setCell ⟨g, 2, none⟩ y2).setCell ⟨g, 3, none⟩ y3).setCell ⟨g, 4, none⟩ y4).heap[g]? = some (.cells #[y0, y1, y2, y3, y4, x5, x6, x7, x8, x9, x10, x11, x12, x13] t) := Bi.lies_set h3 4 _
  have h5 : ((((((W.setCell ⟨g, 0, none⟩ y0).setCell ⟨g, 1, none⟩ y1).setCell ⟨g, 2, none⟩ y2).setCell ⟨g, 3, none⟩ y3).setCell ⟨g, 4, none⟩ y4).setCell ⟨g, 5, none⟩ y5).heap[g]? = some (.cells #[y0, y1, y2, y3, y4, y5, x6, x7, x8, x9, x10, x11, x12, x13] t) := Bi.lies_set h4 5 _
  have h6 : (((((((W.setCell ⟨g, 0, none⟩ y0).setCell ⟨g, 1, none⟩ y1).setCell ⟨g, 2, none⟩ y2).setCell ⟨g, 3, none⟩ y3).setCell ⟨g, 4, none⟩ y4).setCell ⟨g, 5, none⟩ y5).setCell ⟨g, 6, none⟩ y6).heap[g]? = some (.cells #[y0, y1, y2, y3, y4, y5, y6, x7, x8, x9, x10, x11, x12, x13] t) := Bi.lies_set h5 6 _
  have h7 : ((((((((W.setCell ⟨g, 0, none⟩ y0).setCell ⟨g, 1, none⟩ y1).setCell ⟨g, 2, none⟩ y2).setCell ⟨g, 3, none⟩ y3).setCell ⟨g, 4, none⟩ y4).setCell ⟨g, 5, none⟩ y5).setCell ⟨g, 6, none⟩ y6).setCell ⟨g, 7, none⟩ y7).heap[g]? = some (.cells #[y0, y1, y2, y3, y4, y5, y6, y7, x8, x9, x10, x11, x12, x13] t) := Bi.lies_set h6 7 _
  have h8 : (((((((((W.setCell ⟨g, 0, none⟩ y0).setCell ⟨g, 1, none⟩ y1).setCell ⟨g, 2, none⟩ y2).setCell ⟨g, 3, none⟩ y3).setCell ⟨g, 4, none⟩ y4).setCell ⟨g, 5, none⟩ y5).setCell ⟨g, 6, none⟩ y6).setCell ⟨g, 7, none⟩ y7).setCell ⟨g, 8, none⟩ y8).heap[g]? = some (.cells #[y0, y1, y2, y3, y4, y5, y6, y7, y8, x9, x10, x11, x12, x13] t) := Bi.lies_set h7 8 _
  have h9 : ((((((((((W.setCell ⟨g, 0, none⟩ y0).setCell ⟨g, 1, none⟩ y1).setCell ⟨g, 2, none⟩ y2).setCell ⟨g, 3, none⟩ y3).setCell ⟨g, 4, none⟩ y4).setCell ⟨g, 5, none⟩ y5).setCell ⟨g, 6, none⟩ y6).setCell ⟨g, 7, none⟩ y7).setCell ⟨g, 8, none⟩ y8).setCell ⟨g, 9, none⟩ y9).heap[g]? = some (.cells #[y0, y1, y2, y3, y4, y5, y6, y7, y8, y9, x10, x11, x12, x13] t) := Bi.lies_set h8 9 _
  have h10 : (((((((((((W.setCell ⟨g, 0, none⟩ y0).setCell ⟨g, 1, none⟩ y1).setCell ⟨g, 2, none⟩ y2).setCell ⟨g, 3, none⟩ y3).setCell ⟨g, 4, none⟩ y4).setCell ⟨g, 5, none⟩ y5).setCell ⟨g, 6, none⟩ y6).setCell ⟨g, 7, none⟩ y7).setCell ⟨g, 8, none⟩ y8).setCell ⟨g, 9, none⟩ y9).setCell ⟨g, 10, none⟩ y10).heap[g]? = some (.cells #[y0, y1, y2, y3, y4, y5, y6, y7, y8, y9, y10, x11, x12, x13] t) := Bi.lies_set h9 10 _
  have h11 : ((((((((((((W.setCell ⟨g, 0, none⟩ y0).setCell ⟨g, 1, none⟩ y1).setCell ⟨g, 2, none⟩ y2).setCell ⟨g, 3, none⟩ y3).setCell ⟨g, 4, none⟩ y4).setCell ⟨g, 5, none⟩ y5).setCell ⟨g, 6, none⟩ y6).setCell ⟨g, 7, none⟩ y7).setCell ⟨g, 8, none⟩ y8).setCell ⟨g, 9, none⟩ y9).setCell ⟨g, 10, none⟩ y10).setCell ⟨g, 11, none⟩ y11).heap[g]? = some (.cells #[y0, y1, y2, y3, y4, y5, y6, y7, y8, y9, y10, y11, x12, x13] t) := Bi.lies_set h10 11 _
  have h12 : (((((((((((((W.setCell ⟨g, 0, none⟩ y0).setCell ⟨g, 1, none⟩ y1).setCell ⟨g, 2, none⟩ y2).setCell ⟨g, 3, none⟩ y3).setCell ⟨g, 4, none⟩ y4).setCell ⟨g, 5, none⟩ y5).setCell ⟨g, 6, none⟩ y6).setCell ⟨g, 7, none⟩ y7).setCell ⟨g, 8, none⟩ y8).setCell ⟨g, 9, none⟩ y9).setCell ⟨g, 10, none⟩ y10).setCell ⟨g, 11, none⟩ y11).setCell ⟨g, 12, none⟩ y12).heap[g]? = some (.cells #[y0, y1, y2, y3, y4, y5, y6, y7, y8, y9, y10, y11, y12, x13] t) := Bi.lies_set h11 12 _
  have h13 : ((((((((((((((W.setCell ⟨g, 0, none⟩ y0).setCell ⟨g, 1, none⟩ y1).setCell ⟨g, 2, none⟩ y2).setCell ⟨g, 3, none⟩ y3).setCell ⟨g, 4, none⟩ y4).setCell ⟨g, 5, none⟩ y5).setCell ⟨g, 6, none⟩ y6).setCell ⟨g, 7, none⟩ y7).setCell ⟨g, 8, none⟩ y8).setCell ⟨g, 9, none⟩ y9).setCell ⟨g, 10, none⟩ y10).setCell ⟨g, 11, none⟩ y11).setCell ⟨g, 12, none⟩ y12).setCell ⟨g, 13, none⟩ y13).heap[g]? = some (.cells #[y0, y1, y2, y3, y4, y5, y6, y7, y8, y9, y10, y11, y12, y13] t) := Bi.lies_set h12 13 _
  exact ⟨lies_cell h0 0, lies_cell h1 1, lies_cell h2 2, lies_cell h3 3, lies_cell h4 4, lies_cell h5 5, lies_cell h6 6, lies_cell h7 7, lies_cell h8 8, lies_cell h9 9, lies_cell h10 10, lies_cell h11 11, lies_cell h12 12, lies_cell h13 13, h13⟩

theorem read_6 {W : World} {g : Nat} {x0 x1 x2 x3 x4 x5 y0 y1 y2 y3 y4 y5 : Value} {t : TypeId} (h : W.heap[g]? = some (.cells #[x0, x1, x2, x3, x4, x5] t)) :
    (W.setCell ⟨g, 0, none⟩ y0).cell? ⟨g, 0, none⟩ = some y0 ∧
    ((W.setCell ⟨g, 0, none⟩ y0).setCell ⟨g, 1, none⟩ y1).cell? ⟨g, 1, none⟩ = some y1 ∧
    (((W.setCell ⟨g, 0, none⟩ y0).setCell ⟨g, 1, none⟩ y1).setCell ⟨g, 2, none⟩ y2).cell? ⟨g, 2, none⟩ = some y2 ∧
    ((((W.setCell ⟨g, 0, none⟩ y0).setCell ⟨g, 1, none⟩ y1).setCell ⟨g, 2, none⟩ y2).setCell ⟨g, 3, none⟩ y3).cell? ⟨g, 3, none⟩ = some y3 ∧
    (((((W.setCell ⟨g, 0, none⟩ y0).setCell ⟨g, 1, none⟩ y1).setCell ⟨g, 2, none⟩ y2).setCell ⟨g, 3, none⟩ y3).setCell ⟨g, 4, none⟩ y4).cell? ⟨g, 4, none⟩ = some y4 ∧
    ((((((W.setCell ⟨g, 0, none⟩ y0).setCell ⟨g, 1, none⟩ y1).setCell ⟨g, 2, none⟩ y2).setCell ⟨g, 3, none⟩ y3).setCell ⟨g, 4, none⟩ y4).setCell ⟨g, 5, none⟩ y5).cell? ⟨g, 5, none⟩ = some y5 ∧
    ((((((W.setCell ⟨g, 0, none⟩ y0).setCell ⟨g, 1, none⟩ y1).setCell ⟨g, 2, none⟩ y2).setCell ⟨g, 3, none⟩ y3).setCell ⟨g, 4, none⟩ y4).setCell ⟨g, 5, none⟩ y5).heap[g]? = some (.cells #[y0, y1, y2, y3, y4, y5] t) := by
  have h0 : (W.setCell ⟨g, 0, none⟩ y0).heap[g]? = some (.cells #[y0, x1, x2, x3, x4, x5] t) := Bi.lies_set h 0 _
  have h1 : ((W.setCell ⟨g, 0, none⟩ y0).setCell ⟨g, 1, none⟩ y1).heap[g]? = some (.cells #[y0, y1, x2, x3, x4, x5] t) := Bi.lies_set h0 1 _
  have h2 : (((W.setCell ⟨g, 0, none⟩ y0).setCell ⟨g, 1, none⟩ y1).setCell ⟨g, 2, none⟩ y2).heap[g]? = some (.cells #[y0, y1, y2, x3, x4, x5] t) := Bi.lies_set h1 2 _
  have h3 : ((((W.setCell ⟨g, 0, none⟩ y0).setCell ⟨g, 1, none⟩ y1).setCell ⟨g, 2, none⟩ y2).setCell ⟨g, 3, none⟩ y3).heap[g]? = some (.cells #[y0, y1, y2, y3, x4, x5] t) := Bi.lies_set h2 3 _
  have h4 : (((((W.setCell ⟨g, 0, none⟩ y0).setCell ⟨g, 1, none⟩ y1).setCell ⟨g, 2, none⟩ y2).setCell ⟨g, 3, none⟩ y3).setCell ⟨g, 4, none⟩ y4).heap[g]? = some (.cells #[y0, y1, y2, y3, y4, x5] t) := Bi.lies_set h3 4 _
  have h5 : ((((((W.setCell ⟨g, 0, none⟩ y0).setCell ⟨g, 1, none⟩ y1).setCell ⟨g, 2, none⟩ y2).setCell ⟨g, 3, none⟩ y3).setCell ⟨g, 4, none⟩ y4).setCell ⟨g, 5, none⟩ y5).heap[g]? = some (.cells #[y0, y1, y2, y3, y4, y5] t) := Bi.lies_set h4 5 _
  exact ⟨lies_cell h0 0, lies_cell h1 1, lies_cell h2 2, lies_cell h3 3, lies_cell h4 4, lies_cell h5 5, h5⟩

theorem read_8 {W : World} {g : Nat} {x0 x1 x2 x3 x4 x5 x6 x7 y0 y1 y2 y3 y4 y5 y6 y7 : Value} {t : TypeId} (h : W.heap[g]? = some (.cells #[x0, x1, x2, x3, x4, x5, x6, x7] t)) :
    (W.setCell ⟨g, 0, none⟩ y0).cell? ⟨g, 0, none⟩ = some y0 ∧
    ((W.setCell ⟨g, 0, none⟩ y0).setCell ⟨g, 1, none⟩ y1).cell? ⟨g, 1, none⟩ = some y1 ∧
    (((W.setCell ⟨g, 0, none⟩ y0).setCell ⟨g, 1, none⟩ y1).setCell ⟨g, 2, none⟩ y2).cell? ⟨g, 2, none⟩ = some y2 ∧
    ((((W.setCell ⟨g, 0, none⟩ y0).setCell ⟨g, 1, none⟩ y1).setCell ⟨g, 2, none⟩ y2).setCell ⟨g, 3, none⟩ y3).cell? ⟨g, 3, none⟩ = some y3 ∧
    (((((W.setCell ⟨g, 0, none⟩ y0).setCell ⟨g, 1, none⟩ y1).setCell ⟨g, 2, none⟩ y2).setCell ⟨g, 3, none⟩ y3).setCell ⟨g, 4, none⟩ y4).cell? ⟨g, 4, none⟩ = some y4 ∧
    ((((((W.setCell ⟨g, 0, none⟩ y0).setCell ⟨g, 1, none⟩ y1).setCell ⟨g, 2, none⟩ y2).setCell ⟨g, 3, none⟩ y3).setCell ⟨g, 4, none⟩ y4).setCell ⟨g, 5, none⟩ y5).cell? ⟨g, 5, none⟩ = some y5 ∧
    (((((((W.setCell ⟨g, 0, none⟩ y0).setCell ⟨g, 1, none⟩ y1).setCell ⟨g, 2, none⟩ y2).setCell ⟨g, 3, none⟩ y3).setCell ⟨g, 4, none⟩ y4).setCell ⟨g, 5, none⟩ y5).setCell ⟨g, 6, none⟩ y6).cell? ⟨g, 6, none⟩ = some y6 ∧
    ((((((((W.setCell ⟨g, 0, none⟩ y0).setCell ⟨g, 1, none⟩ y1).setCell ⟨g, 2, none⟩ y2).setCell ⟨g, 3, none⟩ y3).setCell ⟨g, 4, none⟩ y4).setCell ⟨g, 5, none⟩ y5).setCell ⟨g, 6, none⟩ y6).setCell ⟨g, 7, none⟩ y7).cell? ⟨g, 7, none⟩ = some y7 ∧
    ((((((((W.setCell ⟨g, 0, none⟩ y0).setCell ⟨g, 1, none⟩ y1).setCell ⟨g, 2, none⟩ y2).setCell ⟨g, 3, none⟩ y3).setCell ⟨g, 4, none⟩ y4).setCell ⟨g, 5, none⟩ y5).setCell ⟨g, 6, none⟩ y6).setCell ⟨g, 7, none⟩ y7).heap[g]? = some (.cells #[y0, y1, y2, y3, y4, y5, y6, y7] t) := by
  have h0 : (W.setCell ⟨g, 0, none⟩ y0).heap[g]? = some (.cells #[y0, x1, x2, x3, x4, x5, x6, x7] t) := Bi.lies_set h 0 _
  have h1 : ((W.setCell ⟨g, 0, none⟩ y0).setCell ⟨g, 1, none⟩ y1).heap[g]? = some (.cells #[y0, y1, x2, x3, x4, x5, x6, x7] t) := Bi.lies_set h0 1 _
  have h2 : (((W.setCell ⟨g, 0, none⟩ y0).setCell ⟨g, 1, none⟩ y1).setCell ⟨g, 2, none⟩ y2).heap[g]? = some (.cells #[y0, y1, y2, x3, x4, x5, x6, x7] t) := Bi.lies_set h1 2 _
  have h3 : ((((W.setCell ⟨g, 0, none⟩ y0).setCell ⟨g, 1, none⟩ y1).setCell ⟨g, 2, none⟩ y2).setCell ⟨g, 3, none⟩ y3).heap[g]? = some (.cells #[y0, y1, y2, y3, x4, x5, x6, x7] t) := Bi.lies_set h2 3 _
  have h4 : (((((W.setCell ⟨g, 0, none⟩ y0).setCell ⟨g, 1, none⟩ y1).setCell ⟨g, 2, none⟩ y2).setCell ⟨g, 3, none⟩ y3).setCell ⟨g, 4, none⟩ y4).heap[g]? = some (.cells #[y0, y1, y2, y3, y4, x5, x6, x7] t) := Bi.lies_set h3 4 _
  have h5 : ((((((W.setCell ⟨g, 0, none⟩ y0).setCell ⟨g, 1, none⟩ y1).setCell ⟨g, 2, none⟩ y2).setCell ⟨g, 3, none⟩ y3).setCell ⟨g, 4, none⟩ y4).setCell ⟨g, 5, none⟩ y5).heap[g]? = some (.cells #[y0, y1, y2, y3, y4, y5, x6, x7] t) := Bi.lies_set h4 5 _
  have h6 : (((((((W.setCell ⟨g, 0, none⟩ y0).setCell ⟨g, 1, none⟩ y1).setCell ⟨g, 2, none⟩ y2).setCell ⟨g, 3, none⟩ y3).setCell ⟨g, 4, none⟩ y4).setCell ⟨g, 5, none⟩ y5).setCell ⟨g, 6, none⟩ y6).heap[g]? = some (.cells #[y0, y1, y2, y3, y4, y5, y6, x7] t) := Bi.lies_set h5 6 _
  have h7 : ((((((((W.setCell ⟨g, 0, none⟩ y0).setCell ⟨g, 1, none⟩ y1).setCell ⟨g, 2, none⟩ y2).setCell ⟨g, 3, none⟩ y3).setCell ⟨g, 4, none⟩ y4).setCell ⟨g, 5, none⟩ y5).setCell ⟨g, 6, none⟩ y6).setCell ⟨g, 7, none⟩ y7).heap[g]? = some (.cells #[y0, y1, y2, y3, y4, y5, y6, y7] t) := Bi.lies_set h6 7 _
  exact ⟨lies_cell h0 0, lies_cell h1 1, lies_cell h2 2, lies_cell h3 3, lies_cell h4 4, lies_cell h5 5, lies_cell h6 6, lies_cell h7 7, h7⟩

/-- Stores into one of the call's own blocks. -/
theorem below_14 {B g : Nat} {A X : World} (h : Below B A X) (hg : B ≤ g) (y0 y1 y2 y3 y4 y5 y6 y7 y8 y9 y10 y11 y12 y13 : Value) : Below B A ((((((((((((((X.setCell ⟨g, 0, none⟩ y0).setCell ⟨g, 1, none⟩ y1).setCell ⟨g, 2, none⟩ y2).setCell ⟨g, 3, none⟩ y3).setCell ⟨g, 4, none⟩ y4).setCell ⟨g, 5, none⟩ y5).setCell ⟨g, 6, none⟩ y6).setCell ⟨g, 7, none⟩ y7).setCell ⟨g, 8, none⟩ y8).setCell ⟨g, 9, none⟩ y9).setCell ⟨g, 10, none⟩ y10).setCell ⟨g, 11, none⟩ y11).setCell ⟨g, 12, none⟩ y12).setCell ⟨g, 13, none⟩ y13) := by
  have e : ∀ {Y : World} (k : Nat) (v : Value), Below B A Y → Below B A (Y.setCell ⟨g, k, none⟩ v) := fun {Y} k v hY => hY.setCell (show B ≤ (⟨g, k, none⟩ : Addr).block from hg) v
  exact e _ _ (e _ _ (e _ _ (e _ _ (e _ _ (e _ _ (e _ _ (e _ _ (e _ _ (e _ _ (e _ _ (e _ _ (e _ _ (e _ _ (h))))))))))))))
theorem below_6 {B g : Nat} {A X : World} (h : Below B A X) (hg : B ≤ g) (y0 y1 y2 y3 y4 y5 : Value) : Below B A ((((((X.setCell ⟨g, 0, none⟩ y0).setCell ⟨g, 1, none⟩ y1).setCell ⟨g, 2, none⟩ y2).setCell ⟨g, 3, none⟩ y3).setCell ⟨g, 4, none⟩ y4).setCell ⟨g, 5, none⟩ y5) := by
  have e : ∀ {Y : World} (k : Nat) (v : Value), Below B A Y → Below B A (Y.setCell ⟨g, k, none⟩ v) := fun {Y} k v hY => hY.setCell (show B ≤ (⟨g, k, none⟩ : Addr).block from hg) v
  exact e _ _ (e _ _ (e _ _ (e _ _ (e _ _ (e _ _ (h))))))
theorem below_8 {B g : Nat} {A X : World} (h : Below B A X) (hg : B ≤ g) (y0 y1 y2 y3 y4 y5 y6 y7 : Value) : Below B A ((((((((X.setCell ⟨g, 0, none⟩ y0).setCell ⟨g, 1, none⟩ y1).setCell ⟨g, 2, none⟩ y2).setCell ⟨g, 3, none⟩ y3).setCell ⟨g, 4, none⟩ y4).setCell ⟨g, 5, none⟩ y5).setCell ⟨g, 6, none⟩ y6).setCell ⟨g, 7, none⟩ y7) := by
  have e : ∀ {Y : World} (k : Nat) (v : Value), Below B A Y → Below B A (Y.setCell ⟨g, k, none⟩ v) := fun {Y} k v hY => hY.setCell (show B ≤ (⟨g, k, none⟩ : Addr).block from hg) v
  exact e _ _ (e _ _ (e _ _ (e _ _ (e _ _ (e _ _ (e _ _ (e _ _ (h))))))))

abbrev q0 : Q4 := ⟨0, 0, 0, 0⟩
abbrev pk0 : Value := pk 0 false 0 0 0 q0 q0 ⟨#[]⟩
abbrev pkz : Obj := .cells #[.int .i64 0, .bool false, .int .i64 0, .int .i64 0, .int .i64 0, .int .u8 0, .int .u8 0, .int .u8 0, .int .u8 0, .int .u8 0, .int .u8 0, .int .u8 0, .int .u8 0, .string ⟨#[]⟩] 34
theorem cells4 {w : World} {g : Nat} {t : TypeId} {x0 x1 x2 x3 : Value} (h : w.heap[g]? = some (.cells #[x0, x1, x2, x3] t)) : (w.cell? ⟨g, 0, none⟩ = some x0) ∧ (w.cell? ⟨g, 1, none⟩ = some x1) ∧ (w.cell? ⟨g, 2, none⟩ = some x2) ∧ (w.cell? ⟨g, 3, none⟩ = some x3) :=
  ⟨lies_cell h 0, lies_cell h 1, lies_cell h 2, lies_cell h 3⟩
theorem cell_alloc {X : World} {g k : Nat} {v : Value} (h : X.cell? ⟨g, k, none⟩ = some v) (o : Obj) : (X.alloc o).cell? ⟨g, k, none⟩ = some v := by
  have hlt : g < X.heap.size := by
    rcases Nat.lt_or_ge g X.heap.size with h1 | h1
    · exact h1
    · simp [World.cell?, Array.getElem?_eq_none h1] at h
  exact (World.cell?_of_block (Below.heap_alloc X o g hlt)).trans h

theorem cell_alloc_drew {X : World} {g k : Nat} {v : Value} (h : X.cell? ⟨g, k, none⟩ = some v) (o : Obj) : (X.alloc o).drew.cell? ⟨g, k, none⟩ = some v := cell_alloc h o

/-- The packet, and the head, that twenty bytes are. -/
abbrev hpk (h : H20) : Value := pk (PitotAddr.num h.i1 h.i0 : Nat) ((PitotAddr.num h.p1 h.p0 / 8192 % 2 : Nat) == (1 : Int)) (PitotAddr.num h.p1 h.p0 % 8192 : Nat) h.t.toNat h.r.toNat h.src h.dst ⟨#[]⟩
abbrev hhd (h : H20) : Value := hd h.k.toNat h.z.toNat (PitotAddr.num h.p1 h.p0 / 32768 : Nat) (PitotAddr.num h.p1 h.p0 / 16384 % 2 : Nat) (PitotAddr.num h.n1 h.n0 : Nat) (PitotAddr.num h.s1 h.s0 : Nat)

end Go.Proofs.Ytgdjcoodjdckkaa
/- Contracts of Join at nothing, and of awake. -/
set_option maxRecDepth 100000
namespace Go.Proofs.Ytgdjcoodjdckkaa
open Go.RowKit Go.Proofs.PitotFrag
open Go.Proofs.Ytgdjcoodjdckkaa.Bi (lies_lt lies_cell lies_frozen lies_alloc)

set_option maxHeartbeats 1000000 in
theorem join_none (w : World) : Calls Try.prog 21 #[.slice none 0 0] w fun e w' => e = .returned (.tuple #[pk0, .int .i64 23]) ∧ Below w.heap.size w w' := by
  go_enter Try.func21, Try.ntmps21
  go_wp2
  (try simp only [Exit.inBlock, Exit.then])
  refine bodyPost_ret (by simp [results, Try.results21, go_sem]; try rfl) rfl ?_
  exact ⟨rfl, (Below.refl _ _).alloc (Nat.le_refl _) _⟩

end Go.Proofs.Ytgdjcoodjdckkaa
/- Packets in memory, one behind the other; and judge. -/
set_option maxRecDepth 100000
namespace Go.Proofs.Ytgdjcoodjdckkaa
open Go.RowKit Go.Proofs.PitotFrag Go.Proofs.PitotIp
open Go.Proofs.Ytgdjcoodjdckkaa.Bi (lies_lt lies_cell lies_frozen lies_alloc)

/-- A packet. -/
structure Pk where
  id : Int
  m : Bool
  off : Int
  ttl : Int
  pr : Int
  a : Q4
  b : Q4
  s : ByteArray
abbrev Pk.val (p : Pk) : Value := pk p.id p.m p.off p.ttl p.pr p.a p.b p.s
abbrev Pk.obj (p : Pk) : Obj := pkC p.id p.m p.off p.ttl p.pr p.a p.b p.s
abbrev Pk.enc (p : Pk) : List Value := [.int .i64 p.id, .bool p.m, .int .i64 p.off, .int .i64 p.ttl, .int .i64 p.pr, .int .u8 p.a.a.toNat, .int .u8 p.a.b.toNat, .int .u8 p.a.c.toNat, .int .u8 p.a.d.toNat, .int .u8 p.b.a.toNat, .int .u8 p.b.b.toNat, .int .u8 p.b.c.toNat, .int .u8 p.b.d.toNat, .string p.s]
theorem Pk.enc_length (p : Pk) : p.enc.length = 14 := rfl
theorem Pk.enc_one (p : Pk) : ∀ u ∈ p.enc, u.oneCell' = true := by
  intro u hu
  simp only [Pk.enc, List.mem_cons, List.not_mem_nil, or_false] at hu
  rcases hu with rfl | rfl | rfl | rfl | rfl | rfl | rfl | rfl | rfl | rfl | rfl | rfl | rfl | rfl <;> rfl
def flatP (l : List Pk) : List Value := l.flatMap Pk.enc
theorem flatP_snoc (l : List Pk) (p : Pk) : flatP (l ++ [p]) = flatP l ++ p.enc := by simp [flatP]
theorem flatP_length : ∀ l : List Pk, (flatP l).length = l.length * 14
  | [] => rfl
  | x :: r => by
    show (x.enc ++ flatP r).length = _
    rw [List.length_append, Pk.enc_length, flatP_length r]; simp; omega
theorem flatP_get : ∀ (l : List Pk) (i : Nat) (h : i < l.length) (j : Nat), j < 14 → (flatP l)[i * 14 + j]? = l[i].enc[j]?
  | x :: r, 0, _, j, hj => by
    show (x.enc ++ flatP r)[0 * 14 + j]? = _
    rw [Nat.zero_mul, Nat.zero_add, List.getElem?_append_left (by rw [Pk.enc_length]; exact hj)]
    rfl
  | x :: r, i + 1, h, j, hj => by
    show (x.enc ++ flatP r)[(i + 1) * 14 + j]? = _
    rw [List.getElem?_append_right (by rw [Pk.enc_length]; omega), Pk.enc_length, show (i + 1) * 14 + j - 14 = i * 14 + j by omega, flatP_get r i (by simpa using h) j hj]
    rfl

/-- A packet's cells. -/
def PkAt (w : World) (b o : Nat) (p : Pk) : Prop :=
  w.cell? ⟨b, o, none⟩ = some (.int .i64 p.id) ∧ w.cell? ⟨b, o + 1, none⟩ = some (.bool p.m) ∧ w.cell? ⟨b, o + 2, none⟩ = some (.int .i64 p.off) ∧ w.cell? ⟨b, o + 3, none⟩ = some (.int .i64 p.ttl) ∧ w.cell? ⟨b, o + 4, none⟩ = some (.int .i64 p.pr) ∧ w.cell? ⟨b, o + 5, none⟩ = some (.int .u8 p.a.a.toNat) ∧ w.cell? ⟨b, o + 6, none⟩ = some (.int .u8 p.a.b.toNat) ∧ w.cell? ⟨b, o + 7, none⟩ = some (.int .u8 p.a.c.toNat) ∧ w.cell? ⟨b, o + 8, none⟩ = some (.int .u8 p.a.d.toNat) ∧ w.cell? ⟨b, o + 9, none⟩ = some (.int .u8 p.b.a.toNat) ∧ w.cell? ⟨b, o + 10, none⟩ = some (.int .u8 p.b.b.toNat) ∧ w.cell? ⟨b, o + 11, none⟩ = some (.int .u8 p.b.c.toNat) ∧ w.cell? ⟨b, o + 12, none⟩ = some (.int .u8 p.b.d.toNat) ∧ w.cell? ⟨b, o + 13, none⟩ = some (.string p.s)
/-- Packets as they lie in memory. -/
def PksAt (w : World) (A : Option Addr) (l : List Pk) : Prop :=
  l ≠ [] → ∃ b off, A = some ⟨b, off, none⟩ ∧ b < w.heap.size ∧ ∀ i (h : i < l.length), PkAt w b (off + i * 14) l[i]
theorem PksAt.get {w : World} {A : Option Addr} {l : List Pk} (h : PksAt w A l) {k : Nat} (hk : k < l.length) :
    ∃ b off, A = some ⟨b, off, none⟩ ∧ b < w.heap.size ∧ PkAt w b (off + k * 14) l[k] := by
  obtain ⟨b, off, h1, h2, h3⟩ := h (fun e => by subst e; simp at hk)
  exact ⟨b, off, h1, h2, h3 k hk⟩
theorem PkAt.of_cells {w w' : World} {b o : Nat} {p : Pk} (h : PkAt w b o p) (hc : ∀ k, w'.cell? ⟨b, k, none⟩ = w.cell? ⟨b, k, none⟩) : PkAt w' b o p := by
  obtain ⟨h0, h1, h2, h3, h4, h5, h6, h7, h8, h9, h10, h11, h12, h13⟩ := h
  exact ⟨(hc _).trans h0, (hc _).trans h1, (hc _).trans h2, (hc _).trans h3, (hc _).trans h4, (hc _).trans h5, (hc _).trans h6, (hc _).trans h7, (hc _).trans h8, (hc _).trans h9, (hc _).trans h10, (hc _).trans h11, (hc _).trans h12, (hc _).trans h13⟩
theorem PkAt.below {w w' : World} {b o B : Nat} {p : Pk} (h : PkAt w b o p) (hb : Below B w w') (hlt : b < B) : PkAt w' b o p :=
  h.of_cells fun _ => hb.cell hlt
theorem PksAt.below {w w' : World} {A : Option Addr} {l : List Pk} (h : PksAt w A l) (hb : Below w.heap.size w w') : PksAt w' A l := by
  intro hne
  obtain ⟨b, off, h1, h2, h3⟩ := h hne
  exact ⟨b, off, h1, Nat.lt_of_lt_of_le h2 hb.size, fun i hi => (h3 i hi).below hb h2⟩
theorem PksAt.of_row {w : World} {base : Nat} {v : Value} {l : List Pk} {n : Nat} (h : w.ownsRow base 34 14 v n (flatP l)) (hn : n = l.length) (hpos : 0 < n) : ∃ g cap, v = .slice (some ⟨g, 0, none⟩) n cap ∧ base ≤ g ∧ g < w.heap.size ∧ PksAt w (some ⟨g, 0, none⟩) l := by
  obtain ⟨g, cap, rfl, hg, hlt⟩ := h.form hpos
  refine ⟨g, cap, rfl, hg, hlt, fun _ => ⟨g, 0, rfl, hlt, fun i hi => ?_⟩⟩
  have hc : ∀ j (hj : j < 14), w.cell? ⟨g, 0 + i * 14 + j, none⟩ = some (l[i].enc[j]'(by rw [Pk.enc_length]; exact hj)) := fun j hj => by
    have := h.cells (g := g) rfl (i * 14 + j) (l[i].enc[j]'(by rw [Pk.enc_length]; exact hj)) (by rw [flatP_get l i hi j hj]; exact List.getElem?_eq_getElem _)
    rw [show (⟨g, 0, none⟩ : Addr).add (i * 14 + j) = ⟨g, i * 14 + j, none⟩ by unfold Addr.add; split <;> simp_all] at this
    rw [Nat.zero_add]
    exact this
  exact ⟨hc 0 (by omega), hc 1 (by omega), hc 2 (by omega), hc 3 (by omega), hc 4 (by omega), hc 5 (by omega), hc 6 (by omega), hc 7 (by omega), hc 8 (by omega), hc 9 (by omega), hc 10 (by omega), hc 11 (by omega), hc 12 (by omega), hc 13 (by omega)⟩

/-- What judge answers. -/
def jd (p : Pk) (ahead : Nat) (last : Bool) : Int :=
  if p.off ≠ ((ahead / 8 : Nat) : Int) then 25 else if p.m = true ∧ (p.s.size = 0 ∨ p.s.size % 8 ≠ 0) then 15 else if p.m = false ∧ last = false then 25 else 0

set_option maxHeartbeats 1000000 in
theorem judge_any (p : Pk) (ahead : Nat) (last : Bool) (hs : p.s.size ≤ 1000000) (hh : ahead ≤ 1000000000) (w : World) :
    Calls Try.prog 41 #[p.val, .int .i64 ahead, .bool last] w fun e w' => e = .returned (.int .i64 (jd p ahead last)) ∧ Below w.heap.size w w' := by
  obtain ⟨id, m, off, ttl, pr, a, b, s⟩ := p
  have kb : Hid (Below w.heap.size w (w.alloc (pkC id m off ttl pr a b s))) := (Below.refl _ w).alloc (Nat.le_refl _) _
  obtain ⟨J, HJ⟩ : ∃ J, Hid (J = jd ⟨id, m, off, ttl, pr, a, b, s⟩ ahead last) := ⟨_, rfl⟩
  rw [← HJ.out]
  by_cases h1 : off = (ahead : Int) / 8
  · subst h1
    cases m
    · cases last
      · have HR : Hid (J = 25) := by show _ = _; rw [HJ.out]; simp [jd]
        rw [HR.out]; clear HJ HR
        go_enter Try.func41, Try.ntmps41
        go_wp2
        go_returns
        exact ⟨rfl, kb.out⟩
      · have HR : Hid (J = 0) := by show _ = _; rw [HJ.out]; simp [jd]
        rw [HR.out]; clear HJ HR
        go_enter Try.func41, Try.ntmps41
        go_wp2
        go_returns
        exact ⟨rfl, kb.out⟩
    · by_cases h2 : s.size = 0
      · have HR : Hid (J = 15) := by show _ = _; rw [HJ.out]; simp [jd, h2]
        rw [HR.out]; clear HJ HR
        have h3 : (s.toList == []) = true := by
          have : s.toList = [] := by rw [ByteArray.toList_eq]; exact List.length_eq_zero_iff.1 (by simpa using h2)
          rw [this]; rfl
        go_enter Try.func41, Try.ntmps41
        go_wp2
        go_returns
        exact ⟨rfl, kb.out⟩
      · have h3 : (s.toList == []) = false := by
          have : s.toList ≠ [] := by rw [ByteArray.toList_eq]; intro e; apply h2; have := congrArg List.length e; simpa using this
          simpa using this
        by_cases h4 : s.size % 8 = 0
        · have HR : Hid (J = 0) := by show _ = _; rw [HJ.out]; simp [jd, h2, h4]
          rw [HR.out]; clear HJ HR
          have h5 : (s.size : Int) % 8 = 0 := by omega
          go_enter Try.func41, Try.ntmps41
          go_wp2
          go_returns
          exact ⟨rfl, kb.out⟩
        · have HR : Hid (J = 15) := by show _ = _; rw [HJ.out]; simp [jd, h4]
          rw [HR.out]; clear HJ HR
          have h5 : ¬ (s.size : Int) % 8 = 0 := by omega
          go_enter Try.func41, Try.ntmps41
          go_wp2
          go_returns
          exact ⟨rfl, kb.out⟩
  · have HR : Hid (J = 25) := by show _ = _; rw [HJ.out]; simp [jd, h1]
    rw [HR.out]; clear HJ HR
    go_enter Try.func41, Try.ntmps41
    go_wp2
    go_returns
    exact ⟨rfl, kb.out⟩
end Go.Proofs.Ytgdjcoodjdckkaa
/- Keys in memory, one behind the other; the function that tells one from the others; slices.IndexFunc over it. -/
set_option maxRecDepth 100000
namespace Go.Proofs.Ytgdjcoodjdckkaa
open Go.RowKit Go.Proofs.PitotIp Go.Maps
open Go.Proofs.Ytgdjcoodjdckkaa.Bi (lies_lt lies_cell lies_frozen lies_alloc lies_set)

theorem K.enc_length (k : K) : k.enc.length = 10 := rfl
theorem K.enc_one (k : K) : ∀ u ∈ k.enc, u.oneCell' = true := by
  intro u hu
  simp only [K.enc, List.mem_cons, List.not_mem_nil, or_false] at hu
  rcases hu with rfl | rfl | rfl | rfl | rfl | rfl | rfl | rfl | rfl | rfl <;> rfl
def flatK (l : List K) : List Value := l.flatMap K.enc
theorem flatK_nil : flatK [] = [] := rfl
theorem flatK_cons (k : K) (l : List K) : flatK (k :: l) = k.enc ++ flatK l := rfl
theorem flatK_append (l r : List K) : flatK (l ++ r) = flatK l ++ flatK r := by simp [flatK]
theorem flatK_length : ∀ l : List K, (flatK l).length = l.length * 10
  | [] => rfl
  | x :: r => by
    rw [flatK_cons, List.length_append, K.enc_length, flatK_length r]; simp; omega
theorem flatK_get : ∀ (l : List K) (i : Nat) (h : i < l.length) (j : Nat), j < 10 → (flatK l)[i * 10 + j]? = l[i].enc[j]?
  | x :: r, 0, _, j, hj => by
    rw [flatK_cons, Nat.zero_mul, Nat.zero_add, List.getElem?_append_left (by rw [K.enc_length]; exact hj)]
    rfl
  | x :: r, i + 1, h, j, hj => by
    rw [flatK_cons, List.getElem?_append_right (by rw [K.enc_length]; omega), K.enc_length, show (i + 1) * 10 + j - 10 = i * 10 + j by omega, flatK_get r i (by simpa using h) j hj]
    rfl
abbrev K.obj (k : K) : Obj := .cells #[.int .u8 k.a.a.toNat, .int .u8 k.a.b.toNat, .int .u8 k.a.c.toNat, .int .u8 k.a.d.toNat, .int .u8 k.b.a.toNat, .int .u8 k.b.b.toNat, .int .u8 k.b.c.toNat, .int .u8 k.b.d.toNat, .int .i64 k.pr, .int .i64 k.id] 52

/-- A Key's cells. -/
def KAt (w : World) (b o : Nat) (k : K) : Prop :=
  w.cell? ⟨b, o, none⟩ = some (.int .u8 k.a.a.toNat) ∧ w.cell? ⟨b, o + 1, none⟩ = some (.int .u8 k.a.b.toNat) ∧ w.cell? ⟨b, o + 2, none⟩ = some (.int .u8 k.a.c.toNat) ∧ w.cell? ⟨b, o + 3, none⟩ = some (.int .u8 k.a.d.toNat) ∧ w.cell? ⟨b, o + 4, none⟩ = some (.int .u8 k.b.a.toNat) ∧ w.cell? ⟨b, o + 5, none⟩ = some (.int .u8 k.b.b.toNat) ∧ w.cell? ⟨b, o + 6, none⟩ = some (.int .u8 k.b.c.toNat) ∧ w.cell? ⟨b, o + 7, none⟩ = some (.int .u8 k.b.d.toNat) ∧ w.cell? ⟨b, o + 8, none⟩ = some (.int .i64 k.pr) ∧ w.cell? ⟨b, o + 9, none⟩ = some (.int .i64 k.id)
theorem cells10 {w : World} {b : Nat} {k : K} (h : w.heap[b]? = some k.obj) : KAt w b 0 k := by
  have hc := lies_cell h
  exact ⟨hc 0, hc 1, hc 2, hc 3, hc 4, hc 5, hc 6, hc 7, hc 8, hc 9⟩
/-- Keys as they lie in a block. -/
def RowK (w : World) (o cap : Nat) (ks : List K) : Prop :=
  ∃ cur : Array Value, w.heap[o]? = some (.cells cur 52) ∧ cur.size = cap * 10 ∧ ks.length ≤ cap ∧ cap ≤ maxLen ∧ cur.toList.take (ks.length * 10) = flatK ks
theorem RowK.lt {w : World} {o cap : Nat} {ks : List K} (h : RowK w o cap ks) : o < w.heap.size := by
  obtain ⟨cur, h1, _⟩ := h
  exact lies_lt h1
theorem RowK.below {w w' : World} {o cap B : Nat} {ks : List K} (h : RowK w o cap ks) (hb : Below B w w') (hlt : o < B) : RowK w' o cap ks := by
  obtain ⟨cur, h1, h2⟩ := h
  exact ⟨cur, (hb.block o hlt).trans h1, h2⟩
theorem RowK.at {w : World} {o cap : Nat} {ks : List K} (h : RowK w o cap ks) (i : Nat) (hi : i < ks.length) : KAt w o (i * 10) ks[i] := by
  obtain ⟨cur, h1, h2, h3, h4, h5⟩ := h
  have hc : ∀ j (hj : j < 10), w.cell? ⟨o, i * 10 + j, none⟩ = some (ks[i].enc[j]'(by rw [K.enc_length]; exact hj)) := fun j hj => by
    rw [lies_cell h1]
    have e : cur.toList[i * 10 + j]? = (flatK ks)[i * 10 + j]? := by
      rw [← h5, List.getElem?_take_of_lt (by omega)]
    rw [← Array.getElem?_toList, e, flatK_get ks i hi j hj]
    exact List.getElem?_eq_getElem _
  exact ⟨hc 0 (by omega), hc 1 (by omega), hc 2 (by omega), hc 3 (by omega), hc 4 (by omega), hc 5 (by omega), hc 6 (by omega), hc 7 (by omega), hc 8 (by omega), hc 9 (by omega)⟩
/-- A row that a call owns. -/
theorem RowK.of_own {w : World} {base n : Nat} {v : Value} {ks : List K} (h : w.ownsRow base 52 10 v n (flatK ks)) (hpos : 0 < n) : ∃ o cap, v = .slice (some ⟨o, 0, none⟩) n cap ∧ base ≤ o ∧ n = ks.length ∧ RowK w o cap ks := by
  have hl := h.1
  rw [flatK_length] at hl
  have hn : n = ks.length := by omega
  rcases h.2 with ⟨_, h0⟩ | ⟨g, cap, cur, hv, hg, h1, h2, h3, h4, h5⟩
  · omega
  · exact ⟨g, cap, hv, hg, hn, cur, h1, h4, by omega, h3, by rw [← hn]; exact h5⟩
theorem RowK.own {w : World} {base o cap : Nat} {ks : List K} (h : RowK w o cap ks) (hb : base ≤ o) : w.ownsRow base 52 10 (.slice (some ⟨o, 0, none⟩) ks.length cap) ks.length (flatK ks) := by
  obtain ⟨cur, h1, h2, h3, h4, h5⟩ := h
  exact ⟨flatK_length ks, .inr ⟨o, cap, cur, rfl, hb, h1, h3, h4, h2, h5⟩⟩

/-- Cells are stored in a block. -/
theorem heap_setCells : ∀ (vs : List Value) (o : Nat) (w : World) (b : Nat) (cur : Array Value) (t : TypeId), w.heap[b]? = some (.cells cur t) → (w.setCells b o vs).heap[b]? = some (.cells (Lib.lay cur o vs) t)
  | [], _, _, _, _, _, h => h
  | v :: r, o, _, b, _, t, h => heap_setCells r (o + 1) _ b _ t (lies_set h o v)
theorem RowK.put {w : World} {o cap : Nat} {ks : List K} (h : RowK w o cap ks) (i : Nat) (hi : i < ks.length) (x : K) : RowK (w.setCells o (i * 10) x.enc) o cap (ks.set i x) := by
  obtain ⟨cur, h1, h2, h3, h4, h5⟩ := h
  refine ⟨Lib.lay cur (i * 10) x.enc, heap_setCells _ _ _ _ _ _ h1, by rw [Lib.lay_size]; exact h2, by simpa using h3, h4, ?_⟩
  have hcs : cur.toList.length = cap * 10 := by simpa using h2
  apply List.ext_getElem?
  intro j
  by_cases hj : j < ks.length * 10
  · rw [List.getElem?_take_of_lt (by simpa using hj), Array.getElem?_toList, Lib.lay_get? _ _ _ _ (by rw [K.enc_length, h2]; omega)]
    obtain ⟨q, r, hr, rfl⟩ : ∃ q r, r < 10 ∧ j = q * 10 + r := ⟨j / 10, j % 10, Nat.mod_lt _ (by omega), by omega⟩
    have hq : q < ks.length := by omega
    rw [flatK_get (ks.set i x) q (by simpa using hq) r hr, K.enc_length]
    by_cases e : q = i
    · subst e
      rw [if_pos (by omega)]
      simp
    · rw [if_neg (by omega)]
      have e2 : cur[q * 10 + r]? = (flatK ks)[q * 10 + r]? := by
        rw [← h5, List.getElem?_take_of_lt hj, Array.getElem?_toList]
      rw [e2, flatK_get ks q hq r hr, List.getElem_set_ne (fun h => e h.symm)]
  · rw [List.getElem?_eq_none (by simp [Lib.lay_size]; omega), List.getElem?_eq_none (by rw [flatK_length]; simp; omega)]
theorem RowK.there {w : World} {o cap : Nat} {ks : List K} (h : RowK w o cap ks) (i : Nat) (hi : i < ks.length) : w.there o (i * 10) 10 := by
  obtain ⟨cur, h1, h2, h3, h4, h5⟩ := h
  intro j hj
  refine ⟨?_, lies_frozen h1 _⟩
  rw [lies_cell h1, Array.getElem?_eq_getElem (by omega)]
  rfl
/-- Of the first keys alone. -/
theorem RowK.cut {w : World} {o cap : Nat} {ks : List K} (h : RowK w o cap ks) (n : Nat) : RowK w o cap (ks.take n) := by
  obtain ⟨cur, h1, h2, h3, h4, h5⟩ := h
  refine ⟨cur, h1, h2, by simp; omega, h4, ?_⟩
  have e : flatK (ks.take n) = (flatK ks).take ((ks.take n).length * 10) := by
    have e1 : flatK ks = flatK (ks.take n) ++ flatK (ks.drop n) := by rw [← flatK_append, List.take_append_drop]
    rw [e1, List.take_left' (flatK_length _)]
  rw [e, ← h5, List.take_take]
  congr 1
  all_goals (first | (simp; omega) | simp)

theorem eqK (x y : K) (w : World) : (Go.Op.equalIn 10000 52 x.val y.val).run Try.prog w = .ok (decide (x = y)) w := by
  obtain ⟨r, h, hr⟩ := run_equal_deep w (m := 3) (by omega) (by kernel_rfl) wide52 (key_kl x) (key_kl y)
  have h' : (Go.Op.equalIn 10000 52 x.val y.val).run Try.prog w = .ok r w := h
  rw [h']
  congr 1
  by_cases e : x = y
  · subst e; rw [decide_eq_true rfl]; exact hr.2 rfl
  · rw [decide_eq_false e]
    cases r
    · rfl
    · exact absurd (kl_inj (hr.1 rfl)) e

set_option maxHeartbeats 1000000 in
/-- The function that tells a Key from the others. -/
theorem tell_any (w : World) (c : Nat) (k x : K) (hk : w.heap[c]? = some k.obj) :
    Calls Try.prog 45 #[x.val, .pointer (some ⟨c, 0, none⟩)] w fun e w' => e = .returned (.bool (decide (x = k))) ∧ Below w.heap.size w w' := by
  have kb : Hid (Below w.heap.size w (w.alloc x.obj)) := (Below.refl _ w).alloc (Nat.le_refl _) _
  have HE : ∀ w, (Go.Op.equalIn 10000 52 x.val k.val).run Try.prog w = .ok (decide (x = k)) w := eqK x k
  have hc := cells10 (lies_alloc hk x.obj)
  obtain ⟨R, HR⟩ : ∃ R, Hid (R = decide (x = k)) := ⟨_, rfl⟩
  rw [← HR.out] at HE ⊢
  have hlt := lies_lt hk
  clear hk
  obtain ⟨c0, c1, c2, c3, c4, c5, c6, c7, c8, c9⟩ := hc
  simp only [K.val] at HE
  simp only [Nat.zero_add] at c1 c2 c3 c4 c5 c6 c7 c8 c9
  simp only [K.val]
  go_enter Try.func45, Try.ntmps45
  go_wp2

  go_returns
  exact ⟨rfl, kb.out⟩
end Go.Proofs.Ytgdjcoodjdckkaa
