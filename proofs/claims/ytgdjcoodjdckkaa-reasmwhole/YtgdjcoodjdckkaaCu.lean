/- Contract of cut: a packet as so many parts. -/
import Derived.Test.YtgdjcoodjdckkaaPk
import Derived.Test.YtgdjcoodjdckkaaBiWy
import Derived.Laws.MakeOwn
import Derived.ScopeJumps
import Derived.WalkMore
set_option maxRecDepth 100000
namespace Go.Proofs.Ytgdjcoodjdckkaa
open Go.RowKit Go.Proofs.PitotFrag Go.Proofs.PitotIp
open Go.Proofs.Ytgdjcoodjdckkaa.Bi (lies_lt lies_cell lies_frozen lies_alloc lies_set)

def bl (l : List UInt8) : ByteArray := ⟨l.toArray⟩
theorem bl_size (l : List UInt8) : (bl l).size = l.length := by show l.toArray.size = _; simp
theorem bl_list (l : List UInt8) : (bl l).data.toList = l := by simp [bl]
theorem bl_of (s : ByteArray) : bl s.data.toList = s := rfl
theorem bl_extract (l : List UInt8) (i j : Nat) : (bl l).extract i j = bl ((l.drop i).take (j - i)) := by
  apply ByteArray.ext
  rw [ByteArray.data_extract, ← Array.toList_inj]
  simp [bl, List.take_drop]
  

/-- The parts of a packet: C of R bytes, and what is left. -/
def partAt (p : Pk) (R k : Nat) : Pk := { p with m := true, off := (k * (R / 8) : Nat), s := bl (piece p.s.data.toList R k) }
def restAt (p : Pk) (R k : Nat) : Pk := { p with off := (k * (R / 8) : Nat), s := bl (p.s.data.toList.drop (k * R)) }
def cutP (p : Pk) (C R : Nat) : List Pk := (List.range C).map (partAt p R) ++ [restAt p R C]
theorem cutP_length (p : Pk) (C R : Nat) : (cutP p C R).length = C + 1 := by simp [cutP]

theorem Try.info34 : (Try.prog.info? 34).map (fun i => (i.zero, i.size, i.bytes)) = some (some pk0, 14, 64) := by kernel_rfl

theorem make_packets (c : Nat) (hc : c ≤ 1000000) : ∃ M : Array Value, M.size = c * 14 ∧ ∀ w, (Instr.makeSlice 57 (.int .i64 0) (.int .i64 c)).run Try.prog w = .ok (.slice (some ⟨w.heap.size, 0, none⟩) 0 c) (w.alloc (.cells M 34)) := by
  obtain ⟨i, hi, hz0, hz1, hz2⟩ := info_parts Try.info34
  refine ⟨madeCells pk0.cells (c * i.size), by rw [size_madeCells, hz1], fun w => ?_⟩
  have hr := run_make (P := Try.prog) w 57 34 i _ Try.underlying57 hi hz0 .i64 .i64 0 c (Int.le_refl _) (by omega) (by rw [hz2]; omega) (by omega)
  simpa using hr

theorem new2 (w : World) (o o' : Obj) : ((w.alloc o).alloc o').heap[w.heap.size + 1]? = some o' := by
  have := heap_alloc_new (w.alloc o) o'
  rwa [show (w.alloc o).heap.size = w.heap.size + 1 by simp] at this
theorem parts_take (p : Pk) (C R k : Nat) (hk : k < C) : ((List.range C).map (partAt p R)).take (k + 1) = ((List.range C).map (partAt p R)).take k ++ [partAt p R k] := by
  rw [List.take_succ_eq_append_getElem (by simpa using hk)]
  simp
theorem drop_piece (l : List UInt8) (R k : Nat) : (l.drop (k * R)).take R = piece l R k := rfl
theorem mul_lt {k C R n : Nat} (hk : k < C) (h : C * R ≤ n) : k * R + R ≤ n := by
  have : (k + 1) * R ≤ C * R := Nat.mul_le_mul_right _ hk
  rw [Nat.add_mul] at this
  omega

set_option maxHeartbeats 4000000 in
theorem cut_any (p : Pk) (C R : Nat) (hR : 24 ≤ R) (hR2 : R ≤ 1479) (hC : C * R ≤ p.s.size) (hs : p.s.size ≤ 65515) (hoff : p.off = 0) (w : World) :
    Calls Try.prog 33 #[p.val, .int .i64 (C + 1 : Nat), .int .i64 R] w fun e w' => ∃ g cap, e = .returned (.slice (some ⟨g, 0, none⟩) (C + 1) cap) ∧ w'.ownsRow w.heap.size 34 14 (.slice (some ⟨g, 0, none⟩) (C + 1) cap) (C + 1) (flatP (cutP p C R)) ∧ Below w.heap.size w w' := by
  obtain ⟨M, hM, HM⟩ := make_packets (C + 1) (by have : C * 24 ≤ C * R := Nat.mul_le_mul_left _ hR; omega)
  obtain ⟨i0, hi, hz0, hz1, hz2⟩ := info_parts Try.info34
  have hC2 : C ≤ 65515 := by have : C * 24 ≤ C * R := Nat.mul_le_mul_left _ hR; omega
  obtain ⟨id, m, off, ttl, pr, a, b, s⟩ := p
  simp only at hoff hs hC
  subst hoff
  obtain ⟨l, rfl⟩ : ∃ l, s = bl l := ⟨s.data.toList, rfl⟩
  have Hlen : Hid ((bl l).size = l.length) := bl_size l
  rw [Hlen.out] at hC hs
  obtain ⟨LS, HLS⟩ : ∃ LS, Hid (LS = cutP ⟨id, m, 0, ttl, pr, a, b, bl l⟩ C R) := ⟨_, rfl⟩
  rw [← HLS.out]
  obtain ⟨PS, HPS⟩ : ∃ PS, Hid (PS = (List.range C).map (partAt ⟨id, m, 0, ttl, pr, a, b, bl l⟩ R)) := ⟨_, rfl⟩
  have Hend : Hid (LS = PS ++ [⟨id, m, (C * (R / 8) : Nat), ttl, pr, a, b, bl (l.drop (C * R))⟩]) := by show _ = _; rw [HLS.out, HPS.out]; simp [cutP, restAt, bl_list]
  have HPl : Hid (PS.length = C) := by show _ = _; rw [HPS.out]; simp
  have Hst : Hid (∀ k, k < C → PS.take (k + 1) = PS.take k ++ [⟨id, true, (k * (R / 8) : Nat), ttl, pr, a, b, bl ((l.drop (k * R)).take R)⟩]) := by
    show ∀ k, _
    intro k hk
    rw [HPS.out, parts_take _ _ _ _ hk]; simp [partAt, piece, bl_list]
  clear HLS HPS
  have HMO : Hid ((((w.alloc (pkC id m 0 ttl pr a b (bl l))).alloc (.cells M 34)).alloc (pkC id m 0 ttl pr a b (bl l))).ownsRow w.heap.size 34 14 (.slice (some ⟨w.heap.size + 1, 0, none⟩) 0 (C + 1)) 0 []) := by
    show World.ownsRow _ _ _ _ _ _ _
    have := (World.ownsRow_made (base := w.heap.size) (e := 34) (size := 14) (w.alloc (pkC id m 0 ttl pr a b (bl l))) M (C + 1) (by simp) (by unfold maxLen; omega) hM).alloc (pkC id m 0 ttl pr a b (bl l))
    simpa using this
  have kb : Hid (Below w.heap.size w (((w.alloc (pkC id m 0 ttl pr a b (bl l))).alloc (.cells M 34)).alloc (pkC id m 0 ttl pr a b (bl l)))) := by
    have k1 := (Below.refl w.heap.size w).alloc (Nat.le_refl _) (pkC id m 0 ttl pr a b (bl l))
    have k2 := k1.alloc k1.size (.cells M 34)
    exact k2.alloc k2.size _
  have L8 : Hid ((((w.alloc (pkC id m 0 ttl pr a b (bl l))).alloc (.cells M 34)).alloc (pkC id m 0 ttl pr a b (bl l))).heap[w.heap.size + 1 + 1]? = some (pkC id m 0 ttl pr a b (bl l))) := by
    have := heap_alloc_new ((w.alloc (pkC id m 0 ttl pr a b (bl l))).alloc (.cells M 34)) (pkC id m 0 ttl pr a b (bl l))
    rw [show ((w.alloc (pkC id m 0 ttl pr a b (bl l))).alloc (.cells M 34)).heap.size = w.heap.size + 1 + 1 by simp] at this
    exact this
  clear hM
  rw [show ((C + 1 : Nat) : Int) = (C : Int) + 1 by omega] at HM ⊢
  go_enter Try.func33, Try.ntmps33
  go_wp2
  refine wp_scope_jumps 0 (fun a' w' => ∃ (g cap : Nat) (u9 u10 u11 u12 u13 u14 u15 u16 u17 u18 u19 u20 u21 u22 u23 u24 u25 u26 u27 u28 u29 u30 u31 u32 u33 u34 u35 u36 u37 u38 u39 : Value) , a' = { tmps := #[pk id m 0 ttl pr a b (bl l), .int .i64 (C + 1), .int .i64 R, .pointer (some ⟨w.heap.size, 0, none⟩), undef, undef, .slice none 0 0, .slice (some ⟨g, 0, none⟩) C cap, .pointer (some ⟨w.heap.size + 1 + 1, 0, none⟩), u9, u10, u11, u12, u13, u14, u15, u16, u17, u18, u19, u20, u21, u22, u23, u24, u25, u26, u27, u28, u29, u30, u31, u32, u33, u34, u35, u36, u37, u38, u39, undef, undef, undef, undef], defers := [] } ∧ w'.ownsRow w.heap.size 34 14 (.slice (some ⟨g, 0, none⟩) C cap) C (flatP PS) ∧ w'.heap[w.heap.size + 1 + 1]? = some (pkC id m (C * (R / 8) : Nat) ttl pr a b (bl (l.drop (C * R)))) ∧ g ≠ w.heap.size + 1 + 1 ∧ Below w.heap.size w w') (fun _ _ => 0) rfl ?_ ?_
  · go_wp2
    go_loopw [7] (fun v7 wr => ∃ (k g cap : Nat), k ≤ C ∧ v7 = .slice (some ⟨g, 0, none⟩) k cap ∧ wr.ownsRow w.heap.size 34 14 (.slice (some ⟨g, 0, none⟩) k cap) k (flatP (PS.take k)) ∧ wr.heap[w.heap.size + 1 + 1]? = some (pkC id m (k * (R / 8) : Nat) ttl pr a b (bl (l.drop (k * R)))) ∧ g ≠ w.heap.size + 1 + 1 ∧ Below w.heap.size w wr) (fun v7 _ => C - Bi.sliceLen v7)
    case atStart =>
      refine ⟨0, w.heap.size + 1, C + 1, Nat.zero_le _, rfl, HMO.out, ?_, by omega, kb.out⟩
      have := L8.out
      simpa using this
    case round =>
      obtain ⟨k, g, cap, hk, rfl, hown, hL, hne, hb⟩ := hrel
      clear HMO kb L8 HM
      by_cases hkC : k = C
      · subst hkC
        rw [List.take_of_length_le (by rw [HPl.out]; omega)] at hown
        go_wp2
        go_step3
        refine (show (0 : Nat) = 0 ∧ _ from ⟨rfl, ?_⟩)
        exact ⟨g, cap, _, _, _, _, _, _, _, _, _, _, _, _, _, _, _, _, _, _, _, _, _, _, _, _, _, _, _, _, _, _, _, rfl, hown, hL, hne, hb⟩
      · have hk2 : k < C := by omega
        have hk3 : ¬ (k : Int) = C := by omega
        obtain ⟨O, hO⟩ : ∃ O, Hid (O = k * (R / 8)) := ⟨_, rfl⟩
        obtain ⟨D, hD⟩ : ∃ D, Hid (D = bl (l.drop (k * R))) := ⟨_, rfl⟩
        rw [← hO.out, ← hD.out] at hL
        obtain ⟨X, hX⟩ : ∃ X, D.extract 0 R = X := ⟨_, rfl⟩
        obtain ⟨Y, hY⟩ : ∃ Y, D.extract R D.size = Y := ⟨_, rfl⟩
        have m1 := mul_lt hk2 hC
        have d0 : D.size = l.length - k * R := by rw [hD.out, bl_size]; simp
        have d1 : R ≤ D.size := by omega
        have d2 : D.size ≤ 65515 := by omega
        have o1 : O ≤ 65515 := by
          have : k * (R / 8) ≤ k * R := Nat.mul_le_mul_left _ (by omega)
          rw [hO.out]; omega
        have HX : Hid (X = bl ((l.drop (k * R)).take R)) := by show _ = _; rw [← hX, hD.out, bl_extract]; simp
        have HY : Hid (Y = bl (l.drop ((k + 1) * R))) := by
          show _ = _
          rw [← hY, hD.out, bl_extract, bl_size, List.drop_drop, Nat.add_mul, Nat.one_mul, List.take_of_length_le (by simp only [List.length_drop]; omega)]
        clear d0 m1
        obtain ⟨c0, c1, c2, c3, c4, c5, c6, c7, c8, c9, c10, c11, c12, c13⟩ := cells14 hL
        have f2 := lies_frozen hL 2
        have f13 := lies_frozen hL 13
        have hlt := lies_lt hL
        have hne2 : ¬ wr.heap.size = w.heap.size + 1 + 1 := by omega
        have HL := Lib.hid hL; clear hL
        have hbs := hb.size
        have Hone := Lib.hid (Pk.enc_one ⟨id, true, O, ttl, pr, a, b, X⟩)
        clear c0 c1 c3 c4 c5 c6 c7 c8 c9 c10 c11 c12
        obtain ⟨c0, c1, c2, c3, c4, c5, c6, c7, c8, c9, c10, c11, c12, c13⟩ := cells14 HL.out
        go_wp2_with (at_builtin; refine wpList_append_lies _ rfl _ _ 57 (by rfl) w.heap.size 34 i0 pk0 14 64 Try.underlying57 hi hz0 hz1 hz2 rfl (by decide) _ _ _ (by rfl) ((hown.alloc _).alloc _) ⟨wr.heap.size + 1, 0, none⟩ 1 1 (Pk.enc ⟨id, true, O, ttl, pr, a, b, X⟩) (by rfl) rfl (World.news_of_block (new2 wr _ _)) Hone.out (by omega) (by unfold maxLen; omega) (by omega) (by simp; omega) (wr.heap.size + 1 + 1) (by simp) ?_; intro gg cap2 w2 hown2 hgrow2 hat2 hlt2
                     (have L2 : w2.heap[w.heap.size + 1 + 1]? = some (pkC id m O ttl pr a b D) := (hgrow2.block _ (by simp; omega) (by intro e; injection e with e; exact hne e.symm)).trans (lies_alloc (lies_alloc HL.out _) _))
                     (clear c0 c1 c2 c3 c4 c5 c6 c7 c8 c9 c10 c11 c12 c13 f2 f13)
                     (have c2 : w2.cell? ⟨w.heap.size + 1 + 1, 2, none⟩ = some (.int .i64 O) := lies_cell L2 2)
                     (have c13 : w2.cell? ⟨w.heap.size + 1 + 1, 13, none⟩ = some (.string D) := lies_cell L2 13)
                     (have f2 := lies_frozen L2 2)
                     (have f13 := lies_frozen L2 13)
                     (have L2 := Lib.hid L2))
        have hb2 : Below w.heap.size w w2 := ((hb.alloc hbs _).alloc (by simp; omega) _).grown hgrow2 (by simp; omega) (fun j hj => (hown.lt j hj).1)
        have hgne : gg ≠ w.heap.size + 1 + 1 := by
          rcases hat2 with e | e
          · have e : g = gg := by simpa [Value.ownBlock] using e
            rw [← e]; exact hne
          · omega
        go_roundw
        case rel =>
          refine ⟨k + 1, gg, cap2, by omega, rfl, ?_, ?_, hgne, (hb2.setCell (p := ⟨w.heap.size + 1 + 1, 2, none⟩) (by show w.heap.size ≤ w.heap.size + 1 + 1; omega) _).setCell (p := ⟨w.heap.size + 1 + 1, 13, none⟩) (by show w.heap.size ≤ w.heap.size + 1 + 1; omega) _⟩
          · rw [Hst.out k hk2, flatP_snoc, ← hO.out, ← HX.out]
            exact (hown2.kept (Bi.grown_trans (Bi.grown_set _ 2 _) (Bi.grown_set _ 13 _)) (.inr (by intro e; injection e with e; exact hgne e)))
          · have e1 : (((k + 1) * (R / 8) : Nat) : Int) = (O : Int) + (R : Int) / 8 := by
              have := hO.out
              rw [Nat.add_mul, Nat.one_mul]
              omega
            rw [e1, ← HY.out]
            exact lies_set (lies_set L2.out 2 _) 13 _
        case measure => simp only [Bi.sliceLen]; omega
  · rintro a' w' ⟨g, cap, u9, u10, u11, u12, u13, u14, u15, u16, u17, u18, u19, u20, u21, u22, u23, u24, u25, u26, u27, u28, u29, u30, u31, u32, u33, u34, u35, u36, u37, u38, u39, rfl, hown, L, hne, hb⟩
    have hbs := hb.size
    have Hone := Lib.hid (Pk.enc_one ⟨id, m, (C * (R / 8) : Nat), ttl, pr, a, b, bl (l.drop (C * R))⟩)
    obtain ⟨O, hO⟩ : ∃ O, Hid (O = C * (R / 8)) := ⟨_, rfl⟩
    obtain ⟨D, hD⟩ : ∃ D, Hid (D = bl (l.drop (C * R))) := ⟨_, rfl⟩
    rw [← hO.out, ← hD.out] at L Hone Hend
    obtain ⟨c0, c1, c2, c3, c4, c5, c6, c7, c8, c9, c10, c11, c12, c13⟩ := cells14 L
    have L := Lib.hid L
    go_wp2_with (at_builtin; refine wpList_append_lies _ rfl _ _ 57 (by rfl) w.heap.size 34 i0 pk0 14 64 Try.underlying57 hi hz0 hz1 hz2 rfl (by decide) _ _ _ (by rfl) (hown.alloc _) ⟨w'.heap.size, 0, none⟩ 1 1 (Pk.enc ⟨id, m, O, ttl, pr, a, b, D⟩) (by rfl) rfl (World.news_of_block (heap_alloc_new w' _)) Hone.out (by omega) (by unfold maxLen; omega) (by omega) (by simp; omega) _ rfl ?_; intro gg cap2 w2 hown2 hgrow2 hat2 hlt2)
    simp only [Exit.jump]
    go_returns
    refine ⟨gg, cap2, rfl, ?_, (hb.alloc hbs _).grown hgrow2 (by simp; omega) (fun j hj => (hown.lt j hj).1)⟩
    rw [Hend.out, flatP_snoc]
    exact hown2
end Go.Proofs.Ytgdjcoodjdckkaa
