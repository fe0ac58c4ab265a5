/- Contract of Put. -/
import Derived.Test.YtgdjcoodjdckkaaPv1
import Derived.Test.YtgdjcoodjdckkaaPv2
import Derived.Test.YtgdjcoodjdckkaaPv3
import Derived.Test.YtgdjcoodjdckkaaPv4
set_option maxRecDepth 100000
namespace Go.Proofs.Ytgdjcoodjdckkaa
open Go.RowKit Go.Proofs.PitotIp Go.Maps
open Go.Proofs.PitotReasm (Bg Tb Fine bad first next passed passE put keep)
open Go.Proofs.Ytgdjcoodjdckkaa.Bi (lies_lt lies_cell lies_frozen lies_alloc lies_set)

theorem put_any {base : Nat} {w : World} {tp : Nat} {most : Nat} {wait : Int} {t : Tb K UInt8} (h : TabAt base w tp most wait t) (hG : Good most t) (hmost : most ≤ 64) (hdr : t.dr ≤ 10000000000) (hw0 : 0 ≤ wait) (hw1 : wait ≤ 1125899906842624) (n : Int) (p : Pk) (hw : p.Wf) (hs : p.s.size ≤ 1000000000) :
    Calls Try.prog 14 #[.pointer (some ⟨tp, 0, none⟩), .int .i64 n, p.val] w fun e w' => e = .returned (ans p (put most wait t n (p.key hw) p.m p.off p.d).2.1 (put most wait t n (p.key hw) p.m p.off p.d).2.2) ∧ TabAt base w' tp most wait (put most wait t n (p.key hw) p.m p.off p.d).1 ∧ Fr base w w' := by
  by_cases hp : passE t n = 0
  · by_cases ho : p.off = 0
    · cases hm : p.m
      · have := put_whole h hG hmost hdr hw0 hw1 n p hw hs hp ho hm
        rw [hm] at this; exact this
      · have := put_begin h hG hmost hdr hw0 hw1 n p hw hs hp ho hm
        rw [hm] at this; exact this
    · exact put_on h hG hmost hdr hw0 hw1 n p hw hs hp ho
  · exact put_bad h hG hmost hdr hw0 hw1 n p hw hs hp
end Go.Proofs.Ytgdjcoodjdckkaa
