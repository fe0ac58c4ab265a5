/- Contracts of readHead: what the bytes of a whole head say. -/
import Derived.Test.YtneiemaepdknjaaRi
import Derived.BigRegion
import Derived.Deep.RegionHeld3
namespace Go.Proofs.Ytneiemaepdknjaa
open Go.RowKit Go.Proofs.PitotIp
open Go.Proofs.Ytneiemaepdknjaa.Bi (IntsAt RdAt read_any lies_lt lies_cell lies_frozen lies_alloc)

theorem read_14 {W : World} {g : Nat} {x0 x1 x2 x3 x4 x5 x6 x7 x8 x9 x10 x11 x12 x13 y0 y1 y2 y3 y4 y5 y6 y7 y8 y9 y10 y11 y12 y13 : Value} {t : TypeId} (h : W.heap[g]? = some (.cells #[x0, x1, x2, x3, x4, x5, x6, x7, x8, x9, x10, x11, x12, x13] t)) :
    (W.setCell ⟨g, 0, none⟩ y0).cell? ⟨g, 0, none⟩ = some y0 ∧
    ((W.setCell ⟨g, 0, none⟩ y0).setCell ⟨g, 1, none⟩ y1).cell? ⟨g, 1, none⟩ = some y1 ∧
    (((W.setCell ⟨g, 0, none⟩ y0).setCell ⟨g, 1, none⟩ y1).setCell ⟨g, 2, none⟩ y2).cell? ⟨g, 2, none⟩ = some y2 ∧
    ((((W.setCell ⟨g, 0, none⟩ y0).setCell ⟨g, 1, none⟩ y1).setCell ⟨g, 2, none⟩ y2).setCell ⟨g, 3, none⟩ y3).cell? ⟨g, 3, none⟩ = some y3 ∧
    (((((W.setCell ⟨g, 0, none⟩ y0).setCell ⟨g, 1, none⟩ y1).setCell ⟨g, 2, none⟩ y2).setCell ⟨g, 3, none⟩ y3).setCell ⟨g, 4, none⟩ y4).cell? ⟨g, 4, none⟩ = some y4 ∧
    ((((((W.setCell ⟨g, 0, none⟩ y0).setCell ⟨g, 1, none⟩ y1).setCell ⟨g, 2, none⟩ y2).setCell ⟨g, 3, none⟩ y3).setCell ⟨g, 4, none⟩ y4).setCell ⟨g, 5, none⟩ y5).cell? ⟨g, 5, none⟩ = some y5 ∧
    (((((((W.setCell ⟨g, 0, none⟩ y0).setCell ⟨g, 1, none⟩ y1).setCell ⟨g, 2, none⟩ y2).setCell ⟨g, 3, none⟩ y3).setCell ⟨g, 4, none⟩ y4).setCell ⟨g, 5, none⟩ y5).setCell ⟨g, 6, none⟩ y6).cell? ⟨g, 6, none⟩ = some y6 ∧
    ((((((((W.setCell ⟨g, 0, none⟩ y0).setCell ⟨g, 1, none⟩ y1).setCell ⟨g, 2, none⟩ y2).setCell ⟨g, 3, none⟩ y3).setCell ⟨g, 4, none⟩ y4).setCell ⟨g, 5, none⟩ y5).setCell ⟨g, 6, none⟩ y6).setCell ⟨g, 7, none⟩ y7).cell? ⟨g, 7, none⟩ = some y7 ∧
    (((((((((W.setCell ⟨g, 0, none⟩ y0).setCell ⟨g, 1, none⟩ y1).setCell ⟨g, 2, none⟩ y2).setCell ⟨g, 3, none⟩ y3).setCell ⟨g, 4, none⟩ y4).setCell ⟨g, 5, none⟩ y5).setCell ⟨g, 6, none⟩ y6).setCell ⟨g, 7, none⟩ y7).setCell ⟨g, 8, none⟩ y8).cell? ⟨g, 8, none⟩ = some y8 ∧
    ((((((((((W.setCell ⟨g, 0, none⟩ y0).setCell ⟨g, 1, none⟩ y1).setCell ⟨g, 2, none⟩ y2).setCell ⟨g, 3, none⟩ y3).setCell ⟨g, 4, none⟩ y4).setCell ⟨g, 5, none⟩ y5).setCell ⟨g, 6, none⟩ y6).setCell ⟨g, 7, none⟩ y7).setCell ⟨g, 8, none⟩ y8).setCell ⟨g, 9, none⟩ y9).cell? ⟨g, 9, none⟩ = some y9 ∧
    (((((((((((W.setCell ⟨g, 0, none⟩ y0).setCell ⟨g, 1, none⟩ y1).setCell ⟨g, 2, none⟩ y2).setCell ⟨g, 3, none⟩ y3).setCell ⟨g, 4, none⟩ y4).setCell ⟨g, 5, none⟩ y5).setCell ⟨g, 6, none⟩ y6).setCell ⟨g, 7, none⟩ y7).setCell ⟨g, 8, none⟩ y8).setCell ⟨g, 9, none⟩ y9).setCell ⟨g, 10, none⟩ y10).cell? ⟨g, 10, none⟩ = some y10 ∧
    ((((((((((((W.setCell ⟨g, 0, none⟩ y0).setCell ⟨g, 1, none⟩ y1).setCell ⟨g, 2, none⟩ y2).setCell ⟨g, 3, none⟩ y3).setCell ⟨g, 4, none⟩ y4).setCell ⟨g, 5, none⟩ y5).setCell ⟨g, 6, none⟩ y6).setCell ⟨g, 7, none⟩ y7).setCell ⟨g, 8, none⟩ y8).setCell ⟨g, 9, none⟩ y9).setCell ⟨g, 10, none⟩ y10).setCell ⟨g, 11, none⟩ y11).cell? ⟨g, 11, none⟩ = some y11 ∧
    (((((((((((((W.setCell ⟨g, 0, none⟩ y0).setCell ⟨g, 1, none⟩ y1).setCell ⟨g, 2, none⟩ y2).setCell ⟨g, 3, none⟩ y3).setCell ⟨g, 4, none⟩ y4).setCell ⟨g, 5, none⟩ y5).setCell ⟨g, 6, none⟩ y6).setCell ⟨g, 7, none⟩ y7).setCell ⟨g, 8, none⟩ y8).setCell ⟨g, 9, none⟩ y9).setCell ⟨g, 10, none⟩ y10).setCell ⟨g, 11, none⟩ y11).setCell ⟨g, 12, none⟩ y12).cell? ⟨g, 12, none⟩ = some y12 ∧
    ((((((((((((((W.setCell ⟨g, 0, none⟩ y0).setCell ⟨g, 1, none⟩ y1).setCell ⟨g, 2, none⟩ y2).setCell ⟨g, 3, none⟩ y3).setCell ⟨g, 4, none⟩ y4).setCell ⟨g, 5, none⟩ y5).setCell ⟨g, 6, none⟩ y6).setCell ⟨g, 7, none⟩ y7).setCell ⟨g, 8, none⟩ y8).setCell ⟨g, 9, none⟩ y9).setCell ⟨g, 10, none⟩ y10).setCell ⟨g, 11, none⟩ y11).setCell ⟨g, 12, none⟩ y12).setCell ⟨g, 13, none⟩ y13).cell? ⟨g, 13, none⟩ = some y13 ∧
    ((((((((((((((W.setCell ⟨g, 0, none⟩ y0).setCell ⟨g, 1, none⟩ y1).setCell ⟨g, 2, none⟩ y2).setCell ⟨g, 3, none⟩ y3).setCell ⟨g, 4, none⟩ y4).setCell ⟨g, 5, none⟩ y5).setCell ⟨g, 6, none⟩ y6).setCell ⟨g, 7, none⟩ y7).setCell ⟨g, 8, none⟩ y8).setCell ⟨g, 9, none⟩ y9).setCell ⟨g, 10, none⟩ y10).setCell ⟨g, 11, none⟩ y11).setCell ⟨g, 12, none⟩ y12).setCell ⟨g, 13, none⟩ y13).heap[g]? = some (.cells #[y0, y1, y2, y3, y4, y5, y6, y7, y8, y9, y10, y11, y12, y13] t) := by
  have h0 : (W.setCell ⟨g, 0, none⟩ y0).heap[g]? = some (.cells #[y0, x1, x2, x3, x4, x5, x6, x7, x8, x9, x10, x11, x12, x13] t) := Bi.lies_set h 0 _
  have h1 : ((W.setCell ⟨g, 0, none⟩ y0).setCell ⟨g, 1, none⟩ y1).heap[g]? = some (.cells #[y0, y1, x2, x3, x4, x5, x6, x7, x8, x9, x10, x11, x12, x13] t) := Bi.lies_set h0 1 _
  have h2 : (((W.setCell ⟨g, 0, none⟩ y0).setCell ⟨g, 1, none⟩ y1).setCell ⟨g, 2, none⟩ y2).heap[g]? = some (.cells #[y0, y1, y2, x3, x4, x5, x6, x7, x8, x9, x10, x11, x12, x13] t) := Bi.lies_set h1 2 _
  have h3 : ((((W.setCell ⟨g, 0, none⟩ y0).setCell ⟨g, 1, none⟩ y1).setCell ⟨g, 2, none⟩ y2).setCell ⟨g, 3, none⟩ y3).heap[g]? = some (.cells #[y0, y1, y2, y3, x4, x5, x6, x7, x8, x9, x10, x11, x12, x13] t) := Bi.lies_set h2 3 _
  have h4 : (((((W.setCell ⟨g, 0, none⟩ y0).setCell ⟨g, 1, none⟩ y1).setCell ⟨g, 2, none⟩ y2).setCell ⟨g, 3, none⟩ y3).setCell ⟨g, 4, none⟩ y4).heap[g]? = some (.cells #[y0, y1, y2, y3, y4, x5, x6, x7, x8, x9, x10, x11, x12, x13] t) := Bi.lies_set h3 4 _
  have h5 : ((((((W.setCell ⟨g, 0, none⟩ y0).setCell ⟨g, 1, none⟩ y1).setCell ⟨g, 2, none⟩ y2).setCell ⟨g, 3, none⟩ y3).setCell ⟨g, 4, none⟩ y4).setCell ⟨g, 5, none⟩ y5).heap[g]? = some (.cells #[y0, y1, y2, y3, y4, y5, x6, x7, x8, x9, x10, x11, x12, x13] t) := Bi.lies_set h4 5 _
  have h6 : (((((((W.setCell ⟨g, 0, none⟩ y0).setCell ⟨g, 1, none⟩ y1).setCell ⟨g, 2, none⟩ y2).setCell ⟨g, 3, none⟩ y3).setCell ⟨g, 4, none⟩ y4).setCell ⟨g, 5, none⟩ y5).setCell ⟨g, 6, none⟩ y6).heap[g]? = some (.cells #[y0, y1, y2, y3, y4, y5, y6, x7, x8, x9, x10, x11, x12, x13] t) := Bi.lies_set h5 6 _
  have h7 : ((((((((W.setCell ⟨g, 0, none⟩ y0).setCell ⟨g, 1, none⟩ y1).setCell ⟨g, 2, none⟩ y2).setCell ⟨g, 3, none⟩ y3).setCell ⟨g, 4, none⟩ y4).setCell ⟨g, 5, none⟩ y5).setCell ⟨g, 6, none⟩ y6).setCell ⟨g, 7, none⟩ y7).heap[g]? = some (.cells #[y0, y1, y2, y3, y4, y5, y6, y7, x8, x9, x10, x11, x12, x13] t) := Bi.lies_set h6 7 _
  have h8 : (((((((((W.setCell ⟨g, 0, none⟩ y0).setCell ⟨g, 1, none⟩ y1).setCell ⟨g, 2, none⟩ y2).setCell ⟨g, 3, none⟩ y3).setCell ⟨g, 4, none⟩ y4).setCell ⟨g, 5, none⟩ y5).setCell ⟨g, 6, none⟩ y6).setCell ⟨g, 7, none⟩ y7).setCell ⟨g, 8, none⟩ y8).heap[g]? = some (.cells #[y0, y1, y2, y3, y4, y5, y6, y7, y8, x9, x10, x11, x12, x13] t) := Bi.lies_set h7 8 _
  have h9 : ((((((((((W.setCell ⟨g, 0, none⟩ y0).setCell ⟨g, 1, none⟩ y1).setCell ⟨g, 2, none⟩ y2).setCell ⟨g, 3, none⟩ y3).setCell ⟨g, 4, none⟩ y4).setCell ⟨g, 5, none⟩ y5).setCell ⟨g, 6, none⟩ y6).setCell ⟨g, 7, none⟩ y7).setCell ⟨g, 8, none⟩ y8).setCell ⟨g, 9, none⟩ y9).heap[g]? = some (.cells #[y0, y1, y2, y3, y4, y5, y6, y7, y8, y9, x10, x11, x12, x13] t) := Bi.lies_set h8 9 _
  have h10 : (((((((((((W.setCell ⟨g, 0, none⟩ y0).setCell ⟨g, 1, none⟩ y1).setCell ⟨g, 2, none⟩ y2).setCell ⟨g, 3, none⟩ y3).setCell ⟨g, 4, none⟩ y4).setCell ⟨g, 5, none⟩ y5).setCell ⟨g, 6, none⟩ y6).setCell ⟨g, 7, none⟩ y7).setCell ⟨g, 8, none⟩ y8).setCell ⟨g, 9, none⟩ y9).setCell ⟨g, 10, none⟩ y10).heap[g]? = some (.cells #[y0, y1, y2, y3, y4, y5, y6, y7, y8, y9, y10, x11, x12, x13] t) := Bi.lies_set h9 10 _
  have h11 : ((((((((((((W.setCell ⟨g, 0, none⟩ y0).setCell ⟨g, 1, none⟩ y1).setCell ⟨g, 2, none⟩ y2).setCell ⟨g, 3, none⟩ y3).setCell ⟨g, 4, none⟩ y4).setCell ⟨g, 5, none⟩ y5).setCell ⟨g, 6, none⟩ y6).setCell ⟨g, 7, none⟩ y7).setCell ⟨g, 8, none⟩ y8).setCell ⟨g, 9, none⟩ y9).setCell ⟨g, 10, none⟩ y10).setCell ⟨g, 11, none⟩ y11).heap[g]? = some (.cells #[y0, y1, y2, y3, y4, y5, y6, y7, y8, y9, y10, y11, x12, x13] t) := Bi.lies_set h10 11 _
  have h12 : (((((((((((((W.setCell ⟨g, 0, none⟩ y0).setCell ⟨g, 1, none⟩ y1).setCell ⟨g, 2, none⟩ y2).setCell ⟨g, 3, none⟩ y3).setCell ⟨g, 4, none⟩ y4).setCell ⟨g, 5, none⟩ y5).setCell ⟨g, 6, none⟩ y6).setCell ⟨g, 7, none⟩ y7).setCell ⟨g, 8, none⟩ y8).setCell ⟨g, 9, none⟩ y9).setCell ⟨g, 10, none⟩ y10).setCell ⟨g, 11, none⟩ y11).setCell ⟨g, 12, none⟩ y12).heap[g]? = some (.cells #[y0, y1, y2, y3, y4, y5, y6, y7, y8, y9, y10, y11, y12, x13] t) := Bi.lies_set h11 12 _
  have h13 : ((((((((((((((W.setCell ⟨g, 0, none⟩ y0).setCell ⟨g, 1, none⟩ y1).setCell ⟨g, 2, none⟩ y2).setCell ⟨g, 3, none⟩ y3).setCell ⟨g, 4, none⟩ y4).setCell ⟨g, 5, none⟩ y5).setCell ⟨g, 6, none⟩ y6).setCell ⟨g, 7, none⟩ y7).setCell ⟨g, 8, none⟩ y8).setCell ⟨g, 9, none⟩ y9).setCell ⟨g, 10, none⟩ y10).setCell ⟨g, 11, none⟩ y11).setCell ⟨g, 12, none⟩ y12).setCell ⟨g, 13, none⟩ y13).heap[g]? = some (.cells #[y0, y1, y2, y3, y4, y5, y6, y7, y8, y9, y10, y11, y12, y13] t) := Bi.lies_set h12 13 _
  exact ⟨lies_cell h0 0, lies_cell h1 1, lies_cell h2 2, lies_cell h3 3, lies_cell h4 4, lies_cell h5 5, lies_cell h6 6, lies_cell h7 7, lies_cell h8 8, lies_cell h9 9, lies_cell h10 10, lies_cell h11 11, lies_cell h12 12, lies_cell h13 13, h13⟩

theorem read_6 {W : World} {g : Nat} {x0 x1 x2 x3 x4 x5 y0 y1 y2 y3 y4 y5 : Value} {t : TypeId} (h : W.heap[g]? = some (.cells #[x0, x1, x2, x3, x4, x5] t)) :
    (W.setCell ⟨g, 0, none⟩ y0).cell? ⟨g, 0, none⟩ = some y0 ∧
    ((W.setCell ⟨g, 0, none⟩ y0).setCell ⟨g, 1, none⟩ y1).cell? ⟨g, 1, none⟩ = some y1 ∧
    (((W.setCell ⟨g, 0, none⟩ y0).setCell ⟨g, 1, none⟩ y1).setCell ⟨g, 2, none⟩ y2).cell? ⟨g, 2, none⟩ = some y2 ∧
    ((((W.setCell ⟨g, 0, none⟩ y0).setCell ⟨g, 1, none⟩ y1).setCell ⟨g, 2, none⟩ y2).setCell ⟨g, 3, none⟩ y3).cell? ⟨g, 3, none⟩ = some y3 ∧
    (((((W.setCell ⟨g, 0, none⟩ y0).setCell ⟨g, 1, none⟩ y1).setCell ⟨g, 2, none⟩ y2).setCell ⟨g, 3, none⟩ y3).setCell ⟨g, 4, none⟩ y4).cell? ⟨g, 4, none⟩ = some y4 ∧
    ((((((W.setCell ⟨g, 0, none⟩ y0).setCell ⟨g, 1, none⟩ y1).setCell ⟨g, 2, none⟩ y2).setCell ⟨g, 3, none⟩ y3).setCell ⟨g, 4, none⟩ y4).setCell ⟨g, 5, none⟩ y5).cell? ⟨g, 5, none⟩ = some y5 ∧
    ((((((W.setCell ⟨g, 0, none⟩ y0).setCell ⟨g, 1, none⟩ y1).setCell ⟨g, 2, none⟩ y2).setCell ⟨g, 3, none⟩ y3).setCell ⟨g, 4, none⟩ y4).setCell ⟨g, 5, none⟩ y5).heap[g]? = some (.cells #[y0, y1, y2, y3, y4, y5] t) := by
  have h0 : (W.setCell ⟨g, 0, none⟩ y0).heap[g]? = some (.cells #[y0, x1, x2, x3, x4, x5] t) := Bi.lies_set h 0 _
  have h1 : ((W.setCell ⟨g, 0, none⟩ y0).setCell ⟨g, 1, none⟩ y1).heap[g]? = some (.cells #[y0, y1, x2, x3, x4, x5] t) := Bi.lies_set h0 1 _
  have h2 : (((W.setCell ⟨g, 0, none⟩ y0).setCell ⟨g, 1, none⟩ y1).setCell ⟨g, 2, none⟩ y2).heap[g]? = some (.cells #[y0, y1, y2, x3, x4, x5] t) := Bi.lies_set h1 2 _
  have h3 : ((((W.setCell ⟨g, 0, none⟩ y0).setCell ⟨g, 1, none⟩ y1).setCell ⟨g, 2, none⟩ y2).setCell ⟨g, 3, none⟩ y3).heap[g]? = some (.cells #[y0, y1, y2, y3, x4, x5] t) := Bi.lies_set h2 3 _
  have h4 : (((((W.setCell ⟨g, 0, none⟩ y0).setCell ⟨g, 1, none⟩ y1).setCell ⟨g, 2, none⟩ y2).setCell ⟨g, 3, none⟩ y3).setCell ⟨g, 4, none⟩ y4).heap[g]? = some (.cells #[y0, y1, y2, y3, y4, x5] t) := Bi.lies_set h3 4 _
  have h5 : ((((((W.setCell ⟨g, 0, none⟩ y0).setCell ⟨g, 1, none⟩ y1).setCell ⟨g, 2, none⟩ y2).setCell ⟨g, 3, none⟩ y3).setCell ⟨g, 4, none⟩ y4).setCell ⟨g, 5, none⟩ y5).heap[g]? = some (.cells #[y0, y1, y2, y3, y4, y5] t) := Bi.lies_set h4 5 _
  exact ⟨lies_cell h0 0, lies_cell h1 1, lies_cell h2 2, lies_cell h3 3, lies_cell h4 4, lies_cell h5 5, h5⟩

theorem read_8 {W : World} {g : Nat} {x0 x1 x2 x3 x4 x5 x6 x7 y0 y1 y2 y3 y4 y5 y6 y7 : Value} {t : TypeId} (h : W.heap[g]? = some (.cells #[x0, x1, x2, x3, x4, x5, x6, x7] t)) :
    (W.setCell ⟨g, 0, none⟩ y0).cell? ⟨g, 0, none⟩ = some y0 ∧
    ((W.setCell ⟨g, 0, none⟩ y0).setCell ⟨g, 1, none⟩ y1).cell? ⟨g, 1, none⟩ = some y1 ∧
    (((W.setCell ⟨g, 0, none⟩ y0).setCell ⟨g, 1, none⟩ y1).setCell ⟨g, 2, none⟩ y2).cell? ⟨g, 2, none⟩ = some y2 ∧
    ((((W.setCell ⟨g, 0, none⟩ y0).setCell ⟨g, 1, none⟩ y1).setCell ⟨g, 2, none⟩ y2).setCell ⟨g, 3, none⟩ y3).cell? ⟨g, 3, none⟩ = some y3 ∧
    (((((W.setCell ⟨g, 0, none⟩ y0).setCell ⟨g, 1, none⟩ y1).setCell ⟨g, 2, none⟩ y2).setCell ⟨g, 3, none⟩ y3).setCell ⟨g, 4, none⟩ y4).cell? ⟨g, 4, none⟩ = some y4 ∧
    ((((((W.setCell ⟨g, 0, none⟩ y0).setCell ⟨g, 1, none⟩ y1).setCell ⟨g, 2, none⟩ y2).setCell ⟨g, 3, none⟩ y3).setCell ⟨g, 4, none⟩ y4).setCell ⟨g, 5, none⟩ y5).cell? ⟨g, 5, none⟩ = some y5 ∧
    (((((((W.setCell ⟨g, 0, none⟩ y0).setCell ⟨g, 1, none⟩ y1).setCell ⟨g, 2, none⟩ y2).setCell ⟨g, 3, none⟩ y3).setCell ⟨g, 4, none⟩ y4).setCell ⟨g, 5, none⟩ y5).setCell ⟨g, 6, none⟩ y6).cell? ⟨g, 6, none⟩ = some y6 ∧
    ((((((((W.setCell ⟨g, 0, none⟩ y0).setCell ⟨g, 1, none⟩ y1).setCell ⟨g, 2, none⟩ y2).setCell ⟨g, 3, none⟩ y3).setCell ⟨g, 4, none⟩ y4).setCell ⟨g, 5, none⟩ y5).setCell ⟨g, 6, none⟩ y6).setCell ⟨g, 7, none⟩ y7).cell? ⟨g, 7, none⟩ = some y7 ∧
    ((((((((W.setCell ⟨g, 0, none⟩ y0).setCell ⟨g, 1, none⟩ y1).setCell ⟨g, 2, none⟩ y2).setCell ⟨g, 3, none⟩ y3).setCell ⟨g, 4, none⟩ y4).setCell ⟨g, 5, none⟩ y5).setCell ⟨g, 6, none⟩ y6).setCell ⟨g, 7, none⟩ y7).heap[g]? = some (.cells #[y0, y1, y2, y3, y4, y5, y6, y7] t) := by
  have h0 : (W.setCell ⟨g, 0, none⟩ y0).heap[g]? = some (.cells #[y0, x1, x2, x3, x4, x5, x6, x7] t) := Bi.lies_set h 0 _
  have h1 : ((W.setCell ⟨g, 0, none⟩ y0).setCell ⟨g, 1, none⟩ y1).heap[g]? = some (.cells #[y0, y1, x2, x3, x4, x5, x6, x7] t) := Bi.lies_set h0 1 _
  have h2 : (((W.setCell ⟨g, 0, none⟩ y0).setCell ⟨g, 1, none⟩ y1).setCell ⟨g, 2, none⟩ y2).heap[g]? = some (.cells #[y0, y1, y2, x3, x4, x5, x6, x7] t) := Bi.lies_set h1 2 _
  have h3 : ((((W.setCell ⟨g, 0, none⟩ y0).setCell ⟨g, 1, none⟩ y1).setCell ⟨g, 2, none⟩ y2).setCell ⟨g, 3, none⟩ y3).heap[g]? = some (.cells #[y0, y1, y2, y3, x4, x5, x6, x7] t) := Bi.lies_set h2 3 _
  have h4 : (((((W.setCell ⟨g, 0, none⟩ y0).setCell ⟨g, 1, none⟩ y1).setCell ⟨g, 2, none⟩ y2).setCell ⟨g, 3, none⟩ y3).setCell ⟨g, 4, none⟩ y4).heap[g]? = some (.cells #[y0, y1, y2, y3, y4, x5, x6, x7] t) := Bi.lies_set h3 4 _
  have h5 : ((((((W.setCell ⟨g, 0, none⟩ y0).setCell ⟨g, 1, none⟩ y1).setCell ⟨g, 2, none⟩ y2).setCell ⟨g, 3, none⟩ y3).setCell ⟨g, 4, none⟩ y4).setCell ⟨g, 5, none⟩ y5).heap[g]? = some (.cells #[y0, y1, y2, y3, y4, y5, x6, x7] t) := Bi.lies_set h4 5 _
  have h6 : (((((((W.setCell ⟨g, 0, none⟩ y0).setCell ⟨g, 1, none⟩ y1).setCell ⟨g, 2, none⟩ y2).setCell ⟨g, 3, none⟩ y3).setCell ⟨g, 4, none⟩ y4).setCell ⟨g, 5, none⟩ y5).setCell ⟨g, 6, none⟩ y6).heap[g]? = some (.cells #[y0, y1, y2, y3, y4, y5, y6, x7] t) := Bi.lies_set h5 6 _
  have h7 : ((((((((W.setCell ⟨g, 0, none⟩ y0).setCell ⟨g, 1, none⟩ y1).setCell ⟨g, 2, none⟩ y2).setCell ⟨g, 3, none⟩ y3).setCell ⟨g, 4, none⟩ y4).setCell ⟨g, 5, none⟩ y5).setCell ⟨g, 6, none⟩ y6).setCell ⟨g, 7, none⟩ y7).heap[g]? = some (.cells #[y0, y1, y2, y3, y4, y5, y6, y7] t) := Bi.lies_set h6 7 _
  exact ⟨lies_cell h0 0, lies_cell h1 1, lies_cell h2 2, lies_cell h3 3, lies_cell h4 4, lies_cell h5 5, lies_cell h6 6, lies_cell h7 7, h7⟩

/-- Stores into one of the call's own blocks. -/
theorem below_14 {B g : Nat} {A X : World} (h : Below B A X) (hg : B ≤ g) (y0 y1 y2 y3 y4 y5 y6 y7 y8 y9 y10 y11 y12 y13 : Value) : Below B A ((((((((((((((X.setCell ⟨g, 0, none⟩ y0).setCell ⟨g, 1, none⟩ y1).setCell ⟨g, 2, none⟩ y2).setCell ⟨g, 3, none⟩ y3).setCell ⟨g, 4, none⟩ y4).setCell ⟨g, 5, none⟩ y5).setCell ⟨g, 6, none⟩ y6).setCell ⟨g, 7, none⟩ y7).setCell ⟨g, 8, none⟩ y8).setCell ⟨g, 9, none⟩ y9).setCell ⟨g, 10, none⟩ y10).setCell ⟨g, 11, none⟩ y11).setCell ⟨g, 12, none⟩ y12).setCell ⟨g, 13, none⟩ y13) := by
  have e : ∀ {Y : World} (k : Nat) (v : Value), Below B A Y → Below B A (Y.setCell ⟨g, k, none⟩ v) := fun {Y} k v hY => hY.setCell (show B ≤ (⟨g, k, none⟩ : Addr).block from hg) v
  exact e _ _ (e _ _ (e _ _ (e _ _ (e _ _ (e _ _ (e _ _ (e _ _ (e _ _ (e _ _ (e _ _ (e _ _ (e _ _ (e _ _ (h))))))))))))))
theorem below_6 {B g : Nat} {A X : World} (h : Below B A X) (hg : B ≤ g) (y0 y1 y2 y3 y4 y5 : Value) : Below B A ((((((X.setCell ⟨g, 0, none⟩ y0).setCell ⟨g, 1, none⟩ y1).setCell ⟨g, 2, none⟩ y2).setCell ⟨g, 3, none⟩ y3).setCell ⟨g, 4, none⟩ y4).setCell ⟨g, 5, none⟩ y5) := by
  have e : ∀ {Y : World} (k : Nat) (v : Value), Below B A Y → Below B A (Y.setCell ⟨g, k, none⟩ v) := fun {Y} k v hY => hY.setCell (show B ≤ (⟨g, k, none⟩ : Addr).block from hg) v
  exact e _ _ (e _ _ (e _ _ (e _ _ (e _ _ (e _ _ (h))))))
theorem below_8 {B g : Nat} {A X : World} (h : Below B A X) (hg : B ≤ g) (y0 y1 y2 y3 y4 y5 y6 y7 : Value) : Below B A ((((((((X.setCell ⟨g, 0, none⟩ y0).setCell ⟨g, 1, none⟩ y1).setCell ⟨g, 2, none⟩ y2).setCell ⟨g, 3, none⟩ y3).setCell ⟨g, 4, none⟩ y4).setCell ⟨g, 5, none⟩ y5).setCell ⟨g, 6, none⟩ y6).setCell ⟨g, 7, none⟩ y7) := by
  have e : ∀ {Y : World} (k : Nat) (v : Value), Below B A Y → Below B A (Y.setCell ⟨g, k, none⟩ v) := fun {Y} k v hY => hY.setCell (show B ≤ (⟨g, k, none⟩ : Addr).block from hg) v
  exact e _ _ (e _ _ (e _ _ (e _ _ (e _ _ (e _ _ (e _ _ (e _ _ (h))))))))

abbrev q0 : Q4 := ⟨0, 0, 0, 0⟩
abbrev pk0 : Value := pk 0 false 0 0 0 q0 q0 ⟨#[]⟩
abbrev pkz : Obj := .cells #[.int .i64 0, .bool false, .int .i64 0, .int .i64 0, .int .i64 0, .int .u8 0, .int .u8 0, .int .u8 0, .int .u8 0, .int .u8 0, .int .u8 0, .int .u8 0, .int .u8 0, .string ⟨#[]⟩] 25
abbrev hdz : Obj := .cells #[.int .i64 0, .int .i64 0, .int .i64 0, .int .i64 0, .int .i64 0, .int .i64 0] 48

/-- What readHead holds: its results' cells, the Reader. -/
structure Rh (w X : World) (l : List UInt8) : Prop where
  lp : X.heap[w.heap.size]? = some pkz
  lh : X.heap[w.heap.size + 1]? = some hdz
  lr : RdAt X (w.heap.size + 1 + 1) l 0
  lb : Below w.heap.size w X
theorem Rh.step {w X Y : World} {l l' : List UInt8} (q : Rh w X l) (hr : RdAt Y (w.heap.size + 1 + 1) l' 0) (hg : X.grownBy Y (some (w.heap.size + 1 + 1))) : Rh w Y l' :=
  ⟨lies_grown q.lp hg (by omega), lies_grown q.lh hg (by omega), hr, q.lb.grown hg q.lb.size (fun k e => by cases e; omega)⟩
theorem Rh.alloc {w X : World} {l : List UInt8} (q : Rh w X l) (o : Obj) : Rh w (X.alloc o) l :=
  ⟨lies_alloc q.lp o, lies_alloc q.lh o, RdAt.alloc q.lr o, q.lb.alloc q.lb.size o⟩
theorem Rh.start (w : World) (l : List UInt8) : Rh w (((w.alloc pkz).alloc hdz).alloc (.cells #[.string ⟨l.toArray⟩, .int .i64 0] 82)) l := by
  refine ⟨lies_alloc (lies_alloc (heap_alloc_new w _) _) _, ?_, ?_, ?_⟩
  · have := lies_alloc (heap_alloc_new (w.alloc pkz) hdz) (.cells #[.string ⟨l.toArray⟩, .int .i64 0] 82)
    simpa using this
  · have := heap_alloc_new ((w.alloc pkz).alloc hdz) (.cells #[.string ⟨l.toArray⟩, .int .i64 0] 82)
    simpa [RdAt] using this
  · exact (((Below.refl _ w).alloc (Nat.le_refl _) _).alloc (by simp) _).alloc (by simp; omega) _

theorem cells4 {w : World} {g : Nat} {t : TypeId} {x0 x1 x2 x3 : Value} (h : w.heap[g]? = some (.cells #[x0, x1, x2, x3] t)) : (w.cell? ⟨g, 0, none⟩ = some x0) ∧ (w.cell? ⟨g, 1, none⟩ = some x1) ∧ (w.cell? ⟨g, 2, none⟩ = some x2) ∧ (w.cell? ⟨g, 3, none⟩ = some x3) :=
  ⟨lies_cell h 0, lies_cell h 1, lies_cell h 2, lies_cell h 3⟩
theorem cell_alloc {X : World} {g k : Nat} {v : Value} (h : X.cell? ⟨g, k, none⟩ = some v) (o : Obj) : (X.alloc o).cell? ⟨g, k, none⟩ = some v := by
  have hlt : g < X.heap.size := by
    rcases Nat.lt_or_ge g X.heap.size with h1 | h1
    · exact h1
    · simp [World.cell?, Array.getElem?_eq_none h1] at h
  exact (World.cell?_of_block (Below.heap_alloc X o g hlt)).trans h

theorem cell_alloc_drew {X : World} {g k : Nat} {v : Value} (h : X.cell? ⟨g, k, none⟩ = some v) (o : Obj) : (X.alloc o).drew.cell? ⟨g, k, none⟩ = some v := cell_alloc h o

/-- The packet, and the head, that twenty bytes are. -/
abbrev hpk (h : H20) : Value := pk (PitotAddr.num h.i1 h.i0 : Nat) ((PitotAddr.num h.p1 h.p0 / 8192 % 2 : Nat) == (1 : Int)) (PitotAddr.num h.p1 h.p0 % 8192 : Nat) h.t.toNat h.r.toNat h.src h.dst ⟨#[]⟩
abbrev hhd (h : H20) : Value := hd h.k.toNat h.z.toNat (PitotAddr.num h.p1 h.p0 / 32768 : Nat) (PitotAddr.num h.p1 h.p0 / 16384 % 2 : Nat) (PitotAddr.num h.n1 h.n0 : Nat) (PitotAddr.num h.s1 h.s0 : Nat)

set_option maxRecDepth 100000 in
set_option maxHeartbeats 8000000 in
theorem readHead_any (h : H20) (w : World) :
    Calls Try.prog 21 #[.string ⟨h.list.toArray⟩] w fun e w' => e = .returned (.tuple #[hpk h, hhd h]) ∧ Below w.heap.size w w' := by
  obtain ⟨l3, e3⟩ : ∃ l, l = h.src.bytes ++ (h.dst.bytes ++ []) := ⟨_, rfl⟩
  obtain ⟨l2, e2⟩ : ∃ l, l = h.t :: h.r :: h.s1 :: h.s0 :: l3 := ⟨_, rfl⟩
  obtain ⟨l1, e1⟩ : ∃ l, l = h.i1 :: h.i0 :: h.p1 :: h.p0 :: l2 := ⟨_, rfl⟩
  have e0 : h.list = h.k :: h.z :: h.n1 :: h.n0 :: l1 := by rw [e1, e2, e3]; rfl
  have z3 : l3.length ≤ 1000000 := by rw [e3]; simp [Q4.bytes]
  have z2 : l2.length ≤ 1000000 := by rw [e2, e3]; simp [Q4.bytes]
  have z1 : l1.length ≤ 1000000 := by rw [e1, e2, e3]; simp [Q4.bytes]
  have R0 := Rh.start w h.list
  obtain ⟨LB, HLB⟩ : ∃ B : ByteArray, Hid (B = ⟨h.list.toArray⟩) := ⟨_, rfl⟩
  have HA := fun w => read_any h.list w
  rw [← HLB.out] at R0 HA ⊢
  rw [e0] at R0
  have H1 := Lib.hid (bits_a h.k h.z h.n1 h.n0 l1 z1)
  have H2 := bits_b h.i1 h.i0 h.p1 h.p0 l2 z2
  rw [← e1] at H2
  have H3 := bits_a h.t h.r h.s1 h.s0 l3 z3
  rw [← e2] at H3
  have H4 := readIP_any h.src (h.dst.bytes ++ [])
  rw [← e3] at H4
  have H5 := readIP_any h.dst []
  have H2 := Lib.hid H2; have H3 := Lib.hid H3; have H4 := Lib.hid H4; have H5 := Lib.hid H5
  have HA := Lib.hid HA
  have HS := Lib.hid sizeWide_any
  have HP := Lib.hid placeWide_any
  have HL := Lib.hid lifeWide_any
  have R0 := Lib.hid R0
  clear e0 e1 e2 e3 z1 z2 z3
  obtain ⟨vk, Hk⟩ : ∃ v : Int, Hid (v = h.k.toNat) := ⟨_, rfl⟩
  obtain ⟨vz, Hz⟩ : ∃ v : Int, Hid (v = h.z.toNat) := ⟨_, rfl⟩
  obtain ⟨vn, Hn⟩ : ∃ v : Int, Hid (v = (PitotAddr.num h.n1 h.n0 : Nat)) := ⟨_, rfl⟩
  obtain ⟨vi, Hi⟩ : ∃ v : Int, Hid (v = (PitotAddr.num h.i1 h.i0 : Nat)) := ⟨_, rfl⟩
  obtain ⟨va, Ha⟩ : ∃ v : Int, Hid (v = (PitotAddr.num h.p1 h.p0 / 32768 : Nat)) := ⟨_, rfl⟩
  obtain ⟨vb, Hb⟩ : ∃ v : Int, Hid (v = (PitotAddr.num h.p1 h.p0 / 16384 % 2 : Nat)) := ⟨_, rfl⟩
  obtain ⟨vm, Hm⟩ : ∃ v : Int, Hid (v = (PitotAddr.num h.p1 h.p0 / 8192 % 2 : Nat)) := ⟨_, rfl⟩
  obtain ⟨vo, Ho⟩ : ∃ v : Int, Hid (v = (PitotAddr.num h.p1 h.p0 % 8192 : Nat)) := ⟨_, rfl⟩
  obtain ⟨vt, Ht⟩ : ∃ v : Int, Hid (v = h.t.toNat) := ⟨_, rfl⟩
  obtain ⟨vr, Hr⟩ : ∃ v : Int, Hid (v = h.r.toNat) := ⟨_, rfl⟩
  obtain ⟨vs, Hs⟩ : ∃ v : Int, Hid (v = (PitotAddr.num h.s1 h.s0 : Nat)) := ⟨_, rfl⟩
  rw [← Hk.out, ← Hz.out, ← Hn.out] at H1
  rw [← Hi.out, ← Ha.out, ← Hb.out, ← Hm.out, ← Ho.out] at H2
  rw [← Ht.out, ← Hr.out, ← Hs.out] at H3
  unfold hpk hhd
  rw [← Hk.out, ← Hz.out, ← Hn.out, ← Hi.out, ← Ha.out, ← Hb.out, ← Hm.out, ← Ho.out, ← Ht.out, ← Hr.out, ← Hs.out]
  generalize h.src = S at H4 ⊢
  generalize h.dst = D at H4 H5 ⊢
  generalize h.list = hl at R0 HA HLB
  go_enter Try.func21, Try.ntmps21
  go_upto_region 7 with (first
    | (go_at_call 30; (with_reducible refine (HA.out _).mono ?_); rintro e w0 ⟨rfl, rfl⟩)
    | (go_at_call 24; (with_reducible refine (HS.out _).mono ?_); rintro e w0 ⟨rfl, rfl⟩)
    | (go_at_call 25; (with_reducible refine (HP.out _).mono ?_); rintro e w0 ⟨rfl, rfl⟩)
    | (go_at_call 26; (with_reducible refine (HL.out _).mono ?_); rintro e w0 ⟨rfl, rfl⟩)
    | (go_at_call 31; (with_reducible refine (H1.out _ _ _ (by simp) R0.out.lr).mono ?_); rintro e w1 ⟨g1, rfl, ⟨a0, a1, a2⟩, n1, hr, hg⟩
       (have R1 := Lib.hid (R0.out.step hr hg))
       (clear hr hg))
    | (go_at_call 31; (with_reducible refine (H2.out _ _ _ (by simp) R1.out.lr).mono ?_); rintro e w2 ⟨g2, rfl, ⟨b0, b1, b2, b3, b4⟩, n2, hr, hg⟩
       (have R2 := Lib.hid (R1.out.step hr hg))
       (have a0 := cell_grown a0 hg n1)
       (have a1 := cell_grown a1 hg n1)
       (have a2 := cell_grown a2 hg n1)
       (clear hr hg))
    | (go_at_call 31; (with_reducible refine (H3.out _ _ _ (by simp) R2.out.lr).mono ?_); rintro e w3 ⟨g3, rfl, ⟨c0, c1, c2⟩, n3, hr, hg⟩
       (have R3 := Lib.hid (R2.out.step hr hg))
       (have a0 := cell_grown a0 hg n1)
       (have a1 := cell_grown a1 hg n1)
       (have a2 := cell_grown a2 hg n1)
       (have b0 := cell_grown b0 hg n2)
       (have b1 := cell_grown b1 hg n2)
       (have b2 := cell_grown b2 hg n2)
       (have b3 := cell_grown b3 hg n2)
       (have b4 := cell_grown b4 hg n2)
       (clear hr hg))
    | (go_at_call 32; (with_reducible refine (H4.out _ _ R3.out.lr (by simp [Q4.bytes])).mono ?_); rintro e w4 ⟨rfl, hr, hg⟩
       (have R4 := Lib.hid ((R3.out.step hr hg).alloc (ip4C S)))
       (have LS := Lib.hid (heap_alloc_new w4 (ip4C S)))
       (have N4 := Lib.hid (show w4.heap.size ≠ w.heap.size + 1 + 1 by have := RdAt.lt hr; omega))
       (have a0 := cell_grown a0 hg n1)
       (have a1 := cell_grown a1 hg n1)
       (have a2 := cell_grown a2 hg n1)
       (have b0 := cell_grown b0 hg n2)
       (have b1 := cell_grown b1 hg n2)
       (have b2 := cell_grown b2 hg n2)
       (have b3 := cell_grown b3 hg n2)
       (have b4 := cell_grown b4 hg n2)
       (have c0 := cell_grown c0 hg n3)
       (have c1 := cell_grown c1 hg n3)
       (have c2 := cell_grown c2 hg n3)
       (clear hr hg))
    | (go_at_call 32; (with_reducible refine (H5.out _ _ R4.out.lr (by simp)).mono ?_); rintro e w5 ⟨rfl, hr, hg⟩
       (have R5 := Lib.hid ((R4.out.step hr hg).alloc (ip4C D)))
       (have LS := Lib.hid (lies_alloc (lies_grown LS.out hg N4.out) (ip4C D)))
       (have LD := Lib.hid (heap_alloc_new w5 (ip4C D)))
       (have a0 := cell_alloc (cell_grown (cell_alloc a0 (ip4C S)) hg n1) (ip4C D))
       (have a1 := cell_alloc (cell_grown (cell_alloc a1 (ip4C S)) hg n1) (ip4C D))
       (have a2 := cell_alloc (cell_grown (cell_alloc a2 (ip4C S)) hg n1) (ip4C D))
       (have b0 := cell_alloc (cell_grown (cell_alloc b0 (ip4C S)) hg n2) (ip4C D))
       (have b1 := cell_alloc (cell_grown (cell_alloc b1 (ip4C S)) hg n2) (ip4C D))
       (have b2 := cell_alloc (cell_grown (cell_alloc b2 (ip4C S)) hg n2) (ip4C D))
       (have b3 := cell_alloc (cell_grown (cell_alloc b3 (ip4C S)) hg n2) (ip4C D))
       (have b4 := cell_alloc (cell_grown (cell_alloc b4 (ip4C S)) hg n2) (ip4C D))
       (have c0 := cell_alloc (cell_grown (cell_alloc c0 (ip4C S)) hg n3) (ip4C D))
       (have c1 := cell_alloc (cell_grown (cell_alloc c1 (ip4C S)) hg n3) (ip4C D))
       (have c2 := cell_alloc (cell_grown (cell_alloc c2 (ip4C S)) hg n3) (ip4C D))
       (clear hr hg)))
  obtain ⟨s0, s1, s2, s3⟩ := cells4 LS.out
  obtain ⟨d0, d1, d2, d3⟩ := cells4 LD.out
  clear H1 H2 H3 H4 H5 HA HS HP HL R0 R1 R2 R3 R4 LS LD N4 n1 n2 n3
  generalize hX : w5.alloc (ip4C D) = X at *
  have b0d : X.drew.cell? ⟨g2, 0, none⟩ = some (.int .i64 vi) := b0
  have b0e : ∀ o, (X.alloc o).drew.cell? ⟨g2, 0, none⟩ = some (.int .i64 vi) := fun o => cell_alloc b0 o
  have b3d : X.drew.cell? ⟨g2, 3, none⟩ = some (.int .i64 vm) := b3
  have b3e : ∀ o, (X.alloc o).drew.cell? ⟨g2, 3, none⟩ = some (.int .i64 vm) := fun o => cell_alloc b3 o
  have b4d : X.drew.cell? ⟨g2, 4, none⟩ = some (.int .i64 vo) := b4
  have b4e : ∀ o, (X.alloc o).drew.cell? ⟨g2, 4, none⟩ = some (.int .i64 vo) := fun o => cell_alloc b4 o
  have c0d : X.drew.cell? ⟨g3, 0, none⟩ = some (.int .i64 vt) := c0
  have c0e : ∀ o, (X.alloc o).drew.cell? ⟨g3, 0, none⟩ = some (.int .i64 vt) := fun o => cell_alloc c0 o
  have c1d : X.drew.cell? ⟨g3, 1, none⟩ = some (.int .i64 vr) := c1
  have c1e : ∀ o, (X.alloc o).drew.cell? ⟨g3, 1, none⟩ = some (.int .i64 vr) := fun o => cell_alloc c1 o
  have s0d : X.drew.cell? ⟨w4.heap.size, 0, none⟩ = some (.int .u8 S.a.toNat) := s0
  have s0e : ∀ o, (X.alloc o).drew.cell? ⟨w4.heap.size, 0, none⟩ = some (.int .u8 S.a.toNat) := fun o => cell_alloc s0 o
  have s1d : X.drew.cell? ⟨w4.heap.size, 1, none⟩ = some (.int .u8 S.b.toNat) := s1
  have s1e : ∀ o, (X.alloc o).drew.cell? ⟨w4.heap.size, 1, none⟩ = some (.int .u8 S.b.toNat) := fun o => cell_alloc s1 o
  have s2d : X.drew.cell? ⟨w4.heap.size, 2, none⟩ = some (.int .u8 S.c.toNat) := s2
  have s2e : ∀ o, (X.alloc o).drew.cell? ⟨w4.heap.size, 2, none⟩ = some (.int .u8 S.c.toNat) := fun o => cell_alloc s2 o
  have s3d : X.drew.cell? ⟨w4.heap.size, 3, none⟩ = some (.int .u8 S.d.toNat) := s3
  have s3e : ∀ o, (X.alloc o).drew.cell? ⟨w4.heap.size, 3, none⟩ = some (.int .u8 S.d.toNat) := fun o => cell_alloc s3 o
  have d0d : X.drew.cell? ⟨w5.heap.size, 0, none⟩ = some (.int .u8 D.a.toNat) := d0
  have d0e : ∀ o, (X.alloc o).drew.cell? ⟨w5.heap.size, 0, none⟩ = some (.int .u8 D.a.toNat) := fun o => cell_alloc d0 o
  have d1d : X.drew.cell? ⟨w5.heap.size, 1, none⟩ = some (.int .u8 D.b.toNat) := d1
  have d1e : ∀ o, (X.alloc o).drew.cell? ⟨w5.heap.size, 1, none⟩ = some (.int .u8 D.b.toNat) := fun o => cell_alloc d1 o
  have d2d : X.drew.cell? ⟨w5.heap.size, 2, none⟩ = some (.int .u8 D.c.toNat) := d2
  have d2e : ∀ o, (X.alloc o).drew.cell? ⟨w5.heap.size, 2, none⟩ = some (.int .u8 D.c.toNat) := fun o => cell_alloc d2 o
  have d3d : X.drew.cell? ⟨w5.heap.size, 3, none⟩ = some (.int .u8 D.d.toNat) := d3
  have d3e : ∀ o, (X.alloc o).drew.cell? ⟨w5.heap.size, 3, none⟩ = some (.int .u8 D.d.toNat) := fun o => cell_alloc d3 o
  go_region_held3 (fun w' => w'.cell? ⟨g2, 0, none⟩ = some (.int .i64 vi) ∧ w'.cell? ⟨g2, 3, none⟩ = some (.int .i64 vm) ∧ w'.cell? ⟨g2, 4, none⟩ = some (.int .i64 vo) ∧ w'.cell? ⟨g3, 0, none⟩ = some (.int .i64 vt) ∧ w'.cell? ⟨g3, 1, none⟩ = some (.int .i64 vr) ∧ w'.cell? ⟨w4.heap.size, 0, none⟩ = some (.int .u8 S.a.toNat) ∧ w'.cell? ⟨w4.heap.size, 1, none⟩ = some (.int .u8 S.b.toNat) ∧ w'.cell? ⟨w4.heap.size, 2, none⟩ = some (.int .u8 S.c.toNat) ∧ w'.cell? ⟨w4.heap.size, 3, none⟩ = some (.int .u8 S.d.toNat) ∧ w'.cell? ⟨w5.heap.size, 0, none⟩ = some (.int .u8 D.a.toNat) ∧ w'.cell? ⟨w5.heap.size, 1, none⟩ = some (.int .u8 D.b.toNat) ∧ w'.cell? ⟨w5.heap.size, 2, none⟩ = some (.int .u8 D.c.toNat) ∧ w'.cell? ⟨w5.heap.size, 3, none⟩ = some (.int .u8 D.d.toNat))
    (first | (with_reducible exact ⟨b0d, b3d, b4d, c0d, c1d, s0d, s1d, s2d, s3d, d0d, d1d, d2d, d3d⟩) | (with_reducible exact ⟨b0e _, b3e _, b4e _, c0e _, c1e _, s0e _, s1e _, s2e _, s3e _, d0e _, d1e _, d2e _, d3e _⟩))
    (fail)
  clear b0d b0e b3d b3e b4d b4e c0d c0e c1d c1e s0d s0e s1d s1e s2d s2e s3d s3e d0d d0e d1d d1e d2d d2e d3d d3e b0 b3 b4 c0 c1 s0 s1 s2 s3 d0 d1 d2 d3
  go_upto_region 8 with fail
  have a0 : (X.alloc (pkC vi (vm == 1) vo vt vr S D ⟨#[]⟩)).drew.cell? ⟨g1, 0, none⟩ = some (.int .i64 vk) := cell_alloc a0 _
  have a1 : (X.alloc (pkC vi (vm == 1) vo vt vr S D ⟨#[]⟩)).drew.cell? ⟨g1, 1, none⟩ = some (.int .i64 vz) := cell_alloc a1 _
  have a2 : (X.alloc (pkC vi (vm == 1) vo vt vr S D ⟨#[]⟩)).drew.cell? ⟨g1, 2, none⟩ = some (.int .i64 vn) := cell_alloc a2 _
  have b1 : (X.alloc (pkC vi (vm == 1) vo vt vr S D ⟨#[]⟩)).drew.cell? ⟨g2, 1, none⟩ = some (.int .i64 va) := cell_alloc b1 _
  have b2 : (X.alloc (pkC vi (vm == 1) vo vt vr S D ⟨#[]⟩)).drew.cell? ⟨g2, 2, none⟩ = some (.int .i64 vb) := cell_alloc b2 _
  have c2 : (X.alloc (pkC vi (vm == 1) vo vt vr S D ⟨#[]⟩)).drew.cell? ⟨g3, 2, none⟩ = some (.int .i64 vs) := cell_alloc c2 _
  have R6 : Rh w (X.alloc (pkC vi (vm == 1) vo vt vr S D ⟨#[]⟩)).drew [] := by have := R5.out.alloc (pkC vi (vm == 1) vo vt vr S D ⟨#[]⟩); exact ⟨this.lp, this.lh, this.lr, this.lb.drew⟩
  have N6 : w.heap.size + 1 < X.heap.size := lies_lt R5.out.lh
  have P6 : (X.alloc (pkC vi (vm == 1) vo vt vr S D ⟨#[]⟩)).drew.heap[X.heap.size]? = some (pkC vi (vm == 1) vo vt vr S D ⟨#[]⟩) := heap_alloc_new X _
  generalize hY : (X.alloc (pkC vi (vm == 1) vo vt vr S D ⟨#[]⟩)).drew = Y at *
  have R6 := Lib.hid R6; have P6 := Lib.hid P6
  clear R5
  have a0d : Y.drew.cell? ⟨g1, 0, none⟩ = some (.int .i64 vk) := a0
  have a0e : ∀ o, (Y.alloc o).drew.cell? ⟨g1, 0, none⟩ = some (.int .i64 vk) := fun o => cell_alloc a0 o
  have a1d : Y.drew.cell? ⟨g1, 1, none⟩ = some (.int .i64 vz) := a1
  have a1e : ∀ o, (Y.alloc o).drew.cell? ⟨g1, 1, none⟩ = some (.int .i64 vz) := fun o => cell_alloc a1 o
  have b1d : Y.drew.cell? ⟨g2, 1, none⟩ = some (.int .i64 va) := b1
  have b1e : ∀ o, (Y.alloc o).drew.cell? ⟨g2, 1, none⟩ = some (.int .i64 va) := fun o => cell_alloc b1 o
  have b2d : Y.drew.cell? ⟨g2, 2, none⟩ = some (.int .i64 vb) := b2
  have b2e : ∀ o, (Y.alloc o).drew.cell? ⟨g2, 2, none⟩ = some (.int .i64 vb) := fun o => cell_alloc b2 o
  have a2d : Y.drew.cell? ⟨g1, 2, none⟩ = some (.int .i64 vn) := a2
  have a2e : ∀ o, (Y.alloc o).drew.cell? ⟨g1, 2, none⟩ = some (.int .i64 vn) := fun o => cell_alloc a2 o
  have c2d : Y.drew.cell? ⟨g3, 2, none⟩ = some (.int .i64 vs) := c2
  have c2e : ∀ o, (Y.alloc o).drew.cell? ⟨g3, 2, none⟩ = some (.int .i64 vs) := fun o => cell_alloc c2 o
  go_region_held3 (fun w' => w'.cell? ⟨g1, 0, none⟩ = some (.int .i64 vk) ∧ w'.cell? ⟨g1, 1, none⟩ = some (.int .i64 vz) ∧ w'.cell? ⟨g2, 1, none⟩ = some (.int .i64 va) ∧ w'.cell? ⟨g2, 2, none⟩ = some (.int .i64 vb) ∧ w'.cell? ⟨g1, 2, none⟩ = some (.int .i64 vn) ∧ w'.cell? ⟨g3, 2, none⟩ = some (.int .i64 vs))
    (first | (with_reducible exact ⟨a0d, a1d, b1d, b2d, a2d, c2d⟩) | (with_reducible exact ⟨a0e _, a1e _, b1e _, b2e _, a2e _, c2e _⟩))
    (fail)
  clear a0d a0e a1d a1e b1d b1e b2d b2e a2d a2e c2d c2e a0 a1 b1 b2 a2 c2
  go_upto_region 9 with fail
  have R7 : Rh w (Y.alloc (hdC vk vz va vb vn vs)).drew [] := by have := R6.out.alloc (hdC vk vz va vb vn vs); exact ⟨this.lp, this.lh, this.lr, this.lb.drew⟩
  have P7 : (Y.alloc (hdC vk vz va vb vn vs)).drew.heap[X.heap.size]? = some (pkC vi (vm == 1) vo vt vr S D ⟨#[]⟩) := lies_alloc P6.out _
  have Q7 : (Y.alloc (hdC vk vz va vb vn vs)).drew.heap[Y.heap.size]? = some (hdC vk vz va vb vn vs) := heap_alloc_new Y _
  generalize hZ : (Y.alloc (hdC vk vz va vb vn vs)).drew = Z at *
  have NY : X.heap.size < Y.heap.size := lies_lt P6.out
  have v1 : ¬ X.heap.size = w.heap.size := by omega
  have v2 : ¬ X.heap.size = w.heap.size + 1 := by omega
  have v3 : ¬ Y.heap.size = w.heap.size := by omega
  have v4 : ¬ Y.heap.size = w.heap.size + 1 := by omega
  clear N6 NY P6 R6 hX hY hZ
  obtain ⟨p0, p1, p2, p3, p4, p5, p6, p7, p8, p9, p10, p11, p12, p13⟩ := cells14 P7
  obtain ⟨h0, h1, h2, h3, h4, h5⟩ := cells6 Q7
  obtain ⟨r0, r1, r2, r3, r4, r5, r6, r7, r8, r9, r10, r11, r12, r13⟩ := cells14 R7.lp
  obtain ⟨t0, t1, t2, t3, t4, t5⟩ := cells6 R7.lh
  have f0 := lies_frozen R7.lp 0
  have f1 := lies_frozen R7.lp 1
  have f2 := lies_frozen R7.lp 2
  have f3 := lies_frozen R7.lp 3
  have f4 := lies_frozen R7.lp 4
  have f5 := lies_frozen R7.lp 5
  have f6 := lies_frozen R7.lp 6
  have f7 := lies_frozen R7.lp 7
  have f8 := lies_frozen R7.lp 8
  have f9 := lies_frozen R7.lp 9
  have f10 := lies_frozen R7.lp 10
  have f11 := lies_frozen R7.lp 11
  have f12 := lies_frozen R7.lp 12
  have f13 := lies_frozen R7.lp 13
  have z0 := lies_frozen R7.lh 0
  have z1 := lies_frozen R7.lh 1
  have z2 := lies_frozen R7.lh 2
  have z3 := lies_frozen R7.lh 3
  have z4 := lies_frozen R7.lh 4
  have z5 := lies_frozen R7.lh 5
  have R7 := Lib.hid R7; have P7 := Lib.hid P7; have Q7 := Lib.hid Q7
  generalize X.heap.size = gp at *
  generalize Y.heap.size = gh at *
  go_region
  go_wp2
  (try simp only [Exit.inBlock, Exit.then])
  obtain ⟨k0, k1, k2, k3, k4, k5, k6, k7, k8, k9, k10, k11, k12, k13, E14⟩ := read_14 (y0 := .int .i64 vi) (y1 := .bool (vm == 1)) (y2 := .int .i64 vo) (y3 := .int .i64 vt) (y4 := .int .i64 vr) (y5 := .int .u8 S.a.toNat) (y6 := .int .u8 S.b.toNat) (y7 := .int .u8 S.c.toNat) (y8 := .int .u8 S.d.toNat) (y9 := .int .u8 D.a.toNat) (y10 := .int .u8 D.b.toNat) (y11 := .int .u8 D.c.toNat) (y12 := .int .u8 D.d.toNat) (y13 := .string ⟨#[]⟩) R7.out.lp
  have LH := R7.out.lh
  have far : ∀ (V : World) (k : Nat) (v : Value), V.heap[w.heap.size + 1]? = some hdz → (V.setCell ⟨w.heap.size, k, none⟩ v).heap[w.heap.size + 1]? = some hdz := fun V k v hV => (Below.heap_setCell V _ v _ (by show w.heap.size + 1 ≠ w.heap.size; omega)).trans hV
  have LH2 := far _ 13 (.string ⟨#[]⟩) (far _ 12 (.int .u8 D.d.toNat) (far _ 11 (.int .u8 D.c.toNat) (far _ 10 (.int .u8 D.b.toNat) (far _ 9 (.int .u8 D.a.toNat) (far _ 8 (.int .u8 S.d.toNat) (far _ 7 (.int .u8 S.c.toNat) (far _ 6 (.int .u8 S.b.toNat) (far _ 5 (.int .u8 S.a.toNat) (far _ 4 (.int .i64 vr) (far _ 3 (.int .i64 vt) (far _ 2 (.int .i64 vo) (far _ 1 (.bool (vm == 1)) (far _ 0 (.int .i64 vi) (LH))))))))))))))
  obtain ⟨j0, j1, j2, j3, j4, j5, E6⟩ := read_6 (y0 := .int .i64 vk) (y1 := .int .i64 vz) (y2 := .int .i64 va) (y3 := .int .i64 vb) (y4 := .int .i64 vn) (y5 := .int .i64 vs) LH2
  refine bodyPost_ret (by simp [results, Try.results21, go_sem, k0, k1, k2, k3, k4, k5, k6, k7, k8, k9, k10, k11, k12, k13, j0, j1, j2, j3, j4, j5]; try rfl) rfl ?_
  exact ⟨rfl, (below_6 (below_14 R7.out.lb (Nat.le_refl _) _ _ _ _ _ _ _ _ _ _ _ _ _ _) (Nat.le_succ _) _ _ _ _ _ _).drew⟩
end Go.Proofs.Ytneiemaepdknjaa
