/- Contracts of the document's Writer: Put, Text, Bits, Bytes. -/
import Derived.Test.YtgdjcoodjdckkaaBiRef
import Derived.Deep.RegionHeld3
namespace Go.Proofs.Ytgdjcoodjdckkaa.Bi
open Go.RowKit Go.Proofs.PitotMath

theorem cat_lists (a b : List UInt8) : (⟨a.toArray⟩ : ByteArray) ++ (⟨b.toArray⟩ : ByteArray) = ⟨(a ++ b).toArray⟩ := by
  apply ByteArray.ext; simp

end Go.Proofs.Ytgdjcoodjdckkaa.Bi
