/-
  No cell of these rows narrows 'for every input' (looked for: loops, veiled, ifaces, maps, wideKeys, modest, calm, conditions, laid).
  DERIVED. THE GIVEN ROWS OF THIS SEAT. 6 by the template 'for every input the law returns true; each argument reads behind the call as it read before'; 0 by the template 'total and deterministic' (their statements: YthlpehiloabfiaaTotals.lean).
  GIVEN WITH THE SEED: the statements are not yours to turn. If you find one false, say at which input.
  Laid BY PROGRAM, IN A SANDBOX (cutbox-rows.mjs): the forced cells as the released guide's own fill.sh prints them over the translation 0a9eaff47368f04d… (all of the seat's roots in one cut). By AI agents, Wed Nov 11 2026. No macro, syntax, notation, axiom, sorry.
-/
import Derived.Test.YthlpehiloabfiaaChecked
import GoSem.Claim
import GoSem.ClaimJoined
import GoSem.ClaimMapViews
import Derived.JoinedTies
import Derived.KernelRfl
namespace Go.Proofs.Ythlpehiloabfiaa
/- THE CELL 'sum', in the pinned program and in every row, IS THE sha256 OF THE DUMP (.gsa) THAT YthlpehiloabfiaaProg.lean LOADS. Nothing in Lean hashes anything: it is a label: what it is worth is what the hold of that sum in a sandbox is worth. -/
noncomputable def Try.pinned : Pinned := { name := "ythlpehiloabfiaa", sum := "0a9eaff47368f04d73b9dc03df9c3303f9b459bc29e866497196b8a8bca22bdf", checked := Try.checked }
namespace Rows
def none {H : Type} : Left H := { results := [], args := [] }

/-- 'pitotlaw04.EtherEncodes': WHATEVER THE INPUT: true; the input reads as it did. -/
def etherEncodesSpec : ChangeSpec := { name := "etherEncodes", fn := fun _ => fun
  | [d1, d2] => { results := [.lit (.bool true)], args := [d1, d2] }
  | _ => none }
def etherEncodesRow : OpenClaim := { program := "ythlpehiloabfiaa", sum := "0a9eaff47368f04d73b9dc03df9c3303f9b459bc29e866497196b8a8bca22bdf", func := "pitot/pitotlaw04.EtherEncodes", spec := "etherEncodes", inPlace := ["internal/abi.NoEscape", "internal/bytealg.MakeNoZero"], apart := false }
def EtherEncodesSaid : Prop := etherEncodesRow.holds Try.pinned (OpenSpec.ofChange etherEncodesSpec)

/-- ITS FALSE NEIGHBOUR: 'it returns false'. Refute it at one input. -/
def etherEncodesWrong : ChangeSpec := { name := "etherEncodes", fn := fun _ => fun
  | [d1, d2] => { results := [.lit (.bool false)], args := [d1, d2] }
  | _ => none }
def EtherEncodesWrongFalsely : Prop := etherEncodesRow.holds Try.pinned (OpenSpec.ofChange etherEncodesWrong)

/-- 'pitotlaw04.EtherDecodes': WHATEVER THE INPUT: true; the input reads as it did. -/
def etherDecodesSpec : ChangeSpec := { name := "etherDecodes", fn := fun _ => fun
  | [d] => { results := [.lit (.bool true)], args := [d] }
  | _ => none }
def etherDecodesRow : OpenClaim := { program := "ythlpehiloabfiaa", sum := "0a9eaff47368f04d73b9dc03df9c3303f9b459bc29e866497196b8a8bca22bdf", func := "pitot/pitotlaw04.EtherDecodes", spec := "etherDecodes", inPlace := ["internal/abi.NoEscape", "internal/bytealg.MakeNoZero"], apart := false }
def EtherDecodesSaid : Prop := etherDecodesRow.holds Try.pinned (OpenSpec.ofChange etherDecodesSpec)

/-- ITS FALSE NEIGHBOUR: 'it returns false'. Refute it at one input. -/
def etherDecodesWrong : ChangeSpec := { name := "etherDecodes", fn := fun _ => fun
  | [d] => { results := [.lit (.bool false)], args := [d] }
  | _ => none }
def EtherDecodesWrongFalsely : Prop := etherDecodesRow.holds Try.pinned (OpenSpec.ofChange etherDecodesWrong)

/-- 'pitotlaw04.EtherBack': WHATEVER THE INPUT: true; the input reads as it did. -/
def etherBackSpec : ChangeSpec := { name := "etherBack", fn := fun _ => fun
  | [d] => { results := [.lit (.bool true)], args := [d] }
  | _ => none }
def etherBackRow : OpenClaim := { program := "ythlpehiloabfiaa", sum := "0a9eaff47368f04d73b9dc03df9c3303f9b459bc29e866497196b8a8bca22bdf", func := "pitot/pitotlaw04.EtherBack", spec := "etherBack", inPlace := ["internal/abi.NoEscape", "internal/bytealg.MakeNoZero"], apart := false }
def EtherBackSaid : Prop := etherBackRow.holds Try.pinned (OpenSpec.ofChange etherBackSpec)

/-- ITS FALSE NEIGHBOUR: 'it returns false'. Refute it at one input. -/
def etherBackWrong : ChangeSpec := { name := "etherBack", fn := fun _ => fun
  | [d] => { results := [.lit (.bool false)], args := [d] }
  | _ => none }
def EtherBackWrongFalsely : Prop := etherBackRow.holds Try.pinned (OpenSpec.ofChange etherBackWrong)

/-- 'pitotlaw04.EtherAgain': WHATEVER THE INPUT: true; the input reads as it did. -/
def etherAgainSpec : ChangeSpec := { name := "etherAgain", fn := fun _ => fun
  | [d] => { results := [.lit (.bool true)], args := [d] }
  | _ => none }
def etherAgainRow : OpenClaim := { program := "ythlpehiloabfiaa", sum := "0a9eaff47368f04d73b9dc03df9c3303f9b459bc29e866497196b8a8bca22bdf", func := "pitot/pitotlaw04.EtherAgain", spec := "etherAgain", inPlace := ["internal/abi.NoEscape", "internal/bytealg.MakeNoZero"], apart := false }
def EtherAgainSaid : Prop := etherAgainRow.holds Try.pinned (OpenSpec.ofChange etherAgainSpec)

/-- ITS FALSE NEIGHBOUR: 'it returns false'. Refute it at one input. -/
def etherAgainWrong : ChangeSpec := { name := "etherAgain", fn := fun _ => fun
  | [d] => { results := [.lit (.bool false)], args := [d] }
  | _ => none }
def EtherAgainWrongFalsely : Prop := etherAgainRow.holds Try.pinned (OpenSpec.ofChange etherAgainWrong)

/-- 'pitotlaw04.EtherTold': WHATEVER THE INPUT: true; the input reads as it did. -/
def etherToldSpec : ChangeSpec := { name := "etherTold", fn := fun _ => fun
  | [d1, d2, d3] => { results := [.lit (.bool true)], args := [d1, d2, d3] }
  | _ => none }
def etherToldRow : OpenClaim := { program := "ythlpehiloabfiaa", sum := "0a9eaff47368f04d73b9dc03df9c3303f9b459bc29e866497196b8a8bca22bdf", func := "pitot/pitotlaw04.EtherTold", spec := "etherTold", inPlace := ["internal/abi.NoEscape", "internal/bytealg.MakeNoZero"], apart := false }
def EtherToldSaid : Prop := etherToldRow.holds Try.pinned (OpenSpec.ofChange etherToldSpec)

/-- ITS FALSE NEIGHBOUR: 'it returns false'. Refute it at one input. -/
def etherToldWrong : ChangeSpec := { name := "etherTold", fn := fun _ => fun
  | [d1, d2, d3] => { results := [.lit (.bool false)], args := [d1, d2, d3] }
  | _ => none }
def EtherToldWrongFalsely : Prop := etherToldRow.holds Try.pinned (OpenSpec.ofChange etherToldWrong)

/-- 'pitotlaw04.EtherSides': WHATEVER THE INPUT: true; the input reads as it did. -/
def etherSidesSpec : ChangeSpec := { name := "etherSides", fn := fun _ => fun
  | [d] => { results := [.lit (.bool true)], args := [d] }
  | _ => none }
def etherSidesRow : OpenClaim := { program := "ythlpehiloabfiaa", sum := "0a9eaff47368f04d73b9dc03df9c3303f9b459bc29e866497196b8a8bca22bdf", func := "pitot/pitotlaw04.EtherSides", spec := "etherSides", inPlace := ["internal/abi.NoEscape", "internal/bytealg.MakeNoZero"], apart := false }
def EtherSidesSaid : Prop := etherSidesRow.holds Try.pinned (OpenSpec.ofChange etherSidesSpec)

/-- ITS FALSE NEIGHBOUR: 'it returns false'. Refute it at one input. -/
def etherSidesWrong : ChangeSpec := { name := "etherSides", fn := fun _ => fun
  | [d] => { results := [.lit (.bool false)], args := [d] }
  | _ => none }
def EtherSidesWrongFalsely : Prop := etherSidesRow.holds Try.pinned (OpenSpec.ofChange etherSidesWrong)

/- THE SECOND FORM. 'bulk': how many values and letters a reading holds, each counted each time it is reached (what is shared counts as often as it is met; a slice's spare places count too). A statement '..UptoSaid' is the law's where the arguments, and the package variables that the reading takes, are together of bulk at most 1048576: NARROWER than '..Said'. Prove '..Said' where nothing that the law and all that it calls make is longer than what came in: it says more and counts as full. Else prove '..UptoSaid'. A law counts once. -/
mutual
def uptoBulk {H : Type} : DataW H → Nat
  | .lit (.string bytes) => bytes.length + 1
  | .lit _ => 1
  | .nil => 1
  | .ptr d => uptoBulk d + 1
  | .slice elems spare => uptoBulkAll elems + uptoBulkAll spare + 1
  | .agg parts => uptoBulkAll parts + 1
  | .iface _ d => uptoBulk d + 1
  | .map entries => uptoBulkEntries entries + 1
  | .held _ => 1
def uptoBulkAll {H : Type} : List (DataW H) → Nat
  | [] => 0
  | d :: r => uptoBulk d + uptoBulkAll r
def uptoBulkEntries {H : Type} : List (Lit × DataW H) → Nat
  | [] => 0
  | x :: r => uptoBulkEntry x + uptoBulkEntries r
def uptoBulkEntry {H : Type} : Lit × DataW H → Nat
  | (.string bytes, d) => bytes.length + uptoBulk d + 1
  | (_, d) => uptoBulk d + 1
 end
def uptoSmall : (H : Type) → List (DataW H) → Bool := fun _ ds => decide (uptoBulkAll ds ≤ 1048576)
def OpenSpec.upto (s : _root_.Go.ChangeSpec) : _root_.Go.OpenSpec := { _root_.Go.OpenSpec.ofChange s with cond := some uptoSmall }

/-- 'pitotlaw04.EtherEncodes', WHERE WHAT IT READS IS OF BULK AT MOST 1048576: true; the input reads as it did. -/
def etherEncodesUptoRow : OpenClaim := { program := "ythlpehiloabfiaa", sum := "0a9eaff47368f04d73b9dc03df9c3303f9b459bc29e866497196b8a8bca22bdf", func := "pitot/pitotlaw04.EtherEncodes", spec := "etherEncodes", inPlace := ["internal/abi.NoEscape", "internal/bytealg.MakeNoZero"], apart := false, narrowed := true }
def EtherEncodesUptoSaid : Prop := etherEncodesUptoRow.holds Try.pinned (OpenSpec.upto etherEncodesSpec)

/-- 'pitotlaw04.EtherDecodes', WHERE WHAT IT READS IS OF BULK AT MOST 1048576: true; the input reads as it did. -/
def etherDecodesUptoRow : OpenClaim := { program := "ythlpehiloabfiaa", sum := "0a9eaff47368f04d73b9dc03df9c3303f9b459bc29e866497196b8a8bca22bdf", func := "pitot/pitotlaw04.EtherDecodes", spec := "etherDecodes", inPlace := ["internal/abi.NoEscape", "internal/bytealg.MakeNoZero"], apart := false, narrowed := true }
def EtherDecodesUptoSaid : Prop := etherDecodesUptoRow.holds Try.pinned (OpenSpec.upto etherDecodesSpec)

/-- 'pitotlaw04.EtherBack', WHERE WHAT IT READS IS OF BULK AT MOST 1048576: true; the input reads as it did. -/
def etherBackUptoRow : OpenClaim := { program := "ythlpehiloabfiaa", sum := "0a9eaff47368f04d73b9dc03df9c3303f9b459bc29e866497196b8a8bca22bdf", func := "pitot/pitotlaw04.EtherBack", spec := "etherBack", inPlace := ["internal/abi.NoEscape", "internal/bytealg.MakeNoZero"], apart := false, narrowed := true }
def EtherBackUptoSaid : Prop := etherBackUptoRow.holds Try.pinned (OpenSpec.upto etherBackSpec)

/-- 'pitotlaw04.EtherAgain', WHERE WHAT IT READS IS OF BULK AT MOST 1048576: true; the input reads as it did. -/
def etherAgainUptoRow : OpenClaim := { program := "ythlpehiloabfiaa", sum := "0a9eaff47368f04d73b9dc03df9c3303f9b459bc29e866497196b8a8bca22bdf", func := "pitot/pitotlaw04.EtherAgain", spec := "etherAgain", inPlace := ["internal/abi.NoEscape", "internal/bytealg.MakeNoZero"], apart := false, narrowed := true }
def EtherAgainUptoSaid : Prop := etherAgainUptoRow.holds Try.pinned (OpenSpec.upto etherAgainSpec)

/-- 'pitotlaw04.EtherTold', WHERE WHAT IT READS IS OF BULK AT MOST 1048576: true; the input reads as it did. -/
def etherToldUptoRow : OpenClaim := { program := "ythlpehiloabfiaa", sum := "0a9eaff47368f04d73b9dc03df9c3303f9b459bc29e866497196b8a8bca22bdf", func := "pitot/pitotlaw04.EtherTold", spec := "etherTold", inPlace := ["internal/abi.NoEscape", "internal/bytealg.MakeNoZero"], apart := false, narrowed := true }
def EtherToldUptoSaid : Prop := etherToldUptoRow.holds Try.pinned (OpenSpec.upto etherToldSpec)

/-- 'pitotlaw04.EtherSides', WHERE WHAT IT READS IS OF BULK AT MOST 1048576: true; the input reads as it did. -/
def etherSidesUptoRow : OpenClaim := { program := "ythlpehiloabfiaa", sum := "0a9eaff47368f04d73b9dc03df9c3303f9b459bc29e866497196b8a8bca22bdf", func := "pitot/pitotlaw04.EtherSides", spec := "etherSides", inPlace := ["internal/abi.NoEscape", "internal/bytealg.MakeNoZero"], apart := false, narrowed := true }
def EtherSidesUptoSaid : Prop := etherSidesUptoRow.holds Try.pinned (OpenSpec.upto etherSidesSpec)

end Rows
end Go.Proofs.Ythlpehiloabfiaa
