/-
  No cell of these rows narrows 'for every input' (looked for: loops, veiled, ifaces, maps, wideKeys, modest, calm, conditions, laid).
  DERIVED. THE GIVEN ROWS OF THIS SEAT. 6 by the template 'for every input the law returns true; each argument reads behind the call as it read before'; 0 by the template 'total and deterministic' (their statements: YtpecmpepnfgnoaaTotals.lean).
  GIVEN WITH THE SEED: the statements are not yours to turn. If you find one false, say at which input.
  Laid BY PROGRAM, IN A SANDBOX (cutbox-rows.mjs): the forced cells as the released guide's own fill.sh prints them over the translation 1ce3d57b1126a8b9… (all of the seat's roots in one cut). By AI agents, Wed Nov 11 2026. No macro, syntax, notation, axiom, sorry.
-/
import Derived.Test.YtpecmpepnfgnoaaChecked
import GoSem.Claim
import GoSem.ClaimJoined
import GoSem.ClaimMapViews
import Derived.JoinedTies
import Derived.KernelRfl
namespace Go.Proofs.Ytpecmpepnfgnoaa
/- THE CELL 'sum', in the pinned program and in every row, IS THE sha256 OF THE DUMP (.gsa) THAT YtpecmpepnfgnoaaProg.lean LOADS. Nothing in Lean hashes anything: it is a label: what it is worth is what the hold of that sum in a sandbox is worth. -/
noncomputable def Try.pinned : Pinned := { name := "ytpecmpepnfgnoaa", sum := "1ce3d57b1126a8b93459abb88633ca148d3177ea93f98545e77a17b6d2969a8e", checked := Try.checked }
namespace Rows
def none {H : Type} : Left H := { results := [], args := [] }

/-- 'pitotlaw06.UdpEncodes': WHATEVER THE INPUT: true; the input reads as it did. -/
def udpEncodesSpec : ChangeSpec := { name := "udpEncodes", fn := fun _ => fun
  | [d1, d2] => { results := [.lit (.bool true)], args := [d1, d2] }
  | _ => none }
def udpEncodesRow : OpenClaim := { program := "ytpecmpepnfgnoaa", sum := "1ce3d57b1126a8b93459abb88633ca148d3177ea93f98545e77a17b6d2969a8e", func := "pitot/pitotlaw06.UdpEncodes", spec := "udpEncodes", inPlace := ["internal/abi.NoEscape", "internal/bytealg.MakeNoZero"], apart := false }
def UdpEncodesSaid : Prop := udpEncodesRow.holds Try.pinned (OpenSpec.ofChange udpEncodesSpec)

/-- ITS FALSE NEIGHBOUR: 'it returns false'. Refute it at one input. -/
def udpEncodesWrong : ChangeSpec := { name := "udpEncodes", fn := fun _ => fun
  | [d1, d2] => { results := [.lit (.bool false)], args := [d1, d2] }
  | _ => none }
def UdpEncodesWrongFalsely : Prop := udpEncodesRow.holds Try.pinned (OpenSpec.ofChange udpEncodesWrong)

/-- 'pitotlaw06.UdpDecodes': WHATEVER THE INPUT: true; the input reads as it did. -/
def udpDecodesSpec : ChangeSpec := { name := "udpDecodes", fn := fun _ => fun
  | [d1, d2, d3] => { results := [.lit (.bool true)], args := [d1, d2, d3] }
  | _ => none }
def udpDecodesRow : OpenClaim := { program := "ytpecmpepnfgnoaa", sum := "1ce3d57b1126a8b93459abb88633ca148d3177ea93f98545e77a17b6d2969a8e", func := "pitot/pitotlaw06.UdpDecodes", spec := "udpDecodes", inPlace := ["internal/abi.NoEscape", "internal/bytealg.MakeNoZero"], apart := false }
def UdpDecodesSaid : Prop := udpDecodesRow.holds Try.pinned (OpenSpec.ofChange udpDecodesSpec)

/-- ITS FALSE NEIGHBOUR: 'it returns false'. Refute it at one input. -/
def udpDecodesWrong : ChangeSpec := { name := "udpDecodes", fn := fun _ => fun
  | [d1, d2, d3] => { results := [.lit (.bool false)], args := [d1, d2, d3] }
  | _ => none }
def UdpDecodesWrongFalsely : Prop := udpDecodesRow.holds Try.pinned (OpenSpec.ofChange udpDecodesWrong)

/-- 'pitotlaw06.UdpBack': WHATEVER THE INPUT: true; the input reads as it did. -/
def udpBackSpec : ChangeSpec := { name := "udpBack", fn := fun _ => fun
  | [d1, d2] => { results := [.lit (.bool true)], args := [d1, d2] }
  | _ => none }
def udpBackRow : OpenClaim := { program := "ytpecmpepnfgnoaa", sum := "1ce3d57b1126a8b93459abb88633ca148d3177ea93f98545e77a17b6d2969a8e", func := "pitot/pitotlaw06.UdpBack", spec := "udpBack", inPlace := ["internal/abi.NoEscape", "internal/bytealg.MakeNoZero"], apart := false }
def UdpBackSaid : Prop := udpBackRow.holds Try.pinned (OpenSpec.ofChange udpBackSpec)

/-- ITS FALSE NEIGHBOUR: 'it returns false'. Refute it at one input. -/
def udpBackWrong : ChangeSpec := { name := "udpBack", fn := fun _ => fun
  | [d1, d2] => { results := [.lit (.bool false)], args := [d1, d2] }
  | _ => none }
def UdpBackWrongFalsely : Prop := udpBackRow.holds Try.pinned (OpenSpec.ofChange udpBackWrong)

/-- 'pitotlaw06.UdpTold': WHATEVER THE INPUT: true; the input reads as it did. -/
def udpToldSpec : ChangeSpec := { name := "udpTold", fn := fun _ => fun
  | [d1, d2, d3] => { results := [.lit (.bool true)], args := [d1, d2, d3] }
  | _ => none }
def udpToldRow : OpenClaim := { program := "ytpecmpepnfgnoaa", sum := "1ce3d57b1126a8b93459abb88633ca148d3177ea93f98545e77a17b6d2969a8e", func := "pitot/pitotlaw06.UdpTold", spec := "udpTold", inPlace := ["internal/abi.NoEscape", "internal/bytealg.MakeNoZero"], apart := false }
def UdpToldSaid : Prop := udpToldRow.holds Try.pinned (OpenSpec.ofChange udpToldSpec)

/-- ITS FALSE NEIGHBOUR: 'it returns false'. Refute it at one input. -/
def udpToldWrong : ChangeSpec := { name := "udpTold", fn := fun _ => fun
  | [d1, d2, d3] => { results := [.lit (.bool false)], args := [d1, d2, d3] }
  | _ => none }
def UdpToldWrongFalsely : Prop := udpToldRow.holds Try.pinned (OpenSpec.ofChange udpToldWrong)

/-- 'pitotlaw06.UdpCut': WHATEVER THE INPUT: true; the input reads as it did. -/
def udpCutSpec : ChangeSpec := { name := "udpCut", fn := fun _ => fun
  | [d1, d2, d3] => { results := [.lit (.bool true)], args := [d1, d2, d3] }
  | _ => none }
def udpCutRow : OpenClaim := { program := "ytpecmpepnfgnoaa", sum := "1ce3d57b1126a8b93459abb88633ca148d3177ea93f98545e77a17b6d2969a8e", func := "pitot/pitotlaw06.UdpCut", spec := "udpCut", inPlace := ["internal/abi.NoEscape", "internal/bytealg.MakeNoZero"], apart := false }
def UdpCutSaid : Prop := udpCutRow.holds Try.pinned (OpenSpec.ofChange udpCutSpec)

/-- ITS FALSE NEIGHBOUR: 'it returns false'. Refute it at one input. -/
def udpCutWrong : ChangeSpec := { name := "udpCut", fn := fun _ => fun
  | [d1, d2, d3] => { results := [.lit (.bool false)], args := [d1, d2, d3] }
  | _ => none }
def UdpCutWrongFalsely : Prop := udpCutRow.holds Try.pinned (OpenSpec.ofChange udpCutWrong)

/-- 'pitotlaw06.UdpNone': WHATEVER THE INPUT: true; the input reads as it did. -/
def udpNoneSpec : ChangeSpec := { name := "udpNone", fn := fun _ => fun
  | [d1, d2, d3] => { results := [.lit (.bool true)], args := [d1, d2, d3] }
  | _ => none }
def udpNoneRow : OpenClaim := { program := "ytpecmpepnfgnoaa", sum := "1ce3d57b1126a8b93459abb88633ca148d3177ea93f98545e77a17b6d2969a8e", func := "pitot/pitotlaw06.UdpNone", spec := "udpNone", inPlace := ["internal/abi.NoEscape", "internal/bytealg.MakeNoZero"], apart := false }
def UdpNoneSaid : Prop := udpNoneRow.holds Try.pinned (OpenSpec.ofChange udpNoneSpec)

/-- ITS FALSE NEIGHBOUR: 'it returns false'. Refute it at one input. -/
def udpNoneWrong : ChangeSpec := { name := "udpNone", fn := fun _ => fun
  | [d1, d2, d3] => { results := [.lit (.bool false)], args := [d1, d2, d3] }
  | _ => none }
def UdpNoneWrongFalsely : Prop := udpNoneRow.holds Try.pinned (OpenSpec.ofChange udpNoneWrong)

/- THE SECOND FORM. 'bulk': how many values and letters a reading holds, each counted each time it is reached (what is shared counts as often as it is met; a slice's spare places count too). A statement '..UptoSaid' is the law's where the arguments, and the package variables that the reading takes, are together of bulk at most 1048576: NARROWER than '..Said'. Prove '..Said' where nothing that the law and all that it calls make is longer than what came in: it says more and counts as full. Else prove '..UptoSaid'. A law counts once. -/
mutual
def uptoBulk {H : Type} : DataW H → Nat
  | .lit (.string bytes) => bytes.length + 1
  | .lit _ => 1
  | .nil => 1
  | .ptr d => uptoBulk d + 1
  | .slice elems spare => uptoBulkAll elems + uptoBulkAll spare + 1
  | .agg parts => uptoBulkAll parts + 1
  | .iface _ d => uptoBulk d + 1
  | .map entries => uptoBulkEntries entries + 1
  | .held _ => 1
def uptoBulkAll {H : Type} : List (DataW H) → Nat
  | [] => 0
  | d :: r => uptoBulk d + uptoBulkAll r
def uptoBulkEntries {H : Type} : List (Lit × DataW H) → Nat
  | [] => 0
  | x :: r => uptoBulkEntry x + uptoBulkEntries r
def uptoBulkEntry {H : Type} : Lit × DataW H → Nat
  | (.string bytes, d) => bytes.length + uptoBulk d + 1
  | (_, d) => uptoBulk d + 1
 end
def uptoSmall : (H : Type) → List (DataW H) → Bool := fun _ ds => decide (uptoBulkAll ds ≤ 1048576)
def OpenSpec.upto (s : _root_.Go.ChangeSpec) : _root_.Go.OpenSpec := { _root_.Go.OpenSpec.ofChange s with cond := some uptoSmall }

/-- 'pitotlaw06.UdpEncodes', WHERE WHAT IT READS IS OF BULK AT MOST 1048576: true; the input reads as it did. -/
def udpEncodesUptoRow : OpenClaim := { program := "ytpecmpepnfgnoaa", sum := "1ce3d57b1126a8b93459abb88633ca148d3177ea93f98545e77a17b6d2969a8e", func := "pitot/pitotlaw06.UdpEncodes", spec := "udpEncodes", inPlace := ["internal/abi.NoEscape", "internal/bytealg.MakeNoZero"], apart := false, narrowed := true }
def UdpEncodesUptoSaid : Prop := udpEncodesUptoRow.holds Try.pinned (OpenSpec.upto udpEncodesSpec)

/-- 'pitotlaw06.UdpDecodes', WHERE WHAT IT READS IS OF BULK AT MOST 1048576: true; the input reads as it did. -/
def udpDecodesUptoRow : OpenClaim := { program := "ytpecmpepnfgnoaa", sum := "1ce3d57b1126a8b93459abb88633ca148d3177ea93f98545e77a17b6d2969a8e", func := "pitot/pitotlaw06.UdpDecodes", spec := "udpDecodes", inPlace := ["internal/abi.NoEscape", "internal/bytealg.MakeNoZero"], apart := false, narrowed := true }
def UdpDecodesUptoSaid : Prop := udpDecodesUptoRow.holds Try.pinned (OpenSpec.upto udpDecodesSpec)

/-- 'pitotlaw06.UdpBack', WHERE WHAT IT READS IS OF BULK AT MOST 1048576: true; the input reads as it did. -/
def udpBackUptoRow : OpenClaim := { program := "ytpecmpepnfgnoaa", sum := "1ce3d57b1126a8b93459abb88633ca148d3177ea93f98545e77a17b6d2969a8e", func := "pitot/pitotlaw06.UdpBack", spec := "udpBack", inPlace := ["internal/abi.NoEscape", "internal/bytealg.MakeNoZero"], apart := false, narrowed := true }
def UdpBackUptoSaid : Prop := udpBackUptoRow.holds Try.pinned (OpenSpec.upto udpBackSpec)

/-- 'pitotlaw06.UdpTold', WHERE WHAT IT READS IS OF BULK AT MOST 1048576: true; the input reads as it did. -/
def udpToldUptoRow : OpenClaim := { program := "ytpecmpepnfgnoaa", sum := "1ce3d57b1126a8b93459abb88633ca148d3177ea93f98545e77a17b6d2969a8e", func := "pitot/pitotlaw06.UdpTold", spec := "udpTold", inPlace := ["internal/abi.NoEscape", "internal/bytealg.MakeNoZero"], apart := false, narrowed := true }
def UdpToldUptoSaid : Prop := udpToldUptoRow.holds Try.pinned (OpenSpec.upto udpToldSpec)

/-- 'pitotlaw06.UdpCut', WHERE WHAT IT READS IS OF BULK AT MOST 1048576: true; the input reads as it did. -/
def udpCutUptoRow : OpenClaim := { program := "ytpecmpepnfgnoaa", sum := "1ce3d57b1126a8b93459abb88633ca148d3177ea93f98545e77a17b6d2969a8e", func := "pitot/pitotlaw06.UdpCut", spec := "udpCut", inPlace := ["internal/abi.NoEscape", "internal/bytealg.MakeNoZero"], apart := false, narrowed := true }
def UdpCutUptoSaid : Prop := udpCutUptoRow.holds Try.pinned (OpenSpec.upto udpCutSpec)

/-- 'pitotlaw06.UdpNone', WHERE WHAT IT READS IS OF BULK AT MOST 1048576: true; the input reads as it did. -/
def udpNoneUptoRow : OpenClaim := { program := "ytpecmpepnfgnoaa", sum := "1ce3d57b1126a8b93459abb88633ca148d3177ea93f98545e77a17b6d2969a8e", func := "pitot/pitotlaw06.UdpNone", spec := "udpNone", inPlace := ["internal/abi.NoEscape", "internal/bytealg.MakeNoZero"], apart := false, narrowed := true }
def UdpNoneUptoSaid : Prop := udpNoneUptoRow.holds Try.pinned (OpenSpec.upto udpNoneSpec)

end Rows
end Go.Proofs.Ytpecmpepnfgnoaa
