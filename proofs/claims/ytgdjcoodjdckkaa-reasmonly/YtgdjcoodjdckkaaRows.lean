/-
  No cell of these rows narrows 'for every input' (looked for: loops, veiled, ifaces, maps, wideKeys, modest, calm, conditions, laid).
  DERIVED. THE GIVEN ROWS OF THIS SEAT. 6 by the template 'for every input the law returns true; each argument reads behind the call as it read before'; 0 by the template 'total and deterministic' (their statements: YtgdjcoodjdckkaaTotals.lean).
  GIVEN WITH THE SEED: the statements are not yours to turn. If you find one false, say at which input.
  Laid BY PROGRAM, IN A SANDBOX (cutbox-rows.mjs): the forced cells as the released guide's own fill.sh prints them over the translation a0908b23792367bb… (all of the seat's roots in one cut). By AI agents, Wed Nov 11 2026. No macro, syntax, notation, axiom, sorry.
-/
import Derived.Test.YtgdjcoodjdckkaaChecked
import GoSem.Claim
import GoSem.ClaimJoined
import GoSem.ClaimMapViews
import Derived.JoinedTies
import Derived.KernelRfl
namespace Go.Proofs.Ytgdjcoodjdckkaa
/- THE CELL 'sum', in the pinned program and in every row, IS THE sha256 OF THE DUMP (.gsa) THAT YtgdjcoodjdckkaaProg.lean LOADS. Nothing in Lean hashes anything: it is a label: what it is worth is what the hold of that sum in a sandbox is worth. -/
noncomputable def Try.pinned : Pinned := { name := "ytgdjcoodjdckkaa", sum := "a0908b23792367bba133d9e1a96e5e91c4741101389eae57be3fa02a6fa92607", checked := Try.checked }
namespace Rows
def none {H : Type} : Left H := { results := [], args := [] }

/-- 'pitotlaw09.ReasmPlays': WHATEVER THE INPUT: true; the input reads as it did. -/
def reasmPlaysSpec : ChangeSpec := { name := "reasmPlays", fn := fun _ => fun
  | [d1, d2, d3] => { results := [.lit (.bool true)], args := [d1, d2, d3] }
  | _ => none }
def reasmPlaysRow : OpenClaim := { program := "ytgdjcoodjdckkaa", sum := "a0908b23792367bba133d9e1a96e5e91c4741101389eae57be3fa02a6fa92607", func := "pitot/pitotlaw09.ReasmPlays", spec := "reasmPlays", unfollowed := true, recurses := true, plainKeys := false, apart := false }
def ReasmPlaysSaid : Prop := reasmPlaysRow.holds Try.pinned (OpenSpec.ofChange reasmPlaysSpec)

/-- ITS FALSE NEIGHBOUR: 'it returns false'. Refute it at one input. -/
def reasmPlaysWrong : ChangeSpec := { name := "reasmPlays", fn := fun _ => fun
  | [d1, d2, d3] => { results := [.lit (.bool false)], args := [d1, d2, d3] }
  | _ => none }
def ReasmPlaysWrongFalsely : Prop := reasmPlaysRow.holds Try.pinned (OpenSpec.ofChange reasmPlaysWrong)

/-- 'pitotlaw09.ReasmWhole': WHATEVER THE INPUT: true; the input reads as it did. -/
def reasmWholeSpec : ChangeSpec := { name := "reasmWhole", fn := fun _ => fun
  | [d1, d2, d3] => { results := [.lit (.bool true)], args := [d1, d2, d3] }
  | _ => none }
def reasmWholeRow : OpenClaim := { program := "ytgdjcoodjdckkaa", sum := "a0908b23792367bba133d9e1a96e5e91c4741101389eae57be3fa02a6fa92607", func := "pitot/pitotlaw09.ReasmWhole", spec := "reasmWhole", unfollowed := true, recurses := true, plainKeys := false, apart := false }
def ReasmWholeSaid : Prop := reasmWholeRow.holds Try.pinned (OpenSpec.ofChange reasmWholeSpec)

/-- ITS FALSE NEIGHBOUR: 'it returns false'. Refute it at one input. -/
def reasmWholeWrong : ChangeSpec := { name := "reasmWhole", fn := fun _ => fun
  | [d1, d2, d3] => { results := [.lit (.bool false)], args := [d1, d2, d3] }
  | _ => none }
def ReasmWholeWrongFalsely : Prop := reasmWholeRow.holds Try.pinned (OpenSpec.ofChange reasmWholeWrong)

/-- 'pitotlaw09.ReasmOnly': WHATEVER THE INPUT: true; the input reads as it did. -/
def reasmOnlySpec : ChangeSpec := { name := "reasmOnly", fn := fun _ => fun
  | [d] => { results := [.lit (.bool true)], args := [d] }
  | _ => none }
def reasmOnlyRow : OpenClaim := { program := "ytgdjcoodjdckkaa", sum := "a0908b23792367bba133d9e1a96e5e91c4741101389eae57be3fa02a6fa92607", func := "pitot/pitotlaw09.ReasmOnly", spec := "reasmOnly", inPlace := ["internal/abi.NoEscape"], unfollowed := true, recurses := true, plainKeys := false, apart := false }
def ReasmOnlySaid : Prop := reasmOnlyRow.holds Try.pinned (OpenSpec.ofChange reasmOnlySpec)

/-- ITS FALSE NEIGHBOUR: 'it returns false'. Refute it at one input. -/
def reasmOnlyWrong : ChangeSpec := { name := "reasmOnly", fn := fun _ => fun
  | [d] => { results := [.lit (.bool false)], args := [d] }
  | _ => none }
def ReasmOnlyWrongFalsely : Prop := reasmOnlyRow.holds Try.pinned (OpenSpec.ofChange reasmOnlyWrong)

/-- 'pitotlaw09.ReasmWaits': WHATEVER THE INPUT: true; the input reads as it did. -/
def reasmWaitsSpec : ChangeSpec := { name := "reasmWaits", fn := fun _ => fun
  | [d1, d2] => { results := [.lit (.bool true)], args := [d1, d2] }
  | _ => none }
def reasmWaitsRow : OpenClaim := { program := "ytgdjcoodjdckkaa", sum := "a0908b23792367bba133d9e1a96e5e91c4741101389eae57be3fa02a6fa92607", func := "pitot/pitotlaw09.ReasmWaits", spec := "reasmWaits", unfollowed := true, recurses := true, plainKeys := false, apart := false }
def ReasmWaitsSaid : Prop := reasmWaitsRow.holds Try.pinned (OpenSpec.ofChange reasmWaitsSpec)

/-- ITS FALSE NEIGHBOUR: 'it returns false'. Refute it at one input. -/
def reasmWaitsWrong : ChangeSpec := { name := "reasmWaits", fn := fun _ => fun
  | [d1, d2] => { results := [.lit (.bool false)], args := [d1, d2] }
  | _ => none }
def ReasmWaitsWrongFalsely : Prop := reasmWaitsRow.holds Try.pinned (OpenSpec.ofChange reasmWaitsWrong)

/-- 'pitotlaw09.ReasmNil': WHATEVER THE INPUT: true; the input reads as it did. -/
def reasmNilSpec : ChangeSpec := { name := "reasmNil", fn := fun _ => fun
  | [d1, d2] => { results := [.lit (.bool true)], args := [d1, d2] }
  | _ => none }
def reasmNilRow : OpenClaim := { program := "ytgdjcoodjdckkaa", sum := "a0908b23792367bba133d9e1a96e5e91c4741101389eae57be3fa02a6fa92607", func := "pitot/pitotlaw09.ReasmNil", spec := "reasmNil", unfollowed := true, recurses := true, plainKeys := false, apart := false }
def ReasmNilSaid : Prop := reasmNilRow.holds Try.pinned (OpenSpec.ofChange reasmNilSpec)

/-- ITS FALSE NEIGHBOUR: 'it returns false'. Refute it at one input. -/
def reasmNilWrong : ChangeSpec := { name := "reasmNil", fn := fun _ => fun
  | [d1, d2] => { results := [.lit (.bool false)], args := [d1, d2] }
  | _ => none }
def ReasmNilWrongFalsely : Prop := reasmNilRow.holds Try.pinned (OpenSpec.ofChange reasmNilWrong)

/-- 'pitotlaw09.ReasmAlone': WHATEVER THE INPUT: true; the input reads as it did. -/
def reasmAloneSpec : ChangeSpec := { name := "reasmAlone", fn := fun _ => fun
  | [d1, d2] => { results := [.lit (.bool true)], args := [d1, d2] }
  | _ => none }
def reasmAloneRow : OpenClaim := { program := "ytgdjcoodjdckkaa", sum := "a0908b23792367bba133d9e1a96e5e91c4741101389eae57be3fa02a6fa92607", func := "pitot/pitotlaw09.ReasmAlone", spec := "reasmAlone", unfollowed := true, recurses := true, plainKeys := false, apart := false }
def ReasmAloneSaid : Prop := reasmAloneRow.holds Try.pinned (OpenSpec.ofChange reasmAloneSpec)

/-- ITS FALSE NEIGHBOUR: 'it returns false'. Refute it at one input. -/
def reasmAloneWrong : ChangeSpec := { name := "reasmAlone", fn := fun _ => fun
  | [d1, d2] => { results := [.lit (.bool false)], args := [d1, d2] }
  | _ => none }
def ReasmAloneWrongFalsely : Prop := reasmAloneRow.holds Try.pinned (OpenSpec.ofChange reasmAloneWrong)

/- THE SECOND FORM. 'bulk': how many values and letters a reading holds, each counted each time it is reached (what is shared counts as often as it is met; a slice's spare places count too). A statement '..UptoSaid' is the law's where the arguments, and the package variables that the reading takes, are together of bulk at most 1048576: NARROWER than '..Said'. Prove '..Said' where nothing that the law and all that it calls make is longer than what came in: it says more and counts as full. Else prove '..UptoSaid'. A law counts once. -/
mutual
def uptoBulk {H : Type} : DataW H → Nat
  | .lit (.string bytes) => bytes.length + 1
  | .lit _ => 1
  | .nil => 1
  | .ptr d => uptoBulk d + 1
  | .slice elems spare => uptoBulkAll elems + uptoBulkAll spare + 1
  | .agg parts => uptoBulkAll parts + 1
  | .iface _ d => uptoBulk d + 1
  | .map entries => uptoBulkEntries entries + 1
  | .held _ => 1
def uptoBulkAll {H : Type} : List (DataW H) → Nat
  | [] => 0
  | d :: r => uptoBulk d + uptoBulkAll r
def uptoBulkEntries {H : Type} : List (Lit × DataW H) → Nat
  | [] => 0
  | x :: r => uptoBulkEntry x + uptoBulkEntries r
def uptoBulkEntry {H : Type} : Lit × DataW H → Nat
  | (.string bytes, d) => bytes.length + uptoBulk d + 1
  | (_, d) => uptoBulk d + 1
 end
def uptoSmall : (H : Type) → List (DataW H) → Bool := fun _ ds => decide (uptoBulkAll ds ≤ 1048576)
def OpenSpec.upto (s : _root_.Go.ChangeSpec) : _root_.Go.OpenSpec := { _root_.Go.OpenSpec.ofChange s with cond := some uptoSmall }

/-- 'pitotlaw09.ReasmPlays', WHERE WHAT IT READS IS OF BULK AT MOST 1048576: true; the input reads as it did. -/
def reasmPlaysUptoRow : OpenClaim := { program := "ytgdjcoodjdckkaa", sum := "a0908b23792367bba133d9e1a96e5e91c4741101389eae57be3fa02a6fa92607", func := "pitot/pitotlaw09.ReasmPlays", spec := "reasmPlays", unfollowed := true, recurses := true, plainKeys := false, apart := false, narrowed := true }
def ReasmPlaysUptoSaid : Prop := reasmPlaysUptoRow.holds Try.pinned (OpenSpec.upto reasmPlaysSpec)

/-- 'pitotlaw09.ReasmWhole', WHERE WHAT IT READS IS OF BULK AT MOST 1048576: true; the input reads as it did. -/
def reasmWholeUptoRow : OpenClaim := { program := "ytgdjcoodjdckkaa", sum := "a0908b23792367bba133d9e1a96e5e91c4741101389eae57be3fa02a6fa92607", func := "pitot/pitotlaw09.ReasmWhole", spec := "reasmWhole", unfollowed := true, recurses := true, plainKeys := false, apart := false, narrowed := true }
def ReasmWholeUptoSaid : Prop := reasmWholeUptoRow.holds Try.pinned (OpenSpec.upto reasmWholeSpec)

/-- 'pitotlaw09.ReasmOnly', WHERE WHAT IT READS IS OF BULK AT MOST 1048576: true; the input reads as it did. -/
def reasmOnlyUptoRow : OpenClaim := { program := "ytgdjcoodjdckkaa", sum := "a0908b23792367bba133d9e1a96e5e91c4741101389eae57be3fa02a6fa92607", func := "pitot/pitotlaw09.ReasmOnly", spec := "reasmOnly", inPlace := ["internal/abi.NoEscape"], unfollowed := true, recurses := true, plainKeys := false, apart := false, narrowed := true }
def ReasmOnlyUptoSaid : Prop := reasmOnlyUptoRow.holds Try.pinned (OpenSpec.upto reasmOnlySpec)

/-- 'pitotlaw09.ReasmWaits', WHERE WHAT IT READS IS OF BULK AT MOST 1048576: true; the input reads as it did. -/
def reasmWaitsUptoRow : OpenClaim := { program := "ytgdjcoodjdckkaa", sum := "a0908b23792367bba133d9e1a96e5e91c4741101389eae57be3fa02a6fa92607", func := "pitot/pitotlaw09.ReasmWaits", spec := "reasmWaits", unfollowed := true, recurses := true, plainKeys := false, apart := false, narrowed := true }
def ReasmWaitsUptoSaid : Prop := reasmWaitsUptoRow.holds Try.pinned (OpenSpec.upto reasmWaitsSpec)

/-- 'pitotlaw09.ReasmNil', WHERE WHAT IT READS IS OF BULK AT MOST 1048576: true; the input reads as it did. -/
def reasmNilUptoRow : OpenClaim := { program := "ytgdjcoodjdckkaa", sum := "a0908b23792367bba133d9e1a96e5e91c4741101389eae57be3fa02a6fa92607", func := "pitot/pitotlaw09.ReasmNil", spec := "reasmNil", unfollowed := true, recurses := true, plainKeys := false, apart := false, narrowed := true }
def ReasmNilUptoSaid : Prop := reasmNilUptoRow.holds Try.pinned (OpenSpec.upto reasmNilSpec)

/-- 'pitotlaw09.ReasmAlone', WHERE WHAT IT READS IS OF BULK AT MOST 1048576: true; the input reads as it did. -/
def reasmAloneUptoRow : OpenClaim := { program := "ytgdjcoodjdckkaa", sum := "a0908b23792367bba133d9e1a96e5e91c4741101389eae57be3fa02a6fa92607", func := "pitot/pitotlaw09.ReasmAlone", spec := "reasmAlone", unfollowed := true, recurses := true, plainKeys := false, apart := false, narrowed := true }
def ReasmAloneUptoSaid : Prop := reasmAloneUptoRow.holds Try.pinned (OpenSpec.upto reasmAloneSpec)

end Rows
end Go.Proofs.Ytgdjcoodjdckkaa
