/-
  No cell of these rows narrows 'for every input' (looked for: loops, veiled, ifaces, maps, wideKeys, modest, calm, conditions, laid).
  DERIVED. THE GIVEN ROWS OF THIS SEAT. 6 by the template 'for every input the law returns true; each argument reads behind the call as it read before'; 0 by the template 'total and deterministic' (their statements: YtiedfdnjnjohdaaTotals.lean).
  GIVEN WITH THE SEED: the statements are not yours to turn. If you find one false, say at which input.
  Laid BY PROGRAM, IN A SANDBOX (cutbox-rows.mjs): the forced cells as the released guide's own fill.sh prints them over the translation 523894c40c69dd14… (all of the seat's roots in one cut). By AI agents, Wed Nov 11 2026. No macro, syntax, notation, axiom, sorry.
-/
import Derived.Test.YtiedfdnjnjohdaaChecked
import GoSem.Claim
import GoSem.ClaimJoined
import GoSem.ClaimMapViews
import Derived.JoinedTies
import Derived.KernelRfl
namespace Go.Proofs.Ytiedfdnjnjohdaa
/- THE CELL 'sum', in the pinned program and in every row, IS THE sha256 OF THE DUMP (.gsa) THAT YtiedfdnjnjohdaaProg.lean LOADS. Nothing in Lean hashes anything: it is a label: what it is worth is what the hold of that sum in a sandbox is worth. -/
noncomputable def Try.pinned : Pinned := { name := "ytiedfdnjnjohdaa", sum := "523894c40c69dd14c941fa63526d70de97b5a12428acf04d42d21246305f1ca5", checked := Try.checked }
namespace Rows
def none {H : Type} : Left H := { results := [], args := [] }

/-- 'pitotlaw08.FragCounts': WHATEVER THE INPUT: true; the input reads as it did. -/
def fragCountsSpec : ChangeSpec := { name := "fragCounts", fn := fun _ => fun
  | [d1, d2] => { results := [.lit (.bool true)], args := [d1, d2] }
  | _ => none }
def fragCountsRow : OpenClaim := { program := "ytiedfdnjnjohdaa", sum := "523894c40c69dd14c941fa63526d70de97b5a12428acf04d42d21246305f1ca5", func := "pitot/pitotlaw08.FragCounts", spec := "fragCounts", inPlace := ["internal/abi.NoEscape"], apart := false }
def FragCountsSaid : Prop := fragCountsRow.holds Try.pinned (OpenSpec.ofChange fragCountsSpec)

/-- ITS FALSE NEIGHBOUR: 'it returns false'. Refute it at one input. -/
def fragCountsWrong : ChangeSpec := { name := "fragCounts", fn := fun _ => fun
  | [d1, d2] => { results := [.lit (.bool false)], args := [d1, d2] }
  | _ => none }
def FragCountsWrongFalsely : Prop := fragCountsRow.holds Try.pinned (OpenSpec.ofChange fragCountsWrong)

/-- 'pitotlaw08.FragSplits': WHATEVER THE INPUT: true; the input reads as it did. -/
def fragSplitsSpec : ChangeSpec := { name := "fragSplits", fn := fun _ => fun
  | [d1, d2] => { results := [.lit (.bool true)], args := [d1, d2] }
  | _ => none }
def fragSplitsRow : OpenClaim := { program := "ytiedfdnjnjohdaa", sum := "523894c40c69dd14c941fa63526d70de97b5a12428acf04d42d21246305f1ca5", func := "pitot/pitotlaw08.FragSplits", spec := "fragSplits", inPlace := ["internal/abi.NoEscape"], apart := false }
def FragSplitsSaid : Prop := fragSplitsRow.holds Try.pinned (OpenSpec.ofChange fragSplitsSpec)

/-- ITS FALSE NEIGHBOUR: 'it returns false'. Refute it at one input. -/
def fragSplitsWrong : ChangeSpec := { name := "fragSplits", fn := fun _ => fun
  | [d1, d2] => { results := [.lit (.bool false)], args := [d1, d2] }
  | _ => none }
def FragSplitsWrongFalsely : Prop := fragSplitsRow.holds Try.pinned (OpenSpec.ofChange fragSplitsWrong)

/-- 'pitotlaw08.FragJoins': WHATEVER THE INPUT: true; the input reads as it did. -/
def fragJoinsSpec : ChangeSpec := { name := "fragJoins", fn := fun _ => fun
  | [d] => { results := [.lit (.bool true)], args := [d] }
  | _ => none }
def fragJoinsRow : OpenClaim := { program := "ytiedfdnjnjohdaa", sum := "523894c40c69dd14c941fa63526d70de97b5a12428acf04d42d21246305f1ca5", func := "pitot/pitotlaw08.FragJoins", spec := "fragJoins", inPlace := ["internal/abi.NoEscape"], apart := false }
def FragJoinsSaid : Prop := fragJoinsRow.holds Try.pinned (OpenSpec.ofChange fragJoinsSpec)

/-- ITS FALSE NEIGHBOUR: 'it returns false'. Refute it at one input. -/
def fragJoinsWrong : ChangeSpec := { name := "fragJoins", fn := fun _ => fun
  | [d] => { results := [.lit (.bool false)], args := [d] }
  | _ => none }
def FragJoinsWrongFalsely : Prop := fragJoinsRow.holds Try.pinned (OpenSpec.ofChange fragJoinsWrong)

/-- 'pitotlaw08.FragBack': WHATEVER THE INPUT: true; the input reads as it did. -/
def fragBackSpec : ChangeSpec := { name := "fragBack", fn := fun _ => fun
  | [d1, d2] => { results := [.lit (.bool true)], args := [d1, d2] }
  | _ => none }
def fragBackRow : OpenClaim := { program := "ytiedfdnjnjohdaa", sum := "523894c40c69dd14c941fa63526d70de97b5a12428acf04d42d21246305f1ca5", func := "pitot/pitotlaw08.FragBack", spec := "fragBack", inPlace := ["internal/abi.NoEscape", "internal/bytealg.MakeNoZero"], apart := false }
def FragBackSaid : Prop := fragBackRow.holds Try.pinned (OpenSpec.ofChange fragBackSpec)

/-- ITS FALSE NEIGHBOUR: 'it returns false'. Refute it at one input. -/
def fragBackWrong : ChangeSpec := { name := "fragBack", fn := fun _ => fun
  | [d1, d2] => { results := [.lit (.bool false)], args := [d1, d2] }
  | _ => none }
def FragBackWrongFalsely : Prop := fragBackRow.holds Try.pinned (OpenSpec.ofChange fragBackWrong)

/-- 'pitotlaw08.FragLeast': WHATEVER THE INPUT: true; the input reads as it did. -/
def fragLeastSpec : ChangeSpec := { name := "fragLeast", fn := fun _ => fun
  | [d1, d2] => { results := [.lit (.bool true)], args := [d1, d2] }
  | _ => none }
def fragLeastRow : OpenClaim := { program := "ytiedfdnjnjohdaa", sum := "523894c40c69dd14c941fa63526d70de97b5a12428acf04d42d21246305f1ca5", func := "pitot/pitotlaw08.FragLeast", spec := "fragLeast", inPlace := ["internal/abi.NoEscape"], apart := false }
def FragLeastSaid : Prop := fragLeastRow.holds Try.pinned (OpenSpec.ofChange fragLeastSpec)

/-- ITS FALSE NEIGHBOUR: 'it returns false'. Refute it at one input. -/
def fragLeastWrong : ChangeSpec := { name := "fragLeast", fn := fun _ => fun
  | [d1, d2] => { results := [.lit (.bool false)], args := [d1, d2] }
  | _ => none }
def FragLeastWrongFalsely : Prop := fragLeastRow.holds Try.pinned (OpenSpec.ofChange fragLeastWrong)

/-- 'pitotlaw08.FragSmall': WHATEVER THE INPUT: true; the input reads as it did. -/
def fragSmallSpec : ChangeSpec := { name := "fragSmall", fn := fun _ => fun
  | [d1, d2] => { results := [.lit (.bool true)], args := [d1, d2] }
  | _ => none }
def fragSmallRow : OpenClaim := { program := "ytiedfdnjnjohdaa", sum := "523894c40c69dd14c941fa63526d70de97b5a12428acf04d42d21246305f1ca5", func := "pitot/pitotlaw08.FragSmall", spec := "fragSmall", inPlace := ["internal/abi.NoEscape"], apart := false }
def FragSmallSaid : Prop := fragSmallRow.holds Try.pinned (OpenSpec.ofChange fragSmallSpec)

/-- ITS FALSE NEIGHBOUR: 'it returns false'. Refute it at one input. -/
def fragSmallWrong : ChangeSpec := { name := "fragSmall", fn := fun _ => fun
  | [d1, d2] => { results := [.lit (.bool false)], args := [d1, d2] }
  | _ => none }
def FragSmallWrongFalsely : Prop := fragSmallRow.holds Try.pinned (OpenSpec.ofChange fragSmallWrong)

/- THE SECOND FORM. 'bulk': how many values and letters a reading holds, each counted each time it is reached (what is shared counts as often as it is met; a slice's spare places count too). A statement '..UptoSaid' is the law's where the arguments, and the package variables that the reading takes, are together of bulk at most 1048576: NARROWER than '..Said'. Prove '..Said' where nothing that the law and all that it calls make is longer than what came in: it says more and counts as full. Else prove '..UptoSaid'. A law counts once. -/
mutual
def uptoBulk {H : Type} : DataW H → Nat
  | .lit (.string bytes) => bytes.length + 1
  | .lit _ => 1
  | .nil => 1
  | .ptr d => uptoBulk d + 1
  | .slice elems spare => uptoBulkAll elems + uptoBulkAll spare + 1
  | .agg parts => uptoBulkAll parts + 1
  | .iface _ d => uptoBulk d + 1
  | .map entries => uptoBulkEntries entries + 1
  | .held _ => 1
def uptoBulkAll {H : Type} : List (DataW H) → Nat
  | [] => 0
  | d :: r => uptoBulk d + uptoBulkAll r
def uptoBulkEntries {H : Type} : List (Lit × DataW H) → Nat
  | [] => 0
  | x :: r => uptoBulkEntry x + uptoBulkEntries r
def uptoBulkEntry {H : Type} : Lit × DataW H → Nat
  | (.string bytes, d) => bytes.length + uptoBulk d + 1
  | (_, d) => uptoBulk d + 1
 end
def uptoSmall : (H : Type) → List (DataW H) → Bool := fun _ ds => decide (uptoBulkAll ds ≤ 1048576)
def OpenSpec.upto (s : _root_.Go.ChangeSpec) : _root_.Go.OpenSpec := { _root_.Go.OpenSpec.ofChange s with cond := some uptoSmall }

/-- 'pitotlaw08.FragCounts', WHERE WHAT IT READS IS OF BULK AT MOST 1048576: true; the input reads as it did. -/
def fragCountsUptoRow : OpenClaim := { program := "ytiedfdnjnjohdaa", sum := "523894c40c69dd14c941fa63526d70de97b5a12428acf04d42d21246305f1ca5", func := "pitot/pitotlaw08.FragCounts", spec := "fragCounts", inPlace := ["internal/abi.NoEscape"], apart := false, narrowed := true }
def FragCountsUptoSaid : Prop := fragCountsUptoRow.holds Try.pinned (OpenSpec.upto fragCountsSpec)

/-- 'pitotlaw08.FragSplits', WHERE WHAT IT READS IS OF BULK AT MOST 1048576: true; the input reads as it did. -/
def fragSplitsUptoRow : OpenClaim := { program := "ytiedfdnjnjohdaa", sum := "523894c40c69dd14c941fa63526d70de97b5a12428acf04d42d21246305f1ca5", func := "pitot/pitotlaw08.FragSplits", spec := "fragSplits", inPlace := ["internal/abi.NoEscape"], apart := false, narrowed := true }
def FragSplitsUptoSaid : Prop := fragSplitsUptoRow.holds Try.pinned (OpenSpec.upto fragSplitsSpec)

/-- 'pitotlaw08.FragJoins', WHERE WHAT IT READS IS OF BULK AT MOST 1048576: true; the input reads as it did. -/
def fragJoinsUptoRow : OpenClaim := { program := "ytiedfdnjnjohdaa", sum := "523894c40c69dd14c941fa63526d70de97b5a12428acf04d42d21246305f1ca5", func := "pitot/pitotlaw08.FragJoins", spec := "fragJoins", inPlace := ["internal/abi.NoEscape"], apart := false, narrowed := true }
def FragJoinsUptoSaid : Prop := fragJoinsUptoRow.holds Try.pinned (OpenSpec.upto fragJoinsSpec)

/-- 'pitotlaw08.FragBack', WHERE WHAT IT READS IS OF BULK AT MOST 1048576: true; the input reads as it did. -/
def fragBackUptoRow : OpenClaim := { program := "ytiedfdnjnjohdaa", sum := "523894c40c69dd14c941fa63526d70de97b5a12428acf04d42d21246305f1ca5", func := "pitot/pitotlaw08.FragBack", spec := "fragBack", inPlace := ["internal/abi.NoEscape", "internal/bytealg.MakeNoZero"], apart := false, narrowed := true }
def FragBackUptoSaid : Prop := fragBackUptoRow.holds Try.pinned (OpenSpec.upto fragBackSpec)

/-- 'pitotlaw08.FragLeast', WHERE WHAT IT READS IS OF BULK AT MOST 1048576: true; the input reads as it did. -/
def fragLeastUptoRow : OpenClaim := { program := "ytiedfdnjnjohdaa", sum := "523894c40c69dd14c941fa63526d70de97b5a12428acf04d42d21246305f1ca5", func := "pitot/pitotlaw08.FragLeast", spec := "fragLeast", inPlace := ["internal/abi.NoEscape"], apart := false, narrowed := true }
def FragLeastUptoSaid : Prop := fragLeastUptoRow.holds Try.pinned (OpenSpec.upto fragLeastSpec)

/-- 'pitotlaw08.FragSmall', WHERE WHAT IT READS IS OF BULK AT MOST 1048576: true; the input reads as it did. -/
def fragSmallUptoRow : OpenClaim := { program := "ytiedfdnjnjohdaa", sum := "523894c40c69dd14c941fa63526d70de97b5a12428acf04d42d21246305f1ca5", func := "pitot/pitotlaw08.FragSmall", spec := "fragSmall", inPlace := ["internal/abi.NoEscape"], apart := false, narrowed := true }
def FragSmallUptoSaid : Prop := fragSmallUptoRow.holds Try.pinned (OpenSpec.upto fragSmallSpec)

end Rows
end Go.Proofs.Ytiedfdnjnjohdaa
