/-
  No cell of these rows narrows 'for every input' (looked for: loops, veiled, ifaces, maps, wideKeys, modest, calm, conditions, laid).
  DERIVED. THE GIVEN ROWS OF THIS SEAT. 6 by the template 'for every input the law returns true; each argument reads behind the call as it read before'; 0 by the template 'total and deterministic' (their statements: YthicfgcnhefinaaTotals.lean).
  GIVEN WITH THE SEED: the statements are not yours to turn. If you find one false, say at which input.
  Laid BY PROGRAM, IN A SANDBOX (cutbox-rows.mjs): the forced cells as the released guide's own fill.sh prints them over the translation ae77380ccb91a0fb… (all of the seat's roots in one cut). By AI agents, Wed Nov 11 2026. No macro, syntax, notation, axiom, sorry.
-/
import Derived.Test.YthicfgcnhefinaaChecked
import GoSem.Claim
import GoSem.ClaimJoined
import GoSem.ClaimMapViews
import Derived.JoinedTies
import Derived.KernelRfl
namespace Go.Proofs.Ythicfgcnhefinaa
/- THE CELL 'sum', in the pinned program and in every row, IS THE sha256 OF THE DUMP (.gsa) THAT YthicfgcnhefinaaProg.lean LOADS. Nothing in Lean hashes anything: it is a label: what it is worth is what the hold of that sum in a sandbox is worth. -/
noncomputable def Try.pinned : Pinned := { name := "ythicfgcnhefinaa", sum := "ae77380ccb91a0fb35fbf1664e667188165ccab656afdd84675d97de725ab448", checked := Try.checked }
namespace Rows
def none {H : Type} : Left H := { results := [], args := [] }

/-- 'pitotlaw10.ConfigChecks': WHATEVER THE INPUT: true; the input reads as it did. -/
def configChecksSpec : ChangeSpec := { name := "configChecks", fn := fun _ => fun
  | [d] => { results := [.lit (.bool true)], args := [d] }
  | _ => none }
def configChecksRow : OpenClaim := { program := "ythicfgcnhefinaa", sum := "ae77380ccb91a0fb35fbf1664e667188165ccab656afdd84675d97de725ab448", func := "pitot/pitotlaw10.ConfigChecks", spec := "configChecks", unfollowed := true, recurses := true, plainKeys := false, apart := false }
def ConfigChecksSaid : Prop := configChecksRow.holds Try.pinned (OpenSpec.ofChange configChecksSpec)

/-- ITS FALSE NEIGHBOUR: 'it returns false'. Refute it at one input. -/
def configChecksWrong : ChangeSpec := { name := "configChecks", fn := fun _ => fun
  | [d] => { results := [.lit (.bool false)], args := [d] }
  | _ => none }
def ConfigChecksWrongFalsely : Prop := configChecksRow.holds Try.pinned (OpenSpec.ofChange configChecksWrong)

/-- 'pitotlaw10.ConfigFinds': WHATEVER THE INPUT: true; the input reads as it did. -/
def configFindsSpec : ChangeSpec := { name := "configFinds", fn := fun _ => fun
  | [d1, d2, d3] => { results := [.lit (.bool true)], args := [d1, d2, d3] }
  | _ => none }
def configFindsRow : OpenClaim := { program := "ythicfgcnhefinaa", sum := "ae77380ccb91a0fb35fbf1664e667188165ccab656afdd84675d97de725ab448", func := "pitot/pitotlaw10.ConfigFinds", spec := "configFinds", unfollowed := true, recurses := true, plainKeys := false, apart := false }
def ConfigFindsSaid : Prop := configFindsRow.holds Try.pinned (OpenSpec.ofChange configFindsSpec)

/-- ITS FALSE NEIGHBOUR: 'it returns false'. Refute it at one input. -/
def configFindsWrong : ChangeSpec := { name := "configFinds", fn := fun _ => fun
  | [d1, d2, d3] => { results := [.lit (.bool false)], args := [d1, d2, d3] }
  | _ => none }
def ConfigFindsWrongFalsely : Prop := configFindsRow.holds Try.pinned (OpenSpec.ofChange configFindsWrong)

/-- 'pitotlaw10.ConfigHolds': WHATEVER THE INPUT: true; the input reads as it did. -/
def configHoldsSpec : ChangeSpec := { name := "configHolds", fn := fun _ => fun
  | [d] => { results := [.lit (.bool true)], args := [d] }
  | _ => none }
def configHoldsRow : OpenClaim := { program := "ythicfgcnhefinaa", sum := "ae77380ccb91a0fb35fbf1664e667188165ccab656afdd84675d97de725ab448", func := "pitot/pitotlaw10.ConfigHolds", spec := "configHolds", unfollowed := true, recurses := true, plainKeys := false, apart := false }
def ConfigHoldsSaid : Prop := configHoldsRow.holds Try.pinned (OpenSpec.ofChange configHoldsSpec)

/-- ITS FALSE NEIGHBOUR: 'it returns false'. Refute it at one input. -/
def configHoldsWrong : ChangeSpec := { name := "configHolds", fn := fun _ => fun
  | [d] => { results := [.lit (.bool false)], args := [d] }
  | _ => none }
def ConfigHoldsWrongFalsely : Prop := configHoldsRow.holds Try.pinned (OpenSpec.ofChange configHoldsWrong)

/-- 'pitotlaw10.ConfigLess': WHATEVER THE INPUT: true; the input reads as it did. -/
def configLessSpec : ChangeSpec := { name := "configLess", fn := fun _ => fun
  | [d] => { results := [.lit (.bool true)], args := [d] }
  | _ => none }
def configLessRow : OpenClaim := { program := "ythicfgcnhefinaa", sum := "ae77380ccb91a0fb35fbf1664e667188165ccab656afdd84675d97de725ab448", func := "pitot/pitotlaw10.ConfigLess", spec := "configLess", unfollowed := true, recurses := true, plainKeys := false, apart := false }
def ConfigLessSaid : Prop := configLessRow.holds Try.pinned (OpenSpec.ofChange configLessSpec)

/-- ITS FALSE NEIGHBOUR: 'it returns false'. Refute it at one input. -/
def configLessWrong : ChangeSpec := { name := "configLess", fn := fun _ => fun
  | [d] => { results := [.lit (.bool false)], args := [d] }
  | _ => none }
def ConfigLessWrongFalsely : Prop := configLessRow.holds Try.pinned (OpenSpec.ofChange configLessWrong)

/-- 'pitotlaw10.ConfigFirst': WHATEVER THE INPUT: true; the input reads as it did. -/
def configFirstSpec : ChangeSpec := { name := "configFirst", fn := fun _ => fun
  | [d] => { results := [.lit (.bool true)], args := [d] }
  | _ => none }
def configFirstRow : OpenClaim := { program := "ythicfgcnhefinaa", sum := "ae77380ccb91a0fb35fbf1664e667188165ccab656afdd84675d97de725ab448", func := "pitot/pitotlaw10.ConfigFirst", spec := "configFirst", unfollowed := true, recurses := true, plainKeys := false, apart := false }
def ConfigFirstSaid : Prop := configFirstRow.holds Try.pinned (OpenSpec.ofChange configFirstSpec)

/-- ITS FALSE NEIGHBOUR: 'it returns false'. Refute it at one input. -/
def configFirstWrong : ChangeSpec := { name := "configFirst", fn := fun _ => fun
  | [d] => { results := [.lit (.bool false)], args := [d] }
  | _ => none }
def ConfigFirstWrongFalsely : Prop := configFirstRow.holds Try.pinned (OpenSpec.ofChange configFirstWrong)

/-- 'pitotlaw10.ConfigHosts': WHATEVER THE INPUT: true; the input reads as it did. -/
def configHostsSpec : ChangeSpec := { name := "configHosts", fn := fun _ => fun
  | [d] => { results := [.lit (.bool true)], args := [d] }
  | _ => none }
def configHostsRow : OpenClaim := { program := "ythicfgcnhefinaa", sum := "ae77380ccb91a0fb35fbf1664e667188165ccab656afdd84675d97de725ab448", func := "pitot/pitotlaw10.ConfigHosts", spec := "configHosts", unfollowed := true, recurses := true, plainKeys := false, apart := false }
def ConfigHostsSaid : Prop := configHostsRow.holds Try.pinned (OpenSpec.ofChange configHostsSpec)

/-- ITS FALSE NEIGHBOUR: 'it returns false'. Refute it at one input. -/
def configHostsWrong : ChangeSpec := { name := "configHosts", fn := fun _ => fun
  | [d] => { results := [.lit (.bool false)], args := [d] }
  | _ => none }
def ConfigHostsWrongFalsely : Prop := configHostsRow.holds Try.pinned (OpenSpec.ofChange configHostsWrong)

/- THE SECOND FORM. 'bulk': how many values and letters a reading holds, each counted each time it is reached (what is shared counts as often as it is met; a slice's spare places count too). A statement '..UptoSaid' is the law's where the arguments, and the package variables that the reading takes, are together of bulk at most 1048576: NARROWER than '..Said'. Prove '..Said' where nothing that the law and all that it calls make is longer than what came in: it says more and counts as full. Else prove '..UptoSaid'. A law counts once. -/
mutual
def uptoBulk {H : Type} : DataW H → Nat
  | .lit (.string bytes) => bytes.length + 1
  | .lit _ => 1
  | .nil => 1
  | .ptr d => uptoBulk d + 1
  | .slice elems spare => uptoBulkAll elems + uptoBulkAll spare + 1
  | .agg parts => uptoBulkAll parts + 1
  | .iface _ d => uptoBulk d + 1
  | .map entries => uptoBulkEntries entries + 1
  | .held _ => 1
def uptoBulkAll {H : Type} : List (DataW H) → Nat
  | [] => 0
  | d :: r => uptoBulk d + uptoBulkAll r
def uptoBulkEntries {H : Type} : List (Lit × DataW H) → Nat
  | [] => 0
  | x :: r => uptoBulkEntry x + uptoBulkEntries r
def uptoBulkEntry {H : Type} : Lit × DataW H → Nat
  | (.string bytes, d) => bytes.length + uptoBulk d + 1
  | (_, d) => uptoBulk d + 1
 end
def uptoSmall : (H : Type) → List (DataW H) → Bool := fun _ ds => decide (uptoBulkAll ds ≤ 1048576)
def OpenSpec.upto (s : _root_.Go.ChangeSpec) : _root_.Go.OpenSpec := { _root_.Go.OpenSpec.ofChange s with cond := some uptoSmall }

/-- 'pitotlaw10.ConfigChecks', WHERE WHAT IT READS IS OF BULK AT MOST 1048576: true; the input reads as it did. -/
def configChecksUptoRow : OpenClaim := { program := "ythicfgcnhefinaa", sum := "ae77380ccb91a0fb35fbf1664e667188165ccab656afdd84675d97de725ab448", func := "pitot/pitotlaw10.ConfigChecks", spec := "configChecks", unfollowed := true, recurses := true, plainKeys := false, apart := false, narrowed := true }
def ConfigChecksUptoSaid : Prop := configChecksUptoRow.holds Try.pinned (OpenSpec.upto configChecksSpec)

/-- 'pitotlaw10.ConfigFinds', WHERE WHAT IT READS IS OF BULK AT MOST 1048576: true; the input reads as it did. -/
def configFindsUptoRow : OpenClaim := { program := "ythicfgcnhefinaa", sum := "ae77380ccb91a0fb35fbf1664e667188165ccab656afdd84675d97de725ab448", func := "pitot/pitotlaw10.ConfigFinds", spec := "configFinds", unfollowed := true, recurses := true, plainKeys := false, apart := false, narrowed := true }
def ConfigFindsUptoSaid : Prop := configFindsUptoRow.holds Try.pinned (OpenSpec.upto configFindsSpec)

/-- 'pitotlaw10.ConfigHolds', WHERE WHAT IT READS IS OF BULK AT MOST 1048576: true; the input reads as it did. -/
def configHoldsUptoRow : OpenClaim := { program := "ythicfgcnhefinaa", sum := "ae77380ccb91a0fb35fbf1664e667188165ccab656afdd84675d97de725ab448", func := "pitot/pitotlaw10.ConfigHolds", spec := "configHolds", unfollowed := true, recurses := true, plainKeys := false, apart := false, narrowed := true }
def ConfigHoldsUptoSaid : Prop := configHoldsUptoRow.holds Try.pinned (OpenSpec.upto configHoldsSpec)

/-- 'pitotlaw10.ConfigLess', WHERE WHAT IT READS IS OF BULK AT MOST 1048576: true; the input reads as it did. -/
def configLessUptoRow : OpenClaim := { program := "ythicfgcnhefinaa", sum := "ae77380ccb91a0fb35fbf1664e667188165ccab656afdd84675d97de725ab448", func := "pitot/pitotlaw10.ConfigLess", spec := "configLess", unfollowed := true, recurses := true, plainKeys := false, apart := false, narrowed := true }
def ConfigLessUptoSaid : Prop := configLessUptoRow.holds Try.pinned (OpenSpec.upto configLessSpec)

/-- 'pitotlaw10.ConfigFirst', WHERE WHAT IT READS IS OF BULK AT MOST 1048576: true; the input reads as it did. -/
def configFirstUptoRow : OpenClaim := { program := "ythicfgcnhefinaa", sum := "ae77380ccb91a0fb35fbf1664e667188165ccab656afdd84675d97de725ab448", func := "pitot/pitotlaw10.ConfigFirst", spec := "configFirst", unfollowed := true, recurses := true, plainKeys := false, apart := false, narrowed := true }
def ConfigFirstUptoSaid : Prop := configFirstUptoRow.holds Try.pinned (OpenSpec.upto configFirstSpec)

/-- 'pitotlaw10.ConfigHosts', WHERE WHAT IT READS IS OF BULK AT MOST 1048576: true; the input reads as it did. -/
def configHostsUptoRow : OpenClaim := { program := "ythicfgcnhefinaa", sum := "ae77380ccb91a0fb35fbf1664e667188165ccab656afdd84675d97de725ab448", func := "pitot/pitotlaw10.ConfigHosts", spec := "configHosts", unfollowed := true, recurses := true, plainKeys := false, apart := false, narrowed := true }
def ConfigHostsUptoSaid : Prop := configHostsUptoRow.holds Try.pinned (OpenSpec.upto configHostsSpec)

end Rows
end Go.Proofs.Ythicfgcnhefinaa
