/-
  No cell of these rows narrows 'for every input' (looked for: loops, veiled, ifaces, maps, wideKeys, modest, calm, conditions, laid).
  DERIVED. THE GIVEN ROWS OF THIS SEAT. 7 by the template 'for every input the law returns true; each argument reads behind the call as it read before'; 0 by the template 'total and deterministic' (their statements: YtechdnkkchhaaaaTotals.lean).
  GIVEN WITH THE SEED: the statements are not yours to turn. If you find one false, say at which input.
  Laid BY PROGRAM, IN A SANDBOX (cutbox-rows.mjs): the forced cells as the released guide's own fill.sh prints them over the translation 1d0ad1b2d415a4bd… (all of the seat's roots in one cut). By AI agents, Wed Nov 11 2026. No macro, syntax, notation, axiom, sorry.
-/
import Derived.Test.YtechdnkkchhaaaaChecked
import GoSem.Claim
import GoSem.ClaimJoined
import GoSem.ClaimMapViews
import Derived.JoinedTies
import Derived.KernelRfl
namespace Go.Proofs.Ytechdnkkchhaaaa
/- THE CELL 'sum', in the pinned program and in every row, IS THE sha256 OF THE DUMP (.gsa) THAT YtechdnkkchhaaaaProg.lean LOADS. Nothing in Lean hashes anything: it is a label: what it is worth is what the hold of that sum in a sandbox is worth. -/
noncomputable def Try.pinned : Pinned := { name := "ytechdnkkchhaaaa", sum := "1d0ad1b2d415a4bd9a96df41ce3b3e1abbb79180550711ca2740b7dba5017c29", checked := Try.checked }
namespace Rows
def none {H : Type} : Left H := { results := [], args := [] }

/-- 'pitotlaw03.AddrLays': WHATEVER THE INPUT: true; the input reads as it did. -/
def addrLaysSpec : ChangeSpec := { name := "addrLays", fn := fun _ => fun
  | [d1, d2] => { results := [.lit (.bool true)], args := [d1, d2] }
  | _ => none }
def addrLaysRow : OpenClaim := { program := "ytechdnkkchhaaaa", sum := "1d0ad1b2d415a4bd9a96df41ce3b3e1abbb79180550711ca2740b7dba5017c29", func := "pitot/pitotlaw03.AddrLays", spec := "addrLays", plainKeys := false, apart := false }
def AddrLaysSaid : Prop := addrLaysRow.holds Try.pinned (OpenSpec.ofChange addrLaysSpec)

/-- ITS FALSE NEIGHBOUR: 'it returns false'. Refute it at one input. -/
def addrLaysWrong : ChangeSpec := { name := "addrLays", fn := fun _ => fun
  | [d1, d2] => { results := [.lit (.bool false)], args := [d1, d2] }
  | _ => none }
def AddrLaysWrongFalsely : Prop := addrLaysRow.holds Try.pinned (OpenSpec.ofChange addrLaysWrong)

/-- 'pitotlaw03.AddrTells': WHATEVER THE INPUT: true; the input reads as it did. -/
def addrTellsSpec : ChangeSpec := { name := "addrTells", fn := fun _ => fun
  | [d] => { results := [.lit (.bool true)], args := [d] }
  | _ => none }
def addrTellsRow : OpenClaim := { program := "ytechdnkkchhaaaa", sum := "1d0ad1b2d415a4bd9a96df41ce3b3e1abbb79180550711ca2740b7dba5017c29", func := "pitot/pitotlaw03.AddrTells", spec := "addrTells", plainKeys := false, apart := false }
def AddrTellsSaid : Prop := addrTellsRow.holds Try.pinned (OpenSpec.ofChange addrTellsSpec)

/-- ITS FALSE NEIGHBOUR: 'it returns false'. Refute it at one input. -/
def addrTellsWrong : ChangeSpec := { name := "addrTells", fn := fun _ => fun
  | [d] => { results := [.lit (.bool false)], args := [d] }
  | _ => none }
def AddrTellsWrongFalsely : Prop := addrTellsRow.holds Try.pinned (OpenSpec.ofChange addrTellsWrong)

/-- 'pitotlaw03.AddrTexts': WHATEVER THE INPUT: true; the input reads as it did. -/
def addrTextsSpec : ChangeSpec := { name := "addrTexts", fn := fun _ => fun
  | [d1, d2] => { results := [.lit (.bool true)], args := [d1, d2] }
  | _ => none }
def addrTextsRow : OpenClaim := { program := "ytechdnkkchhaaaa", sum := "1d0ad1b2d415a4bd9a96df41ce3b3e1abbb79180550711ca2740b7dba5017c29", func := "pitot/pitotlaw03.AddrTexts", spec := "addrTexts", inPlace := ["internal/bytealg.IndexByteString"], plainKeys := false, apart := false }
def AddrTextsSaid : Prop := addrTextsRow.holds Try.pinned (OpenSpec.ofChange addrTextsSpec)

/-- ITS FALSE NEIGHBOUR: 'it returns false'. Refute it at one input. -/
def addrTextsWrong : ChangeSpec := { name := "addrTexts", fn := fun _ => fun
  | [d1, d2] => { results := [.lit (.bool false)], args := [d1, d2] }
  | _ => none }
def AddrTextsWrongFalsely : Prop := addrTextsRow.holds Try.pinned (OpenSpec.ofChange addrTextsWrong)

/-- 'pitotlaw03.AddrBooks': WHATEVER THE INPUT: true; the input reads as it did. -/
def addrBooksSpec : ChangeSpec := { name := "addrBooks", fn := fun _ => fun
  | [d] => { results := [.lit (.bool true)], args := [d] }
  | _ => none }
def addrBooksRow : OpenClaim := { program := "ytechdnkkchhaaaa", sum := "1d0ad1b2d415a4bd9a96df41ce3b3e1abbb79180550711ca2740b7dba5017c29", func := "pitot/pitotlaw03.AddrBooks", spec := "addrBooks", inPlace := ["internal/bytealg.Compare"], unfollowed := true, recurses := true, plainKeys := false, apart := false }
def AddrBooksSaid : Prop := addrBooksRow.holds Try.pinned (OpenSpec.ofChange addrBooksSpec)

/-- ITS FALSE NEIGHBOUR: 'it returns false'. Refute it at one input. -/
def addrBooksWrong : ChangeSpec := { name := "addrBooks", fn := fun _ => fun
  | [d] => { results := [.lit (.bool false)], args := [d] }
  | _ => none }
def AddrBooksWrongFalsely : Prop := addrBooksRow.holds Try.pinned (OpenSpec.ofChange addrBooksWrong)

/-- 'pitotlaw03.AddrBack': WHATEVER THE INPUT: true; the input reads as it did. -/
def addrBackSpec : ChangeSpec := { name := "addrBack", fn := fun _ => fun
  | [d1, d2] => { results := [.lit (.bool true)], args := [d1, d2] }
  | _ => none }
def addrBackRow : OpenClaim := { program := "ytechdnkkchhaaaa", sum := "1d0ad1b2d415a4bd9a96df41ce3b3e1abbb79180550711ca2740b7dba5017c29", func := "pitot/pitotlaw03.AddrBack", spec := "addrBack", plainKeys := false, apart := false }
def AddrBackSaid : Prop := addrBackRow.holds Try.pinned (OpenSpec.ofChange addrBackSpec)

/-- ITS FALSE NEIGHBOUR: 'it returns false'. Refute it at one input. -/
def addrBackWrong : ChangeSpec := { name := "addrBack", fn := fun _ => fun
  | [d1, d2] => { results := [.lit (.bool false)], args := [d1, d2] }
  | _ => none }
def AddrBackWrongFalsely : Prop := addrBackRow.holds Try.pinned (OpenSpec.ofChange addrBackWrong)

/-- 'pitotlaw03.AddrNil': WHATEVER THE INPUT: true; the input reads as it did. -/
def addrNilSpec : ChangeSpec := { name := "addrNil", fn := fun _ => fun
  | [d1, d2] => { results := [.lit (.bool true)], args := [d1, d2] }
  | _ => none }
def addrNilRow : OpenClaim := { program := "ytechdnkkchhaaaa", sum := "1d0ad1b2d415a4bd9a96df41ce3b3e1abbb79180550711ca2740b7dba5017c29", func := "pitot/pitotlaw03.AddrNil", spec := "addrNil", inPlace := ["internal/bytealg.Compare"], unfollowed := true, recurses := true, plainKeys := false, apart := false }
def AddrNilSaid : Prop := addrNilRow.holds Try.pinned (OpenSpec.ofChange addrNilSpec)

/-- ITS FALSE NEIGHBOUR: 'it returns false'. Refute it at one input. -/
def addrNilWrong : ChangeSpec := { name := "addrNil", fn := fun _ => fun
  | [d1, d2] => { results := [.lit (.bool false)], args := [d1, d2] }
  | _ => none }
def AddrNilWrongFalsely : Prop := addrNilRow.holds Try.pinned (OpenSpec.ofChange addrNilWrong)

/-- 'pitotlaw03.AddrKeeps': WHATEVER THE INPUT: true; the input reads as it did. -/
def addrKeepsSpec : ChangeSpec := { name := "addrKeeps", fn := fun _ => fun
  | [d1, d2, d3] => { results := [.lit (.bool true)], args := [d1, d2, d3] }
  | _ => none }
def addrKeepsRow : OpenClaim := { program := "ytechdnkkchhaaaa", sum := "1d0ad1b2d415a4bd9a96df41ce3b3e1abbb79180550711ca2740b7dba5017c29", func := "pitot/pitotlaw03.AddrKeeps", spec := "addrKeeps", inPlace := ["internal/bytealg.Compare"], unfollowed := true, recurses := true, plainKeys := false, apart := false }
def AddrKeepsSaid : Prop := addrKeepsRow.holds Try.pinned (OpenSpec.ofChange addrKeepsSpec)

/-- ITS FALSE NEIGHBOUR: 'it returns false'. Refute it at one input. -/
def addrKeepsWrong : ChangeSpec := { name := "addrKeeps", fn := fun _ => fun
  | [d1, d2, d3] => { results := [.lit (.bool false)], args := [d1, d2, d3] }
  | _ => none }
def AddrKeepsWrongFalsely : Prop := addrKeepsRow.holds Try.pinned (OpenSpec.ofChange addrKeepsWrong)

/- THE SECOND FORM. 'bulk': how many values and letters a reading holds, each counted each time it is reached (what is shared counts as often as it is met; a slice's spare places count too). A statement '..UptoSaid' is the law's where the arguments, and the package variables that the reading takes, are together of bulk at most 1048576: NARROWER than '..Said'. Prove '..Said' where nothing that the law and all that it calls make is longer than what came in: it says more and counts as full. Else prove '..UptoSaid'. A law counts once. -/
mutual
def uptoBulk {H : Type} : DataW H → Nat
  | .lit (.string bytes) => bytes.length + 1
  | .lit _ => 1
  | .nil => 1
  | .ptr d => uptoBulk d + 1
  | .slice elems spare => uptoBulkAll elems + uptoBulkAll spare + 1
  | .agg parts => uptoBulkAll parts + 1
  | .iface _ d => uptoBulk d + 1
  | .map entries => uptoBulkEntries entries + 1
  | .held _ => 1
def uptoBulkAll {H : Type} : List (DataW H) → Nat
  | [] => 0
  | d :: r => uptoBulk d + uptoBulkAll r
def uptoBulkEntries {H : Type} : List (Lit × DataW H) → Nat
  | [] => 0
  | x :: r => uptoBulkEntry x + uptoBulkEntries r
def uptoBulkEntry {H : Type} : Lit × DataW H → Nat
  | (.string bytes, d) => bytes.length + uptoBulk d + 1
  | (_, d) => uptoBulk d + 1
 end
def uptoSmall : (H : Type) → List (DataW H) → Bool := fun _ ds => decide (uptoBulkAll ds ≤ 1048576)
def OpenSpec.upto (s : _root_.Go.ChangeSpec) : _root_.Go.OpenSpec := { _root_.Go.OpenSpec.ofChange s with cond := some uptoSmall }

/-- 'pitotlaw03.AddrLays', WHERE WHAT IT READS IS OF BULK AT MOST 1048576: true; the input reads as it did. -/
def addrLaysUptoRow : OpenClaim := { program := "ytechdnkkchhaaaa", sum := "1d0ad1b2d415a4bd9a96df41ce3b3e1abbb79180550711ca2740b7dba5017c29", func := "pitot/pitotlaw03.AddrLays", spec := "addrLays", plainKeys := false, apart := false, narrowed := true }
def AddrLaysUptoSaid : Prop := addrLaysUptoRow.holds Try.pinned (OpenSpec.upto addrLaysSpec)

/-- 'pitotlaw03.AddrTells', WHERE WHAT IT READS IS OF BULK AT MOST 1048576: true; the input reads as it did. -/
def addrTellsUptoRow : OpenClaim := { program := "ytechdnkkchhaaaa", sum := "1d0ad1b2d415a4bd9a96df41ce3b3e1abbb79180550711ca2740b7dba5017c29", func := "pitot/pitotlaw03.AddrTells", spec := "addrTells", plainKeys := false, apart := false, narrowed := true }
def AddrTellsUptoSaid : Prop := addrTellsUptoRow.holds Try.pinned (OpenSpec.upto addrTellsSpec)

/-- 'pitotlaw03.AddrTexts', WHERE WHAT IT READS IS OF BULK AT MOST 1048576: true; the input reads as it did. -/
def addrTextsUptoRow : OpenClaim := { program := "ytechdnkkchhaaaa", sum := "1d0ad1b2d415a4bd9a96df41ce3b3e1abbb79180550711ca2740b7dba5017c29", func := "pitot/pitotlaw03.AddrTexts", spec := "addrTexts", inPlace := ["internal/bytealg.IndexByteString"], plainKeys := false, apart := false, narrowed := true }
def AddrTextsUptoSaid : Prop := addrTextsUptoRow.holds Try.pinned (OpenSpec.upto addrTextsSpec)

/-- 'pitotlaw03.AddrBooks', WHERE WHAT IT READS IS OF BULK AT MOST 1048576: true; the input reads as it did. -/
def addrBooksUptoRow : OpenClaim := { program := "ytechdnkkchhaaaa", sum := "1d0ad1b2d415a4bd9a96df41ce3b3e1abbb79180550711ca2740b7dba5017c29", func := "pitot/pitotlaw03.AddrBooks", spec := "addrBooks", inPlace := ["internal/bytealg.Compare"], unfollowed := true, recurses := true, plainKeys := false, apart := false, narrowed := true }
def AddrBooksUptoSaid : Prop := addrBooksUptoRow.holds Try.pinned (OpenSpec.upto addrBooksSpec)

/-- 'pitotlaw03.AddrBack', WHERE WHAT IT READS IS OF BULK AT MOST 1048576: true; the input reads as it did. -/
def addrBackUptoRow : OpenClaim := { program := "ytechdnkkchhaaaa", sum := "1d0ad1b2d415a4bd9a96df41ce3b3e1abbb79180550711ca2740b7dba5017c29", func := "pitot/pitotlaw03.AddrBack", spec := "addrBack", plainKeys := false, apart := false, narrowed := true }
def AddrBackUptoSaid : Prop := addrBackUptoRow.holds Try.pinned (OpenSpec.upto addrBackSpec)

/-- 'pitotlaw03.AddrNil', WHERE WHAT IT READS IS OF BULK AT MOST 1048576: true; the input reads as it did. -/
def addrNilUptoRow : OpenClaim := { program := "ytechdnkkchhaaaa", sum := "1d0ad1b2d415a4bd9a96df41ce3b3e1abbb79180550711ca2740b7dba5017c29", func := "pitot/pitotlaw03.AddrNil", spec := "addrNil", inPlace := ["internal/bytealg.Compare"], unfollowed := true, recurses := true, plainKeys := false, apart := false, narrowed := true }
def AddrNilUptoSaid : Prop := addrNilUptoRow.holds Try.pinned (OpenSpec.upto addrNilSpec)

/-- 'pitotlaw03.AddrKeeps', WHERE WHAT IT READS IS OF BULK AT MOST 1048576: true; the input reads as it did. -/
def addrKeepsUptoRow : OpenClaim := { program := "ytechdnkkchhaaaa", sum := "1d0ad1b2d415a4bd9a96df41ce3b3e1abbb79180550711ca2740b7dba5017c29", func := "pitot/pitotlaw03.AddrKeeps", spec := "addrKeeps", inPlace := ["internal/bytealg.Compare"], unfollowed := true, recurses := true, plainKeys := false, apart := false, narrowed := true }
def AddrKeepsUptoSaid : Prop := addrKeepsUptoRow.holds Try.pinned (OpenSpec.upto addrKeepsSpec)

end Rows
end Go.Proofs.Ytechdnkkchhaaaa
