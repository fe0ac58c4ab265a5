/- The document's Check. -/
import Derived.Test.YtdgkanamceeheaaGreatM25
import Derived.Test.YtdgkanamceeheaaGreatM17
import Derived.Deep.RegionHeld3
import Derived.Test.YtdgkanamceeheaaGreatM29
import Derived.Deep.Cut
import Derived.Deep.CutBlock
import Derived.IntWalk
import Derived.Test.YtdgkanamceeheaaGreatM13
set_option linter.unusedVariables false
set_option maxRecDepth 100000
namespace Go.Proofs.YtdgkanamceeheaaGreat
open Go.RowKit

/-- What a list's judge tells at a place. -/
def at_ {α : Type} (J : List α → α → Int) (l : List α) (k : Nat) : Int := if h : k < l.length then J (l.take k) l[k] else 0
end Go.Proofs.YtdgkanamceeheaaGreat
/- The document's Load: what is wrong with a Fresh; what is answered. -/
set_option maxRecDepth 100000
set_option linter.unusedVariables false
namespace Go.Proofs.YtdgkanamceeheaaGreat.Im
open Go.RowKit
open PitotImg (St rd)
/-- The network of nothing. -/
abbrev zc : Value := .agg #[.int .i64 0, .slice none 0 0, .int .i64 0, .slice none 0 0, .slice none 0 0, .slice none 0 0]
/-- What Load answers. -/
def Ans (r : Except Int PitotConf.Cf) (e : Ending) (w' : World) : Prop := match r with
  | .error k => e = .returned (.tuple #[zc, .int .i64 k])
  | .ok c => ∃ cx : Cx, cx.pl = c ∧ cx.Held w' ∧ e = .returned (.tuple #[cx.val, .int .i64 0])
theorem zero_cf (w : World) : (zeroValue 28).run Tryz.prog w = .ok zc w := by kernel_rfl
theorem build_cf (w : World) : (Instr.build 28 #[]).run Tryz.prog w = .ok zc w := by kernel_rfl
theorem zero_win (w : World) : (zeroValue 58).run Tryz.prog w = .ok (.agg #[.int .i64 0, .int .i64 0, .int .i64 0]) w := by kernel_rfl
theorem zero_vl (w : World) : (zeroValue 60).run Tryz.prog w = .ok (.agg #[.int .i64 0, .int .i64 0, .int .i64 0, .int .i64 0, .bool false, .int .i64 0, .int .i64 0, .slice none 0 0]) w := by kernel_rfl
theorem zero_prt (w : World) : (zeroValue 62).run Tryz.prog w = .ok (.agg #[.int .i64 0, .int .i64 0, .int .i64 0, .int .i64 0, .bool false, .int .i64 0, .int .i64 0, .int .i64 0, .int .i64 0, .int .i64 0, .int .i64 0]) w := by kernel_rfl
theorem infoW : (Tryz.prog.info? 58).map (fun i => (i.zero, i.size, i.bytes)) = some (some (.agg #[.int .i64 0, .int .i64 0, .int .i64 0]), 3, 24) := by kernel_rfl
theorem infoV : (Tryz.prog.info? 60).map (fun i => (i.zero, i.size, i.bytes)) = some (some (.agg #[.int .i64 0, .int .i64 0, .int .i64 0, .int .i64 0, .bool false, .int .i64 0, .int .i64 0, .slice none 0 0]), 8, 80) := by kernel_rfl
theorem infoP : (Tryz.prog.info? 62).map (fun i => (i.zero, i.size, i.bytes)) = some (some (.agg #[.int .i64 0, .int .i64 0, .int .i64 0, .int .i64 0, .bool false, .int .i64 0, .int .i64 0, .int .i64 0, .int .i64 0, .int .i64 0, .int .i64 0]), 11, 88) := by kernel_rfl
end Go.Proofs.YtdgkanamceeheaaGreat.Im
