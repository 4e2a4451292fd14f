/-
  What the statement stands on.
-/
import Derived.Test.YtcfgefbkeeedgaaGreatM03
import Derived.Test.YtcfgefbkeeedgaaGreatRows
import Derived.ProofKit
import Derived.OpenShut
namespace Go.Proofs.YtcfgefbkeeedgaaGreat
open Go.ChangeShapes Go.WideShapes Go.ChangeAt Go.RowKit
set_option maxRecDepth 100000 in
theorem own : ownKnob Tryz.prog.godebug = none := by kernel_rfl
set_option maxRecDepth 100000 in
theorem laidOut : laidOutB Tryz.prog = true := by kernel_rfl
set_option maxRecDepth 100000 in
theorem cellsU : Tryz.prog.cellsOf 88 = 1 := by kernel_rfl
end Go.Proofs.YtcfgefbkeeedgaaGreat
