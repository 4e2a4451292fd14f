/-
  What the statement stands on.
-/
import Derived.Test.YtcfgefbkeeedgaaM03
import Derived.Test.YtcfgefbkeeedgaaRows
import Derived.ProofKit
import Derived.OpenShut
namespace Go.Proofs.Ytcfgefbkeeedgaa
open Go.ChangeShapes Go.WideShapes Go.ChangeAt Go.RowKit
set_option maxRecDepth 100000 in
theorem own : ownKnob Try.prog.godebug = none := by kernel_rfl
set_option maxRecDepth 100000 in
theorem laidOut : laidOutB Try.prog = true := by kernel_rfl
set_option maxRecDepth 100000 in
theorem cellsU : Try.prog.cellsOf 69 = 1 := by kernel_rfl
end Go.Proofs.Ytcfgefbkeeedgaa
