/-
  What the statement stands on.
-/
import Derived.Test.YtcfgefbkeeedgaaM24
import Derived.Lib.SmallJoins
namespace Go.Proofs.Ytcfgefbkeeedgaa
open Go.ChangeShapes Go.WideShapes Go.ChangeAt Go.RowKit Go.Joins
set_option maxRecDepth 100000 in
theorem rat_cells : Try.prog.cellsOf 32 = 3 ∧ Try.prog.cellsOf 30 = 2 ∧ Try.prog.cellsOf 28 = 1 ∧ Try.prog.cellsOf 4 = 1 := by
  refine ⟨?_, ?_, ?_, ?_⟩ <;> kernel_rfl
end Go.Proofs.Ytcfgefbkeeedgaa
