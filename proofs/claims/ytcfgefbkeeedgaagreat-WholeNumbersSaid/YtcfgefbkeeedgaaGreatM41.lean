/-
  What the statement stands on.
-/
import Derived.Test.YtcfgefbkeeedgaaGreatM40
import Derived.Lib.SmallJoins
namespace Go.Proofs.YtcfgefbkeeedgaaGreat
open Go.ChangeShapes Go.WideShapes Go.ChangeAt Go.RowKit Go.Joins
set_option maxRecDepth 100000 in
theorem rat_cells : Tryz.prog.cellsOf 39 = 3 ∧ Tryz.prog.cellsOf 37 = 2 ∧ Tryz.prog.cellsOf 35 = 1 ∧ Tryz.prog.cellsOf 4 = 1 := by
  refine ⟨?_, ?_, ?_, ?_⟩ <;> kernel_rfl
end Go.Proofs.YtcfgefbkeeedgaaGreat
