/-
  What the statement stands on.
-/
import Derived.Test.YtcfgefbkeeedgaaGreatDoorM44
import Derived.Lib.SmallJoins
namespace Go.Proofs.YtcfgefbkeeedgaaGreatDoor
open Go.ChangeShapes Go.WideShapes Go.ChangeAt Go.RowKit Go.Joins
set_option maxRecDepth 100000 in
theorem rat_cells : Tryz.prog.cellsOf 34 = 3 ∧ Tryz.prog.cellsOf 25 = 2 ∧ Tryz.prog.cellsOf 23 = 1 ∧ Tryz.prog.cellsOf 4 = 1 := by
  refine ⟨?_, ?_, ?_, ?_⟩ <;> kernel_rfl
end Go.Proofs.YtcfgefbkeeedgaaGreatDoor
