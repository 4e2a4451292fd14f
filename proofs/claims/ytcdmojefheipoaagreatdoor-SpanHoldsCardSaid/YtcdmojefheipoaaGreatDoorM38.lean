/-
  What the statement stands on.
-/
import Derived.Test.YtcdmojefheipoaaGreatDoorM36
import Derived.Lib.SmallJoins
namespace Go.Proofs.YtcdmojefheipoaaGreatDoor
open Go.ChangeShapes Go.WideShapes Go.ChangeAt Go.RowKit Go.Joins
set_option maxRecDepth 100000 in
theorem dy_cells : Tryz.prog.cellsOf 27 = 3 ∧ Tryz.prog.cellsOf 25 = 2 ∧ Tryz.prog.cellsOf 23 = 1 ∧ Tryz.prog.cellsOf 4 = 1 ∧ Tryz.prog.cellsOf 3 = 1 := by
  refine ⟨?_, ?_, ?_, ?_, ?_⟩ <;> kernel_rfl
end Go.Proofs.YtcdmojefheipoaaGreatDoor
