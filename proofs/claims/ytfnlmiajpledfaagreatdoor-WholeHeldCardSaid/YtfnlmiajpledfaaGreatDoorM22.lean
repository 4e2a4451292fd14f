/-
  What the statement stands on.
-/
import Derived.Test.YtfnlmiajpledfaaGreatDoorM04
import Derived.Test.YtfnlmiajpledfaaGreatDoorM10
namespace Go.Proofs.YtfnlmiajpledfaaGreatDoor
open Go.RowKit
theorem info_rat : (Tryz.prog.info? 34).map (fun i => (i.zero, i.size, i.bytes)) = some (some (.agg #[.bool false, .slice none 0 0, .slice none 0 0]), 3, 56) := by kernel_rfl
end Go.Proofs.YtfnlmiajpledfaaGreatDoor
