/-
  What the statement stands on.
-/
import Derived.Test.YtcdmojefheipoaaGreatDoorM25
namespace Go.Proofs.YtcdmojefheipoaaGreatDoor
open Go.RowKit
section
variable {x1 x2 x3 x4 z y : Rat}
theorem dyx_zero : DyX 0 := ⟨0, 0, .inl ⟨rfl, rfl⟩, dq_zero 0⟩
end
end Go.Proofs.YtcdmojefheipoaaGreatDoor
