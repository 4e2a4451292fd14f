/-
  What the statement stands on.
-/
import Derived.Test.YtcfgefbkeeedgaaGreatDoorM23
namespace Go.Proofs.YtcfgefbkeeedgaaGreatDoor
open Go.RowKit
theorem unitL_len (n : Nat) (at' : Int) : (unitL n at').length = n := by simp [unitL]
end Go.Proofs.YtcfgefbkeeedgaaGreatDoor
