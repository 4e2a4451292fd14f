/-
  What the statement stands on.
-/
import Derived.Test.YtcfgefbkeeedgaaGreatDoorM33
namespace Go.Proofs.YtcfgefbkeeedgaaGreatDoor
open Go.RowKit
theorem dot_cons (x y : Rat) (xs ys : List Rat) : dotL (x :: xs) (y :: ys) = x * y + dotL xs ys := rfl
end Go.Proofs.YtcfgefbkeeedgaaGreatDoor
