/-
  What the statement stands on.
-/
import Derived.Test.YtcfgefbkeeedgaaGreatDoorM02
namespace Go.Proofs.YtcfgefbkeeedgaaGreatDoor
theorem DD.left {l1 l2 : List Nat} (h : DD (l1 ++ l2)) : DD l1 := fun x hx => h x (List.mem_append_left _ hx)
theorem DD.right {l1 l2 : List Nat} (h : DD (l1 ++ l2)) : DD l2 := fun x hx => h x (List.mem_append_right _ hx)
end Go.Proofs.YtcfgefbkeeedgaaGreatDoor
