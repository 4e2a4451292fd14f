/-
  What the statement stands on.
-/
import Derived.Test.YtcfgefbkeeedgaaGreatDoorM36
import Derived.Test.YtcfgefbkeeedgaaGreatDoorM34
namespace Go.Proofs.YtcfgefbkeeedgaaGreatDoor
open Go.RowKit
theorem rb_scale {xs : List Rat} {y : Rat} {a b : Nat} (hx : ∀ q, q ∈ xs → RB q a) (hy : RB y b) : ∀ q, q ∈ xs.map (· * y) → RB q (a + b) := fun q hq => by
  obtain ⟨x, h, rfl⟩ := List.mem_map.1 hq
  exact rb_mul (hx x h) hy
end Go.Proofs.YtcfgefbkeeedgaaGreatDoor
