/-
  What the statement stands on.
-/
import Derived.Test.YtcfgefbkeeedgaaGreatDoorM23
namespace Go.Proofs.YtcfgefbkeeedgaaGreatDoor
open Go.RowKit
theorem rb_m {xs : List Rat} {a : Nat} (hx : ∀ q, q ∈ xs → RB q a) (ha : a ≤ 512) : ∀ q, q ∈ xs → q.num.natAbs < maxN ∧ q.den < maxN := fun q hq => rb_max (hx q hq) ha
end Go.Proofs.YtcfgefbkeeedgaaGreatDoor
