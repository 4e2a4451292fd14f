/-
  What the statement stands on.
-/
import Derived.Test.YtcfgefbkeeedgaaGreatDoorM37
namespace Go.Proofs.YtcfgefbkeeedgaaGreatDoor
open Go.RowKit
theorem rb_zip {xs ys : List Rat} {a b : Nat} (hx : ∀ q, q ∈ xs → RB q a) (hy : ∀ q, q ∈ ys → RB q b) : ∀ q, q ∈ List.zipWith (· + ·) xs ys → RB q (a + b + 1) := fun q hq => by
  obtain ⟨j, hj⟩ := List.getElem?_of_mem hq
  rw [List.getElem?_zipWith] at hj
  split at hj
  · rename_i x y h1 h2
    simp at hj
    subst hj
    exact rb_add (hx x (List.mem_of_getElem? h1)) (hy y (List.mem_of_getElem? h2))
  · simp at hj
end Go.Proofs.YtcfgefbkeeedgaaGreatDoor
