/-
  What the statement stands on.
-/
import Derived.Test.YtcfgefbkeeedgaaGreatDoorM18
import Derived.Test.YtcfgefbkeeedgaaGreatDoorM28
namespace Go.Proofs.YtcfgefbkeeedgaaGreatDoor
open Go.RowKit
theorem IsIText.uniq {l m : List Nat} {x : Int} (h : IsIText l x) (g : IsIText m x) : l = m := by
  rcases h with ⟨h0, t, rfl, h1⟩ | ⟨h0, h1⟩ <;> rcases g with ⟨g0, u, rfl, g1⟩ | ⟨g0, g1⟩
  · rw [h1.uniq g1]
  · omega
  · omega
  · exact h1.uniq g1
theorem itext_pos {l : List Nat} {x : Int} (h : 0 ≤ x) (ht : IsText l x.natAbs) : IsIText l x := .inr ⟨h, ht⟩
theorem itext_neg {l t : List Nat} {x : Int} (h : x < 0) (hl : l = 45 :: t) (ht : IsText t x.natAbs) : IsIText l x := .inl ⟨h, t, hl, ht⟩
end Go.Proofs.YtcfgefbkeeedgaaGreatDoor
