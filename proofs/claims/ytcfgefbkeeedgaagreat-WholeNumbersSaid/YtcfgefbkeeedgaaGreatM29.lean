/-
  What the statement stands on.
-/
import Derived.Test.YtcfgefbkeeedgaaGreatM18
import Derived.Test.YtcfgefbkeeedgaaGreatM28
namespace Go.Proofs.YtcfgefbkeeedgaaGreat
open Go.RowKit
theorem IsIText.uniq {l m : List Nat} {x : Int} (h : IsIText l x) (g : IsIText m x) : l = m := by
  rcases h with ⟨h0, t, rfl, h1⟩ | ⟨h0, h1⟩ <;> rcases g with ⟨g0, u, rfl, g1⟩ | ⟨g0, g1⟩
  · rw [h1.uniq g1]
  · omega
  · omega
  · exact h1.uniq g1
end Go.Proofs.YtcfgefbkeeedgaaGreat
