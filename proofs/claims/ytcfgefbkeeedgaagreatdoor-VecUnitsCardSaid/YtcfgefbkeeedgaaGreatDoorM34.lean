/-
  What the statement stands on.
-/
import Derived.Test.YtcfgefbkeeedgaaGreatDoorM33
namespace Go.Proofs.YtcfgefbkeeedgaaGreatDoor
open Go.RowKit
section
variable {w W : World} {L : List (Nat × TypeId × List Value)} {g : Nat} {t : TypeId} {v0 v1 v2 : Value} {xs0 xs1 xs2 : List RawQ}
theorem rawll1 (S : St w W L) (i : Nat) (hi : L[i]? = some (g, t, [v0])) (h0 : Raws W v0 xs0) : RawLL W g [(v0, xs0)] :=
  ⟨S.lt i hi, fun j v xs h => by
    match j, h with
    | 0, h => cases h; exact ⟨S.c i 0 hi rfl, h0⟩⟩
end
end Go.Proofs.YtcfgefbkeeedgaaGreatDoor
