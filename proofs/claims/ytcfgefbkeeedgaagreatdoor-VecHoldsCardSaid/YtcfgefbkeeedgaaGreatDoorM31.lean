/-
  What the statement stands on.
-/
import Derived.Test.YtcfgefbkeeedgaaGreatDoorM24
import Derived.Test.YtcfgefbkeeedgaaGreatDoorM30
namespace Go.Proofs.YtcfgefbkeeedgaaGreatDoor
open Go.RowKit
theorem rndZ_dyx (z f : Int) (n : Nat) (up : Bool) : DyX (rndZ z f n up) := by
  obtain ⟨m, e, hc, he⟩ := canon_ex z f
  rw [← rnd_canon hc he]; exact rnd_dyx _ _ _ _
theorem nearV_dyx (a : Int) (d t n : Nat) (up : Bool) : DyX (nearV a d t n up) := by
  unfold nearV; exact rndZ_dyx _ _ _ _
theorem nearQ_in (q : Rat) {n : Nat} (h2 : 2 ≤ n) : (nearQ n q).1 ≤ q ∧ q ≤ (nearQ n q).2 ∧ DyX (nearQ n q).1 ∧ DyX (nearQ n q).2 := by
  unfold nearQ
  by_cases h0 : q = 0
  · rw [if_pos h0]
    subst h0
    exact ⟨Rat.le_refl, Rat.le_refl, dyx_zero, dyx_zero⟩
  · rw [if_neg h0]
    obtain ⟨f1, f2, _, _⟩ := near_all h0 (tailN_is q.den_nz) rfl h2 _ _ rfl rfl
    exact ⟨f1, f2, nearV_dyx _ _ _ _ _, nearV_dyx _ _ _ _ _⟩
end Go.Proofs.YtcfgefbkeeedgaaGreatDoor
