/-
  What the statement stands on.
-/
import Derived.Test.YtcfgefbkeeedgaaGreatDoorM23
namespace Go.Proofs.YtcfgefbkeeedgaaGreatDoor
open Go.RowKit
theorem rb_dot {xs ys : List Rat} {n k1 k2 : Nat} (hla : xs.length = n) (hlb : ys.length = n) (hx : ∀ q, q ∈ xs → RB q k1) (hy : ∀ q, q ∈ ys → RB q k2) : RB (dotL xs ys) ((k1 + k2 + 1) * n + 1) := by
  have hz : (List.zipWith (· * ·) xs ys).length = n := by simp [hla, hlb]
  have hZ : ∀ j, j < n → RB ((List.zipWith (· * ·) xs ys).getD j 0) (k1 + k2) := by
    intro j hj
    have h1 : xs[j]? = some (xs[j]'(by omega)) := List.getElem?_eq_getElem _
    have h2 : ys[j]? = some (ys[j]'(by omega)) := List.getElem?_eq_getElem _
    have : (List.zipWith (· * ·) xs ys).getD j 0 = xs[j]'(by omega) * ys[j]'(by omega) := by
      simp [List.getD, List.getElem?_zipWith, h1, h2]
    rw [this]
    exact rb_mul (hx _ (List.getElem_mem _)) (hy _ (List.getElem_mem _))
  have := rb_sum hZ n (Nat.le_refl _)
  rw [sumR_take _ n (by omega), List.take_of_length_le (by omega)] at this
  exact this
end Go.Proofs.YtcfgefbkeeedgaaGreatDoor
