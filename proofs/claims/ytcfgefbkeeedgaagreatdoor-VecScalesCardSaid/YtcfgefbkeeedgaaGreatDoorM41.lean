/-
  What the statement stands on.
-/
import Derived.Test.YtcfgefbkeeedgaaGreatDoorM38
import Derived.Test.YtcfgefbkeeedgaaGreatDoorM40
namespace Go.Proofs.YtcfgefbkeeedgaaGreatDoor
open Go.RowKit
theorem dot_scale (y : Rat) : ∀ (xs zs : List Rat), dotL (xs.map (· * y)) zs = dotL xs zs * y
  | [], zs => by simp [dotL, sumL, Rat.zero_mul]
  | x :: xs, [] => by simp [dotL, sumL, Rat.zero_mul]
  | x :: xs, z :: zs => by
    rw [List.map_cons, dot_cons, dot_cons, dot_scale y xs zs]
    grind
theorem map_one (xs : List Rat) : xs.map (· * 1) = xs := by
  induction xs with
  | nil => rfl
  | cons x xs ih => rw [List.map_cons, ih, Rat.mul_one]
theorem map_zero (xs : List Rat) : xs.map (· * 0) = List.replicate xs.length 0 := by
  induction xs with
  | nil => rfl
  | cons x xs ih => rw [List.map_cons, ih, Rat.mul_zero]; rfl
section
variable {w W : World} {L : List (Nat × TypeId × List Value)} {g : Nat} {t : TypeId} {v0 v1 v2 : Value} {xs0 xs1 xs2 : List RawQ}
theorem raws_lit (S : St w W L) (i : Nat) {b : Bool} {p q : Option Addr} {l j K J : Nat} {ds es : List Nat} (hi : L[i]? = some (g, t, [.bool b, .slice p l K, .slice q j J])) (hl : ds.length = l) (hj : es.length = j) (h : RawQ.In W ⟨b, p, q, K, J, ds, es⟩) : Raws W (.slice (some ⟨g, 0, none⟩) 1 1) [⟨b, p, q, K, J, ds, es⟩] := by
  subst hl hj
  refine ⟨_, 1, rfl, fun e => (by cases e), Nat.le_refl _, fun k x hx => ?_⟩
  match k, hx with
  | 0, hx =>
    cases hx
    exact ⟨g, 0, rfl, S.lt i hi, S.c i 0 hi rfl, S.c i 1 hi rfl, S.c i 2 hi rfl, h⟩
end
end Go.Proofs.YtcfgefbkeeedgaaGreatDoor
