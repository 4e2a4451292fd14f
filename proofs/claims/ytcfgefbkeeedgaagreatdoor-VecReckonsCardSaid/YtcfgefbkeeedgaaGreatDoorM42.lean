/-
  What the statement stands on.
-/
import Derived.Test.YtcfgefbkeeedgaaGreatDoorM36
import Derived.Test.YtcfgefbkeeedgaaGreatDoorM39
namespace Go.Proofs.YtcfgefbkeeedgaaGreatDoor
open Go.RowKit
theorem dot_add : ∀ (xs ys zs : List Rat), xs.length = ys.length → dotL (List.zipWith (· + ·) xs ys) zs = dotL xs zs + dotL ys zs
  | [], [], zs, _ => by simp [dotL, sumL]; grind
  | x :: xs, y :: ys, [], _ => by simp [dotL, sumL]; grind
  | x :: xs, y :: ys, z :: zs, h => by
    rw [List.zipWith_cons_cons, dot_cons, dot_cons, dot_cons, dot_add xs ys zs (by simpa using h)]
    grind
theorem dot_comm : ∀ (xs ys : List Rat), dotL xs ys = dotL ys xs
  | [], [] => rfl
  | [], _ :: _ => rfl
  | _ :: _, [] => rfl
  | x :: xs, y :: ys => by rw [dot_cons, dot_cons, dot_comm xs ys, Rat.mul_comm]
theorem add_sub : ∀ (xs ys : List Rat), xs.length = ys.length → List.zipWith (· - ·) (List.zipWith (· + ·) xs ys) ys = xs
  | [], [], _ => rfl
  | x :: xs, y :: ys, h => by
    rw [List.zipWith_cons_cons, List.zipWith_cons_cons, add_sub xs ys (by simpa using h)]
    have : x + y - y = x := by grind
    rw [this]
section
variable {w W : World} {L : List (Nat × TypeId × List Value)} {g : Nat} {t : TypeId} {v0 v1 v2 : Value} {xs0 xs1 xs2 : List RawQ}
theorem rawll3 (S : St w W L) (i : Nat) (hi : L[i]? = some (g, t, [v0, v1, v2])) (h0 : Raws W v0 xs0) (h1 : Raws W v1 xs1) (h2 : Raws W v2 xs2) : RawLL W g [(v0, xs0), (v1, xs1), (v2, xs2)] :=
  ⟨S.lt i hi, fun j v xs h => by
    match j, h with
    | 0, h => cases h; exact ⟨S.c i 0 hi rfl, h0⟩
    | 1, h => cases h; exact ⟨S.c i 1 hi rfl, h1⟩
    | 2, h => cases h; exact ⟨S.c i 2 hi rfl, h2⟩⟩
end
end Go.Proofs.YtcfgefbkeeedgaaGreatDoor
