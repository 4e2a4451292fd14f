/-
  What the statement stands on.
-/
import Derived.Test.YtcdmojefheipoaaGreatDoorM25
import Derived.Test.YtcdmojefheipoaaGreatDoorM28
namespace Go.Proofs.YtcdmojefheipoaaGreatDoor
open Go.RowKit
theorem DyF.dyx {m e : Int} {x : Rat} {L H : Nat} (h : DyF m e x L H) : DyX x := ⟨m, e, h.1, h.2.2⟩
theorem rq_dyx {x : Rat} (h : DyX x) (n : Nat) (up : Bool) : DyX (rq x n up) := by
  obtain ⟨m, e, hc, hx⟩ := h
  rw [← rq_is n up hc hx]; exact rnd_dyx _ _ _ _
theorem lin_between {x y u v s t : Rat} (h1 : x ≤ s) (h2 : s ≤ y) : (x * t ≤ s * t ∧ s * t ≤ y * t) ∨ (y * t ≤ s * t ∧ s * t ≤ x * t) := by
  rcases Rat.le_total (a := 0) (b := t) with h | h
  · left
    exact ⟨Rat.mul_le_mul_of_nonneg_right h1 h, Rat.mul_le_mul_of_nonneg_right h2 h⟩
  · right
    have h3 : 0 ≤ -t := by grind
    have a1 := Rat.mul_le_mul_of_nonneg_right h1 h3
    have a2 := Rat.mul_le_mul_of_nonneg_right h2 h3
    constructor <;> grind
theorem mul_between {x y u v s t : Rat} (h1 : x ≤ s) (h2 : s ≤ y) (h3 : u ≤ t) (h4 : t ≤ v) : loM x y u v ≤ s * t ∧ s * t ≤ hiM x y u v := by
  have a1 := loM_le x y u v
  have a2 := hiM_ge x y u v
  have b1 := lin_between (u := u) (v := v) (t := t) h1 h2
  have b2 := lin_between (u := u) (v := v) (t := x) h3 h4
  have b3 := lin_between (u := u) (v := v) (t := y) h3 h4
  rw [Rat.mul_comm u x, Rat.mul_comm t x, Rat.mul_comm v x] at b2
  rw [Rat.mul_comm u y, Rat.mul_comm t y, Rat.mul_comm v y] at b3
  generalize loM x y u v = lo at *
  generalize hiM x y u v = hi at *
  generalize x * u = p1 at *
  generalize x * v = p2 at *
  generalize y * u = p3 at *
  generalize y * v = p4 at *
  generalize s * t = p5 at *
  generalize x * t = p6 at *
  generalize y * t = p7 at *
  obtain ⟨a1, a3, a4, a5⟩ := a1
  obtain ⟨a2, a6, a7, a8⟩ := a2
  rcases b1 with ⟨b1, c1⟩ | ⟨b1, c1⟩ <;> rcases b2 with ⟨b2, c2⟩ | ⟨b2, c2⟩ <;> rcases b3 with ⟨b3, c3⟩ | ⟨b3, c3⟩ <;> constructor <;> grind
theorem loM_dyx {x y u v : Rat} (h1 : DyX x) (h2 : DyX y) (h3 : DyX u) (h4 : DyX v) : DyX (loM x y u v) := by
  rcases loM_or x y u v with h | h | h | h <;> rw [h]
  · exact h1.mul h3
  · exact h1.mul h4
  · exact h2.mul h3
  · exact h2.mul h4
theorem hiM_dyx {x y u v : Rat} (h1 : DyX x) (h2 : DyX y) (h3 : DyX u) (h4 : DyX v) : DyX (hiM x y u v) := by
  rcases hiM_or x y u v with h | h | h | h <;> rw [h]
  · exact h1.mul h3
  · exact h1.mul h4
  · exact h2.mul h3
  · exact h2.mul h4
end Go.Proofs.YtcdmojefheipoaaGreatDoor
