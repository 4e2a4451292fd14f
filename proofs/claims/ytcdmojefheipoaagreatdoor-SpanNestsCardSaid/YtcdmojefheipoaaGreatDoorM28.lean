/-
  What the statement stands on.
-/
import Derived.Test.YtcdmojefheipoaaGreatDoorM27
namespace Go.Proofs.YtcdmojefheipoaaGreatDoor
open Go.RowKit
theorem min2_le (x y : Rat) : min2 x y ≤ x ∧ min2 x y ≤ y := by unfold min2; split <;> constructor <;> grind
theorem min2_or (x y : Rat) : min2 x y = x ∨ min2 x y = y := by unfold min2; split <;> simp
theorem max2_or (x y : Rat) : max2 x y = x ∨ max2 x y = y := by unfold max2; split <;> simp
theorem loM_le (x y u v : Rat) : loM x y u v ≤ x * u ∧ loM x y u v ≤ x * v ∧ loM x y u v ≤ y * u ∧ loM x y u v ≤ y * v := by
  unfold loM
  have h1 := min2_le (x * u) (x * v)
  have h2 := min2_le (min2 (x * u) (x * v)) (y * u)
  have h3 := min2_le (min2 (min2 (x * u) (x * v)) (y * u)) (y * v)
  refine ⟨?_, ?_, ?_, ?_⟩ <;> grind
theorem hiM_ge (x y u v : Rat) : x * u ≤ hiM x y u v ∧ x * v ≤ hiM x y u v ∧ y * u ≤ hiM x y u v ∧ y * v ≤ hiM x y u v := by
  unfold hiM
  have h1 := max2_ge (x * u) (x * v)
  have h2 := max2_ge (max2 (x * u) (x * v)) (y * u)
  have h3 := max2_ge (max2 (max2 (x * u) (x * v)) (y * u)) (y * v)
  refine ⟨?_, ?_, ?_, ?_⟩ <;> grind
theorem loM_or (x y u v : Rat) : loM x y u v = x * u ∨ loM x y u v = x * v ∨ loM x y u v = y * u ∨ loM x y u v = y * v := by
  unfold loM
  have h1 := min2_or (x * u) (x * v)
  have h2 := min2_or (min2 (x * u) (x * v)) (y * u)
  have h3 := min2_or (min2 (min2 (x * u) (x * v)) (y * u)) (y * v)
  rcases h3 with h3 | h3 <;> rcases h2 with h2 | h2 <;> rcases h1 with h1 | h1 <;> grind
theorem hiM_or (x y u v : Rat) : hiM x y u v = x * u ∨ hiM x y u v = x * v ∨ hiM x y u v = y * u ∨ hiM x y u v = y * v := by
  unfold hiM
  have h1 := max2_or (x * u) (x * v)
  have h2 := max2_or (max2 (x * u) (x * v)) (y * u)
  have h3 := max2_or (max2 (max2 (x * u) (x * v)) (y * u)) (y * v)
  rcases h3 with h3 | h3 <;> rcases h2 with h2 | h2 <;> rcases h1 with h1 | h1 <;> grind
section
variable {w W : World} {L : List (Nat × TypeId × List Value)} {b : Nat} {t : TypeId} {b1 b2 b3 b4 b5 b6 : Bool} {p1 p2 p3 p4 p5 p6 : Option Addr} {l1 l2 l3 l4 l5 l6 K1 K2 K3 K4 K5 K6 : Nat} {e1 e2 e3 e4 e5 e6 : Int} {ds1 ds2 ds3 ds4 ds5 ds6 : List Nat}
theorem spraw2 (S : St w W L) (i : Nat) (hi : L[i]? = some (b, t, [.bool b1, .slice p1 l1 K1, .int .i64 e1, .bool b2, .slice p2 l2 K2, .int .i64 e2, .bool b3, .slice p3 l3 K3, .int .i64 e3, .bool b4, .slice p4 l4 K4, .int .i64 e4])) (h1 : ds1.length = l1) (h2 : ds2.length = l2) (h3 : ds3.length = l3) (h4 : ds4.length = l4)
    (a1 : At .u32 W p1 K1 ds1) (d1 : Dig 4294967296 ds1) (a2 : At .u32 W p2 K2 ds2) (d2 : Dig 4294967296 ds2) (a3 : At .u32 W p3 K3 ds3) (d3 : Dig 4294967296 ds3) (a4 : At .u32 W p4 K4 ds4) (d4 : Dig 4294967296 ds4) :
    ∀ j, j < 2 → SpAt W b j ([SpR.mk b1 b2 p1 p2 ds1 ds2 K1 K2 e1 e2, SpR.mk b3 b4 p3 p4 ds3 ds4 K3 K4 e3 e4].getD j (SpR.mk b1 b2 p1 p2 ds1 ds2 K1 K2 e1 e2)) := by
  subst h1 h2 h3 h4
  intro j hj
  match j, hj with
  | 0, _ => exact ⟨⟨S.c i 0 hi rfl, S.c i 1 hi rfl, S.c i 2 hi rfl, S.c i 3 hi rfl, S.c i 4 hi rfl, S.c i 5 hi rfl⟩, a1, d1, a2, d2⟩
  | 1, _ => exact ⟨⟨S.c i 6 hi rfl, S.c i 7 hi rfl, S.c i 8 hi rfl, S.c i 9 hi rfl, S.c i 10 hi rfl, S.c i 11 hi rfl⟩, a3, d3, a4, d4⟩
end
end Go.Proofs.YtcdmojefheipoaaGreatDoor
