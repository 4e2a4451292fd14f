/-
  What the statement stands on.
-/
import Derived.Test.YtcdmojefheipoaaGreatDoorM15
namespace Go.Proofs.YtcdmojefheipoaaGreatDoor
theorem NB_succ (a : Nat) : NB (a + 1) = 4294967296 * NB a := by rw [NB_add, NB_one, Nat.mul_comm]
theorem nb_add {m n a : Nat} (h : m < NB a) (k : n < NB a) : m + n < NB (a + 1) := by
  have := NB_pos a
  rw [NB_succ]
  omega
theorem nbz_add {x y : Int} {a : Nat} (h : x.natAbs < NB a) (k : y.natAbs < NB a) : (x + y).natAbs < NB (a + 1) := by
  have := nb_add h k
  omega
end Go.Proofs.YtcdmojefheipoaaGreatDoor
