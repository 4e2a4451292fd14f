/-
  What the statement stands on.
-/
import Derived.Test.YtcdmojefheipoaaGreatDoorM18
import Derived.Test.YtcdmojefheipoaaGreatDoorM19
namespace Go.Proofs.YtcdmojefheipoaaGreatDoor
open Go.RowKit
set_option maxRecDepth 100000 in
set_option maxHeartbeats 1000000 in
theorem rzero_any (w : World) : Calls Tryz.prog 73 #[] w fun e w' => (∃ u, e = .returned u ∧ IsRat w' u 0) ∧ Below w.heap.size w w' := by
  have HM := Lib.hid (lt_maxN (m := 0) (by decide))
  have S := (St.start w).alloc 34 [.bool false, .slice none 0 0, .slice none 0 0] (w.heap.size)
  try simp only [List.nil_append] at S
  have c0_ := S.c3 0 rfl
  go_enter Tryz.func73, Tryz.ntmps73
  go_wp2_with fail; clear c0_
  refine S.cl (rwhole_any (IsInt.zero _) HM.out 0 rfl) ?_; clear S; rintro e w1 ⟨_, rfl, b, p, l, K, pd, ld, Kd, rfl, hb, nn, nd⟩ S H
  clear H; have c0_ := S.c3 0 rfl
  obtain ⟨f0_0, f0_1, f0_2⟩ := S.f3 0 rfl
  have HP := S.putq 0 (.bool b) (.slice p l K) (.slice pd ld Kd) rfl rfl; have H := HP.2; replace S := HP.1; clear HP
  replace nn := nn.hold H; replace nd := nd.hold H
  clear H; go_wp2_with fail; obtain ⟨d0_0, d0_1, d0_2⟩ := S.c3 0 rfl
  exact bodyPost_ret (v := .agg #[.bool b, .slice p l K, .slice pd ld Kd]) (by simp [results, Tryz.f73, go_sem, d0_0, d0_1, d0_2]) rfl (⟨⟨_, rfl, b, p, l, K, pd, ld, Kd, rfl, hb, nn, nd⟩, S.below⟩)
end Go.Proofs.YtcdmojefheipoaaGreatDoor
