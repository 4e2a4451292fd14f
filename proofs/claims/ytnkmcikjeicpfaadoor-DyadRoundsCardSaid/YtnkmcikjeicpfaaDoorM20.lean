/-
  dyad.aligned. dyad.Compare, Less, Max, Min. dyad.Add, Sub, Mul. dyad.Ratio, Cmp. dyad.Of, Check. ratio.Of. girdlelaw05.is; dyad.Check of nothing with a power. dyad.Round. dyad.divided. Near a ratio: what is divided and rounded, as plain numbers. Noughts at the end are so many alone.
-/
import Derived.Test.YtnkmcikjeicpfaaDoorM14
import Derived.Test.YtnkmcikjeicpfaaDoorM19

namespace Go.Proofs.YtnkmcikjeicpfaaDoor
open Go.RowKit

theorem cmp_int' (a b c : Int) (h : cmpI a b = c) (w : World) : Calls Tryd.prog 38 #[.int .i64 a, .int .i64 b] w fun e w' => e = .returned (.int .i64 c) ∧ Below w.heap.size w w' :=
  (cmp_int a b w).mono fun _ _ ⟨h1, h2⟩ => ⟨by rw [h1, h], h2 ▸ Below.refl _ w⟩
theorem or_nil {g : Nat} {w W : World} {L : List (Nat × TypeId × List Value)} (S : St w W L) (i : Nat) {t : TypeId} (hi : L[i]? = some (g, t, [.int .i64 0, .int .i64 0])) :
    Calls Tryd.prog 68 #[.slice (some ⟨g, 0, none⟩) 2 2] W fun e w' => e = .returned (.int .i64 0) ∧ Below W.heap.size W w' := or_two S i hi

set_option maxRecDepth 100000 in
set_option maxHeartbeats 4000000 in
theorem dalign_lt {b1 b2 : Bool} {p1 p2 : Option Addr} {l1 l2 K1 K2 : Nat} {m1 m2 e1 e2 : Int} {w : World} (h1 : Hid (negB m1 = b1)) (n1 : IsNat w (.slice p1 l1 K1) m1.natAbs) (h2 : Hid (negB m2 = b2)) (n2 : IsNat w (.slice p2 l2 K2) m2.natAbs) (hm1 : m1.natAbs < maxN) (hm2 : m2.natAbs < maxN)
    (he1 : -1000000 ≤ e1 ∧ e1 ≤ 1000000) (he2 : -1000000 ≤ e2 ∧ e2 ≤ 1000000) (hlt : e2 < e1) (s : Nat) (hs : e1 - e2 = s) (hfit : m1.natAbs * 2 ^ s < maxN) (X Y : Int) (hX : m1 * 2 ^ s = X) (hY : m2 = Y) :
    Calls Tryd.prog 40 #[.agg #[.bool b1, .slice p1 l1 K1, .int .i64 e1], .agg #[.bool b2, .slice p2 l2 K2, .int .i64 e2]] w fun e w' => (∃ u v, e = .returned (.tuple #[u, v, .int .i64 e2, .int .i64 0]) ∧ IsInt w' u X ∧ IsInt w' v Y) ∧ Below w.heap.size w w' := by
  have hmin : min e1 e2 = e2 := by omega
  have hwr : IntKind.i64.wrap (e1 - e2) = (s : Int) := by rw [wrap_int (by omega) (by omega), hs]
  have hw0 : IntKind.i64.wrap (e2 - e2) = 0 := by rw [Int.sub_self]; rfl
  have HD := Lib.hid (And.intro hm1 (And.intro hm2 (And.intro (show s ≤ 9223372036854775807 by omega) (And.intro hfit (And.intro hX hY)))))
  clear hm1 hm2 he1 he2 hs hfit hX hY hlt
  have S := ((((St.start w).alloc 27 [.bool b1, .slice p1 l1 K1, .int .i64 e1] (w.heap.size)).alloc 27 [.bool b2, .slice p2 l2 K2, .int .i64 e2] (w.heap.size + 1)).alloc 25 [.bool false, .slice none 0 0] (w.heap.size + 1 + 1)).alloc 25 [.bool false, .slice none 0 0] (w.heap.size + 1 + 1 + 1)
  simp only [List.cons_append, List.nil_append] at S
  replace n1 := n1.hold S.hold
  replace n2 := n2.hold S.hold
  have c0_0 := S.c 0 0 rfl rfl
  have c0_1 := S.c 0 1 rfl rfl
  have c0_2 := S.c 0 2 rfl rfl
  have c1_0 := S.c 1 0 rfl rfl
  have c1_1 := S.c 1 1 rfl rfl
  have c1_2 := S.c 1 2 rfl rfl
  have c2_0 := S.c 2 0 rfl rfl
  have c2_1 := S.c 2 1 rfl rfl
  have c3_0 := S.c 3 0 rfl rfl
  have c3_1 := S.c 3 1 rfl rfl
  go_enter Tryd.func40, Tryd.ntmps40
  go_wp2_with fail
  clear c0_0 c0_1 c0_2 c1_0 c1_1 c1_2 c2_0 c2_1 c3_0 c3_1
  refine (S.call (wleft_any ⟨_, _, _, by rw [h1.out], n1⟩ HD.out.1 s HD.out.2.2.1 HD.out.2.2.2.1 X HD.out.2.2.2.2.1)).mono ?_
  clear S
  rintro e w1 ⟨⟨_, rfl, pa, la, Ka, rfl, na⟩, S, H⟩
  replace n1 := n1.hold H
  replace n2 := n2.hold H
  clear H
  have c0_0 := S.c 0 0 rfl rfl
  have c0_1 := S.c 0 1 rfl rfl
  have c0_2 := S.c 0 2 rfl rfl
  have c1_0 := S.c 1 0 rfl rfl
  have c1_1 := S.c 1 1 rfl rfl
  have c1_2 := S.c 1 2 rfl rfl
  have c2_0 := S.c 2 0 rfl rfl
  have c2_1 := S.c 2 1 rfl rfl
  have c3_0 := S.c 3 0 rfl rfl
  have c3_1 := S.c 3 1 rfl rfl
  have H := S.hnew 25 [.bool (negB X), .slice pa la Ka]
  replace S := S.alloc 25 [.bool (negB X), .slice pa la Ka] (w1.heap.size)
  simp only [List.cons_append, List.nil_append] at S
  replace n1 := n1.hold H
  replace n2 := n2.hold H
  replace na := na.hold H
  clear H
  clear c0_0 c0_1 c0_2 c1_0 c1_1 c1_2 c2_0 c2_1 c3_0 c3_1
  have c0_0 := S.c 0 0 rfl rfl
  have c0_1 := S.c 0 1 rfl rfl
  have c0_2 := S.c 0 2 rfl rfl
  have c1_0 := S.c 1 0 rfl rfl
  have c1_1 := S.c 1 1 rfl rfl
  have c1_2 := S.c 1 2 rfl rfl
  have c2_0 := S.c 2 0 rfl rfl
  have c2_1 := S.c 2 1 rfl rfl
  have c3_0 := S.c 3 0 rfl rfl
  have c3_1 := S.c 3 1 rfl rfl
  have c4_0 := S.c 4 0 rfl rfl
  have c4_1 := S.c 4 1 rfl rfl
  go_wp2_with fail
  clear c0_0 c0_1 c0_2 c1_0 c1_1 c1_2 c2_0 c2_1 c3_0 c3_1 c4_0 c4_1
  refine (S.call (wleft_any ⟨_, _, _, by rw [h2.out], n2⟩ HD.out.2.1 0 (by decide) (by rw [Nat.pow_zero, Nat.mul_one]; exact HD.out.2.1) Y (by rw [← HD.out.2.2.2.2.2]; simp))).mono ?_
  clear S
  rintro e w2 ⟨⟨_, rfl, pb, lb, Kb, rfl, nb⟩, S, H⟩
  replace n1 := n1.hold H
  replace n2 := n2.hold H
  replace na := na.hold H
  clear H
  have c0_0 := S.c 0 0 rfl rfl
  have c0_1 := S.c 0 1 rfl rfl
  have c0_2 := S.c 0 2 rfl rfl
  have c1_0 := S.c 1 0 rfl rfl
  have c1_1 := S.c 1 1 rfl rfl
  have c1_2 := S.c 1 2 rfl rfl
  have c2_0 := S.c 2 0 rfl rfl
  have c2_1 := S.c 2 1 rfl rfl
  have c3_0 := S.c 3 0 rfl rfl
  have c3_1 := S.c 3 1 rfl rfl
  have c4_0 := S.c 4 0 rfl rfl
  have c4_1 := S.c 4 1 rfl rfl
  have H := S.hnew 25 [.bool (negB Y), .slice pb lb Kb]
  replace S := S.alloc 25 [.bool (negB Y), .slice pb lb Kb] (w2.heap.size)
  simp only [List.cons_append, List.nil_append] at S
  replace n1 := n1.hold H
  replace n2 := n2.hold H
  replace na := na.hold H
  replace nb := nb.hold H
  clear H
  clear c0_0 c0_1 c0_2 c1_0 c1_1 c1_2 c2_0 c2_1 c3_0 c3_1 c4_0 c4_1
  have c0_0 := S.c 0 0 rfl rfl
  have c0_1 := S.c 0 1 rfl rfl
  have c0_2 := S.c 0 2 rfl rfl
  have c1_0 := S.c 1 0 rfl rfl
  have c1_1 := S.c 1 1 rfl rfl
  have c1_2 := S.c 1 2 rfl rfl
  have c2_0 := S.c 2 0 rfl rfl
  have c2_1 := S.c 2 1 rfl rfl
  have c3_0 := S.c 3 0 rfl rfl
  have c3_1 := S.c 3 1 rfl rfl
  have c4_0 := S.c 4 0 rfl rfl
  have c4_1 := S.c 4 1 rfl rfl
  have c5_0 := S.c 5 0 rfl rfl
  have c5_1 := S.c 5 1 rfl rfl
  go_upto_region 4 with fail
  clear c0_0 c0_1 c0_2 c1_0 c1_1 c1_2 c2_0 c2_1 c3_0 c3_1 c4_0 c4_1 c5_0 c5_1
  generalize (w2.alloc (.cells #[.bool (negB Y), .slice pb lb Kb] 25)) = w3 at S n1 n2 na nb ⊢
  have HH := Hold.drew w3
  replace n1 := n1.hold HH
  replace n2 := n2.hold HH
  replace na := na.hold HH
  replace nb := nb.hold HH
  replace S := S.drew
  refine wp_region_held_drew (S := fun W => W.cell? ⟨w1.heap.size, 0, none⟩ = some (.bool (negB X)) ∧ W.cell? ⟨w1.heap.size, 1, none⟩ = some (.slice pa la Ka) ∧ W.cell? ⟨w2.heap.size, 0, none⟩ = some (.bool (negB Y)) ∧ W.cell? ⟨w2.heap.size, 1, none⟩ = some (.slice pb lb Kb)) (by kernel_rfl) ⟨S.c 4 0 rfl rfl, S.c 4 1 rfl rfl, S.c 5 0 rfl rfl, S.c 5 1 rfl rfl⟩ (fun hS => ?_)
  generalize w3.drew = w4 at S n1 n2 na nb HH hS ⊢
  refine wpAnyH_take (i := 0) (v := ?_) ((List.getElem?_toArray ..).trans rfl) (by kernel_rfl) (by kernel_rfl) (by kernel_rfl) (fun _ _ _ h => h) (Or.inl ⟨rfl, fun W hW => ?_⟩) hS ?_
  rotate_left
  · obtain ⟨hW0, hW1, hW2, hW3⟩ := hW; go_simp; try first | rfl | (rw [if_neg (by first | omega | (simp only [ByteArray.size_append]; first | omega | (have h1 : (ByteArray.mk #[47]).size = 1 := rfl; omega)))]; try rfl) | kernel_rfl
  try simp only [Act.put, List.setIfInBounds_toArray, List.set_cons_zero, List.set_cons_succ]
  refine wpAnyH_take (i := 1) (v := ?_) ((List.getElem?_toArray ..).trans rfl) (by kernel_rfl) (by kernel_rfl) (by kernel_rfl) (fun _ _ _ h => h) (Or.inl ⟨rfl, fun W hW => ?_⟩) hS ?_
  rotate_left
  · obtain ⟨hW0, hW1, hW2, hW3⟩ := hW; go_simp; try first | rfl | (rw [if_neg (by first | omega | (simp only [ByteArray.size_append]; first | omega | (have h1 : (ByteArray.mk #[47]).size = 1 := rfl; omega)))]; try rfl) | kernel_rfl
  try simp only [Act.put, List.setIfInBounds_toArray, List.set_cons_zero, List.set_cons_succ]
  refine wpAnyH_take (i := 2) (v := ?_) ((List.getElem?_toArray ..).trans rfl) (by kernel_rfl) (by kernel_rfl) (by kernel_rfl) (fun _ _ _ h => h) (Or.inl ⟨rfl, fun W hW => ?_⟩) hS ?_
  rotate_left
  · obtain ⟨hW0, hW1, hW2, hW3⟩ := hW; go_simp; try first | rfl | (rw [if_neg (by first | omega | (simp only [ByteArray.size_append]; first | omega | (have h1 : (ByteArray.mk #[47]).size = 1 := rfl; omega)))]; try rfl) | kernel_rfl
  try simp only [Act.put, List.setIfInBounds_toArray, List.set_cons_zero, List.set_cons_succ]
  refine wpAnyH_take (i := 3) (v := ?_) ((List.getElem?_toArray ..).trans rfl) (by kernel_rfl) (by kernel_rfl) (by kernel_rfl) (fun _ _ _ h => h) (Or.inl ⟨rfl, fun W hW => ?_⟩) hS ?_
  rotate_left
  · obtain ⟨hW0, hW1, hW2, hW3⟩ := hW; go_simp; try first | rfl | (rw [if_neg (by first | omega | (simp only [ByteArray.size_append]; first | omega | (have h1 : (ByteArray.mk #[47]).size = 1 := rfl; omega)))]; try rfl) | kernel_rfl
  try simp only [Act.put, List.setIfInBounds_toArray, List.set_cons_zero, List.set_cons_succ]
  refine wpAnyH_take (i := 4) (v := ?_) ((List.getElem?_toArray ..).trans rfl) (by kernel_rfl) (by kernel_rfl) (by kernel_rfl) (fun _ _ _ h => h) (Or.inl ⟨rfl, fun W hW => ?_⟩) hS ?_
  rotate_left
  · obtain ⟨hW0, hW1, hW2, hW3⟩ := hW; go_simp; try first | rfl | (rw [if_neg (by first | omega | (simp only [ByteArray.size_append]; first | omega | (have h1 : (ByteArray.mk #[47]).size = 1 := rfl; omega)))]; try rfl) | kernel_rfl
  try simp only [Act.put, List.setIfInBounds_toArray, List.set_cons_zero, List.set_cons_succ]
  refine wpAnyH_ready (rs := [5]) (by kernel_rfl) (by simp) (AllReadyH.cons ((List.getElem?_toArray ..).trans rfl) (fun KK hKK => ?_) AllReadyH.nil)
  go_simp
  clear hS
  have H := S.hnew 30 [.int .i64 0, .int .i64 0]
  replace S := S.alloc 30 [.int .i64 0, .int .i64 0] (w4.heap.size)
  simp only [List.cons_append, List.nil_append] at S
  replace n1 := n1.hold H
  replace n2 := n2.hold H
  replace na := na.hold H
  replace nb := nb.hold H
  replace HH := HH.trans H
  clear H
  refine hKK.out _ _ ⟨S.c 4 0 rfl rfl, S.c 4 1 rfl rfl, S.c 5 0 rfl rfl, S.c 5 1 rfl rfl⟩ (fun hS => ?_)
  generalize (w4.alloc (.cells #[.int .i64 0, .int .i64 0] 30)) = w5 at S n1 n2 na nb HH hS ⊢
  clear hKK KK
  try simp only [Act.put, List.setIfInBounds_toArray, List.set_cons_zero, List.set_cons_succ]
  refine wpAnyH_ready (rs := [6]) (by kernel_rfl) (by simp) (AllReadyH.cons ((List.getElem?_toArray ..).trans rfl) (fun KK hKK => ?_) AllReadyH.nil)
  go_simp
  clear hS
  refine (S.call (or_two S 6 rfl)).mono ?_
  clear S
  rintro e w6 ⟨rfl, S, H⟩
  replace n1 := n1.hold H
  replace n2 := n2.hold H
  replace na := na.hold H
  replace nb := nb.hold H
  replace HH := HH.trans H
  clear H
  go_wp2_with fail
  refine hKK.out _ _ ⟨S.c 4 0 rfl rfl, S.c 4 1 rfl rfl, S.c 5 0 rfl rfl, S.c 5 1 rfl rfl⟩ (fun hS => ?_)
  clear hKK KK
  try simp only [Act.put, List.setIfInBounds_toArray, List.set_cons_zero, List.set_cons_succ]
  refine wpAnyH_ready (rs := [7]) (by kernel_rfl) (by simp) (AllReadyH.cons ((List.getElem?_toArray ..).trans rfl) (fun KK hKK => ?_) AllReadyH.nil)
  have c0 := S.c 2 0 rfl rfl
  have f0 := S.f 2 0 rfl
  have c1 := S.c 2 1 rfl rfl
  have f1 := S.f 2 1 rfl
  go_simp
  clear hS c0 f0 c1 f1
  have H := S.hset 2 0 (.bool (negB X)) rfl rfl (by intro q n e; cases e)
  replace S := S.set 2 0 (.bool (negB X)) rfl
  replace n1 := n1.hold H
  replace n2 := n2.hold H
  replace na := na.hold H
  replace nb := nb.hold H
  replace HH := HH.trans H
  clear H
  have H := S.hset 2 1 (.slice pa la Ka) rfl rfl (by intro q n e; cases e)
  replace S := S.set 2 1 (.slice pa la Ka) rfl
  replace n1 := n1.hold H
  replace n2 := n2.hold H
  replace na := na.hold H
  replace nb := nb.hold H
  replace HH := HH.trans H
  clear H
  refine hKK.out _ _ ⟨S.c 4 0 rfl rfl, S.c 4 1 rfl rfl, S.c 5 0 rfl rfl, S.c 5 1 rfl rfl⟩ (fun hS => ?_)
  generalize ((w6.setCell ⟨w.heap.size + 1 + 1, 0, none⟩ (.bool (negB X))).setCell ⟨w.heap.size + 1 + 1, 1, none⟩ (.slice pa la Ka)) = w7 at S n1 n2 na nb HH hS ⊢
  clear hKK KK
  try simp only [Act.put, List.setIfInBounds_toArray, List.set_cons_zero, List.set_cons_succ]
  refine wpAnyH_ready (rs := [8]) (by kernel_rfl) (by simp) (AllReadyH.cons ((List.getElem?_toArray ..).trans rfl) (fun KK hKK => ?_) AllReadyH.nil)
  have c0 := S.c 3 0 rfl rfl
  have f0 := S.f 3 0 rfl
  have c1 := S.c 3 1 rfl rfl
  have f1 := S.f 3 1 rfl
  go_simp
  clear hS c0 f0 c1 f1
  have H := S.hset 3 0 (.bool (negB Y)) rfl rfl (by intro q n e; cases e)
  replace S := S.set 3 0 (.bool (negB Y)) rfl
  replace n1 := n1.hold H
  replace n2 := n2.hold H
  replace na := na.hold H
  replace nb := nb.hold H
  replace HH := HH.trans H
  clear H
  have H := S.hset 3 1 (.slice pb lb Kb) rfl rfl (by intro q n e; cases e)
  replace S := S.set 3 1 (.slice pb lb Kb) rfl
  replace n1 := n1.hold H
  replace n2 := n2.hold H
  replace na := na.hold H
  replace nb := nb.hold H
  replace HH := HH.trans H
  clear H
  refine hKK.out _ _ ⟨S.c 4 0 rfl rfl, S.c 4 1 rfl rfl, S.c 5 0 rfl rfl, S.c 5 1 rfl rfl⟩ (fun hS => ?_)
  generalize ((w7.setCell ⟨w.heap.size + 1 + 1 + 1, 0, none⟩ (.bool (negB Y))).setCell ⟨w.heap.size + 1 + 1 + 1, 1, none⟩ (.slice pb lb Kb)) = w8 at S n1 n2 na nb HH hS ⊢
  clear hKK KK
  try simp only [Act.put, List.setIfInBounds_toArray, List.set_cons_zero, List.set_cons_succ]
  refine wpAnyH_ready (rs := [9]) (by kernel_rfl) (by simp) (AllReadyH.cons ((List.getElem?_toArray ..).trans rfl) (fun KK hKK => ?_) AllReadyH.nil)
  go_simp
  refine hKK.out _ _ hS (fun hS => ?_)
  clear hKK KK
  try simp only [Act.put, List.setIfInBounds_toArray, List.set_cons_zero, List.set_cons_succ]
  refine wpAnyH_ready (rs := [10]) (by kernel_rfl) (by simp) (AllReadyH.cons ((List.getElem?_toArray ..).trans rfl) (fun KK hKK => ?_) AllReadyH.nil)
  go_simp
  refine hKK.out _ _ hS (fun hS => ?_)
  clear hKK KK
  try simp only [Act.put, List.setIfInBounds_toArray, List.set_cons_zero, List.set_cons_succ]
  refine wpAnyH_done (by kernel_rfl) ?_ _
  clear hS HH
  have c0_0 := S.c 0 0 rfl rfl
  have c0_1 := S.c 0 1 rfl rfl
  have c0_2 := S.c 0 2 rfl rfl
  have c1_0 := S.c 1 0 rfl rfl
  have c1_1 := S.c 1 1 rfl rfl
  have c1_2 := S.c 1 2 rfl rfl
  have c2_0 := S.c 2 0 rfl rfl
  have c2_1 := S.c 2 1 rfl rfl
  have c3_0 := S.c 3 0 rfl rfl
  have c3_1 := S.c 3 1 rfl rfl
  have c4_0 := S.c 4 0 rfl rfl
  have c4_1 := S.c 4 1 rfl rfl
  have c5_0 := S.c 5 0 rfl rfl
  have c5_1 := S.c 5 1 rfl rfl
  go_wp2_with fail
  have d2_0 := S.c 2 0 rfl rfl
  have d2_1 := S.c 2 1 rfl rfl
  have d3_0 := S.c 3 0 rfl rfl
  have d3_1 := S.c 3 1 rfl rfl
  exact bodyPost_ret (v := .tuple #[.agg #[.bool (negB X), .slice pa la Ka], .agg #[.bool (negB Y), .slice pb lb Kb], .int .i64 e2, .int .i64 0]) (by simp [results, Tryd.f40, go_sem, d2_0, d2_1, d3_0, d3_1]) rfl (⟨⟨_, _, rfl, ⟨pa, la, Ka, rfl, na⟩, ⟨pb, lb, Kb, rfl, nb⟩⟩, S.below⟩)

set_option maxRecDepth 100000 in
set_option maxHeartbeats 4000000 in
theorem dalign_ge {b1 b2 : Bool} {p1 p2 : Option Addr} {l1 l2 K1 K2 : Nat} {m1 m2 e1 e2 : Int} {w : World} (h1 : Hid (negB m1 = b1)) (n1 : IsNat w (.slice p1 l1 K1) m1.natAbs) (h2 : Hid (negB m2 = b2)) (n2 : IsNat w (.slice p2 l2 K2) m2.natAbs) (hm1 : m1.natAbs < maxN) (hm2 : m2.natAbs < maxN)
    (he1 : -1000000 ≤ e1 ∧ e1 ≤ 1000000) (he2 : -1000000 ≤ e2 ∧ e2 ≤ 1000000) (hlt : ¬ e2 < e1) (s : Nat) (hs : e2 - e1 = s) (hfit : m2.natAbs * 2 ^ s < maxN) (X Y : Int) (hX : m1 = X) (hY : m2 * 2 ^ s = Y) :
    Calls Tryd.prog 40 #[.agg #[.bool b1, .slice p1 l1 K1, .int .i64 e1], .agg #[.bool b2, .slice p2 l2 K2, .int .i64 e2]] w fun e w' => (∃ u v, e = .returned (.tuple #[u, v, .int .i64 e1, .int .i64 0]) ∧ IsInt w' u X ∧ IsInt w' v Y) ∧ Below w.heap.size w w' := by
  have hmin : min e1 e2 = e1 := by omega
  have hwr : IntKind.i64.wrap (e2 - e1) = (s : Int) := by rw [wrap_int (by omega) (by omega), hs]
  have hw0 : IntKind.i64.wrap (e1 - e1) = 0 := by rw [Int.sub_self]; rfl
  have HD := Lib.hid (And.intro hm1 (And.intro hm2 (And.intro (show s ≤ 9223372036854775807 by omega) (And.intro hfit (And.intro hX hY)))))
  clear hm1 hm2 he1 he2 hs hfit hX hY hlt
  have S := ((((St.start w).alloc 27 [.bool b1, .slice p1 l1 K1, .int .i64 e1] (w.heap.size)).alloc 27 [.bool b2, .slice p2 l2 K2, .int .i64 e2] (w.heap.size + 1)).alloc 25 [.bool false, .slice none 0 0] (w.heap.size + 1 + 1)).alloc 25 [.bool false, .slice none 0 0] (w.heap.size + 1 + 1 + 1)
  simp only [List.cons_append, List.nil_append] at S
  replace n1 := n1.hold S.hold
  replace n2 := n2.hold S.hold
  have c0_0 := S.c 0 0 rfl rfl
  have c0_1 := S.c 0 1 rfl rfl
  have c0_2 := S.c 0 2 rfl rfl
  have c1_0 := S.c 1 0 rfl rfl
  have c1_1 := S.c 1 1 rfl rfl
  have c1_2 := S.c 1 2 rfl rfl
  have c2_0 := S.c 2 0 rfl rfl
  have c2_1 := S.c 2 1 rfl rfl
  have c3_0 := S.c 3 0 rfl rfl
  have c3_1 := S.c 3 1 rfl rfl
  go_enter Tryd.func40, Tryd.ntmps40
  go_wp2_with fail
  clear c0_0 c0_1 c0_2 c1_0 c1_1 c1_2 c2_0 c2_1 c3_0 c3_1
  refine (S.call (wleft_any ⟨_, _, _, by rw [h1.out], n1⟩ HD.out.1 0 (by decide) (by rw [Nat.pow_zero, Nat.mul_one]; exact HD.out.1) X (by rw [← HD.out.2.2.2.2.1]; simp))).mono ?_
  clear S
  rintro e w1 ⟨⟨_, rfl, pa, la, Ka, rfl, na⟩, S, H⟩
  replace n1 := n1.hold H
  replace n2 := n2.hold H
  clear H
  have c0_0 := S.c 0 0 rfl rfl
  have c0_1 := S.c 0 1 rfl rfl
  have c0_2 := S.c 0 2 rfl rfl
  have c1_0 := S.c 1 0 rfl rfl
  have c1_1 := S.c 1 1 rfl rfl
  have c1_2 := S.c 1 2 rfl rfl
  have c2_0 := S.c 2 0 rfl rfl
  have c2_1 := S.c 2 1 rfl rfl
  have c3_0 := S.c 3 0 rfl rfl
  have c3_1 := S.c 3 1 rfl rfl
  have H := S.hnew 25 [.bool (negB X), .slice pa la Ka]
  replace S := S.alloc 25 [.bool (negB X), .slice pa la Ka] (w1.heap.size)
  simp only [List.cons_append, List.nil_append] at S
  replace n1 := n1.hold H
  replace n2 := n2.hold H
  replace na := na.hold H
  clear H
  clear c0_0 c0_1 c0_2 c1_0 c1_1 c1_2 c2_0 c2_1 c3_0 c3_1
  have c0_0 := S.c 0 0 rfl rfl
  have c0_1 := S.c 0 1 rfl rfl
  have c0_2 := S.c 0 2 rfl rfl
  have c1_0 := S.c 1 0 rfl rfl
  have c1_1 := S.c 1 1 rfl rfl
  have c1_2 := S.c 1 2 rfl rfl
  have c2_0 := S.c 2 0 rfl rfl
  have c2_1 := S.c 2 1 rfl rfl
  have c3_0 := S.c 3 0 rfl rfl
  have c3_1 := S.c 3 1 rfl rfl
  have c4_0 := S.c 4 0 rfl rfl
  have c4_1 := S.c 4 1 rfl rfl
  go_wp2_with fail
  clear c0_0 c0_1 c0_2 c1_0 c1_1 c1_2 c2_0 c2_1 c3_0 c3_1 c4_0 c4_1
  refine (S.call (wleft_any ⟨_, _, _, by rw [h2.out], n2⟩ HD.out.2.1 s HD.out.2.2.1 HD.out.2.2.2.1 Y HD.out.2.2.2.2.2)).mono ?_
  clear S
  rintro e w2 ⟨⟨_, rfl, pb, lb, Kb, rfl, nb⟩, S, H⟩
  replace n1 := n1.hold H
  replace n2 := n2.hold H
  replace na := na.hold H
  clear H
  have c0_0 := S.c 0 0 rfl rfl
  have c0_1 := S.c 0 1 rfl rfl
  have c0_2 := S.c 0 2 rfl rfl
  have c1_0 := S.c 1 0 rfl rfl
  have c1_1 := S.c 1 1 rfl rfl
  have c1_2 := S.c 1 2 rfl rfl
  have c2_0 := S.c 2 0 rfl rfl
  have c2_1 := S.c 2 1 rfl rfl
  have c3_0 := S.c 3 0 rfl rfl
  have c3_1 := S.c 3 1 rfl rfl
  have c4_0 := S.c 4 0 rfl rfl
  have c4_1 := S.c 4 1 rfl rfl
  have H := S.hnew 25 [.bool (negB Y), .slice pb lb Kb]
  replace S := S.alloc 25 [.bool (negB Y), .slice pb lb Kb] (w2.heap.size)
  simp only [List.cons_append, List.nil_append] at S
  replace n1 := n1.hold H
  replace n2 := n2.hold H
  replace na := na.hold H
  replace nb := nb.hold H
  clear H
  clear c0_0 c0_1 c0_2 c1_0 c1_1 c1_2 c2_0 c2_1 c3_0 c3_1 c4_0 c4_1
  have c0_0 := S.c 0 0 rfl rfl
  have c0_1 := S.c 0 1 rfl rfl
  have c0_2 := S.c 0 2 rfl rfl
  have c1_0 := S.c 1 0 rfl rfl
  have c1_1 := S.c 1 1 rfl rfl
  have c1_2 := S.c 1 2 rfl rfl
  have c2_0 := S.c 2 0 rfl rfl
  have c2_1 := S.c 2 1 rfl rfl
  have c3_0 := S.c 3 0 rfl rfl
  have c3_1 := S.c 3 1 rfl rfl
  have c4_0 := S.c 4 0 rfl rfl
  have c4_1 := S.c 4 1 rfl rfl
  have c5_0 := S.c 5 0 rfl rfl
  have c5_1 := S.c 5 1 rfl rfl
  go_upto_region 4 with fail
  clear c0_0 c0_1 c0_2 c1_0 c1_1 c1_2 c2_0 c2_1 c3_0 c3_1 c4_0 c4_1 c5_0 c5_1
  generalize (w2.alloc (.cells #[.bool (negB Y), .slice pb lb Kb] 25)) = w3 at S n1 n2 na nb ⊢
  have HH := Hold.drew w3
  replace n1 := n1.hold HH
  replace n2 := n2.hold HH
  replace na := na.hold HH
  replace nb := nb.hold HH
  replace S := S.drew
  refine wp_region_held_drew (S := fun W => W.cell? ⟨w1.heap.size, 0, none⟩ = some (.bool (negB X)) ∧ W.cell? ⟨w1.heap.size, 1, none⟩ = some (.slice pa la Ka) ∧ W.cell? ⟨w2.heap.size, 0, none⟩ = some (.bool (negB Y)) ∧ W.cell? ⟨w2.heap.size, 1, none⟩ = some (.slice pb lb Kb)) (by kernel_rfl) ⟨S.c 4 0 rfl rfl, S.c 4 1 rfl rfl, S.c 5 0 rfl rfl, S.c 5 1 rfl rfl⟩ (fun hS => ?_)
  generalize w3.drew = w4 at S n1 n2 na nb HH hS ⊢
  refine wpAnyH_take (i := 0) (v := ?_) ((List.getElem?_toArray ..).trans rfl) (by kernel_rfl) (by kernel_rfl) (by kernel_rfl) (fun _ _ _ h => h) (Or.inl ⟨rfl, fun W hW => ?_⟩) hS ?_
  rotate_left
  · obtain ⟨hW0, hW1, hW2, hW3⟩ := hW; go_simp; try first | rfl | (rw [if_neg (by first | omega | (simp only [ByteArray.size_append]; first | omega | (have h1 : (ByteArray.mk #[47]).size = 1 := rfl; omega)))]; try rfl) | kernel_rfl
  try simp only [Act.put, List.setIfInBounds_toArray, List.set_cons_zero, List.set_cons_succ]
  refine wpAnyH_take (i := 1) (v := ?_) ((List.getElem?_toArray ..).trans rfl) (by kernel_rfl) (by kernel_rfl) (by kernel_rfl) (fun _ _ _ h => h) (Or.inl ⟨rfl, fun W hW => ?_⟩) hS ?_
  rotate_left
  · obtain ⟨hW0, hW1, hW2, hW3⟩ := hW; go_simp; try first | rfl | (rw [if_neg (by first | omega | (simp only [ByteArray.size_append]; first | omega | (have h1 : (ByteArray.mk #[47]).size = 1 := rfl; omega)))]; try rfl) | kernel_rfl
  try simp only [Act.put, List.setIfInBounds_toArray, List.set_cons_zero, List.set_cons_succ]
  refine wpAnyH_take (i := 2) (v := ?_) ((List.getElem?_toArray ..).trans rfl) (by kernel_rfl) (by kernel_rfl) (by kernel_rfl) (fun _ _ _ h => h) (Or.inl ⟨rfl, fun W hW => ?_⟩) hS ?_
  rotate_left
  · obtain ⟨hW0, hW1, hW2, hW3⟩ := hW; go_simp; try first | rfl | (rw [if_neg (by first | omega | (simp only [ByteArray.size_append]; first | omega | (have h1 : (ByteArray.mk #[47]).size = 1 := rfl; omega)))]; try rfl) | kernel_rfl
  try simp only [Act.put, List.setIfInBounds_toArray, List.set_cons_zero, List.set_cons_succ]
  refine wpAnyH_take (i := 3) (v := ?_) ((List.getElem?_toArray ..).trans rfl) (by kernel_rfl) (by kernel_rfl) (by kernel_rfl) (fun _ _ _ h => h) (Or.inl ⟨rfl, fun W hW => ?_⟩) hS ?_
  rotate_left
  · obtain ⟨hW0, hW1, hW2, hW3⟩ := hW; go_simp; try first | rfl | (rw [if_neg (by first | omega | (simp only [ByteArray.size_append]; first | omega | (have h1 : (ByteArray.mk #[47]).size = 1 := rfl; omega)))]; try rfl) | kernel_rfl
  try simp only [Act.put, List.setIfInBounds_toArray, List.set_cons_zero, List.set_cons_succ]
  refine wpAnyH_take (i := 4) (v := ?_) ((List.getElem?_toArray ..).trans rfl) (by kernel_rfl) (by kernel_rfl) (by kernel_rfl) (fun _ _ _ h => h) (Or.inl ⟨rfl, fun W hW => ?_⟩) hS ?_
  rotate_left
  · obtain ⟨hW0, hW1, hW2, hW3⟩ := hW; go_simp; try first | rfl | (rw [if_neg (by first | omega | (simp only [ByteArray.size_append]; first | omega | (have h1 : (ByteArray.mk #[47]).size = 1 := rfl; omega)))]; try rfl) | kernel_rfl
  try simp only [Act.put, List.setIfInBounds_toArray, List.set_cons_zero, List.set_cons_succ]
  refine wpAnyH_ready (rs := [5]) (by kernel_rfl) (by simp) (AllReadyH.cons ((List.getElem?_toArray ..).trans rfl) (fun KK hKK => ?_) AllReadyH.nil)
  go_simp
  clear hS
  have H := S.hnew 30 [.int .i64 0, .int .i64 0]
  replace S := S.alloc 30 [.int .i64 0, .int .i64 0] (w4.heap.size)
  simp only [List.cons_append, List.nil_append] at S
  replace n1 := n1.hold H
  replace n2 := n2.hold H
  replace na := na.hold H
  replace nb := nb.hold H
  replace HH := HH.trans H
  clear H
  refine hKK.out _ _ ⟨S.c 4 0 rfl rfl, S.c 4 1 rfl rfl, S.c 5 0 rfl rfl, S.c 5 1 rfl rfl⟩ (fun hS => ?_)
  generalize (w4.alloc (.cells #[.int .i64 0, .int .i64 0] 30)) = w5 at S n1 n2 na nb HH hS ⊢
  clear hKK KK
  try simp only [Act.put, List.setIfInBounds_toArray, List.set_cons_zero, List.set_cons_succ]
  refine wpAnyH_ready (rs := [6]) (by kernel_rfl) (by simp) (AllReadyH.cons ((List.getElem?_toArray ..).trans rfl) (fun KK hKK => ?_) AllReadyH.nil)
  go_simp
  clear hS
  refine (S.call (or_two S 6 rfl)).mono ?_
  clear S
  rintro e w6 ⟨rfl, S, H⟩
  replace n1 := n1.hold H
  replace n2 := n2.hold H
  replace na := na.hold H
  replace nb := nb.hold H
  replace HH := HH.trans H
  clear H
  go_wp2_with fail
  refine hKK.out _ _ ⟨S.c 4 0 rfl rfl, S.c 4 1 rfl rfl, S.c 5 0 rfl rfl, S.c 5 1 rfl rfl⟩ (fun hS => ?_)
  clear hKK KK
  try simp only [Act.put, List.setIfInBounds_toArray, List.set_cons_zero, List.set_cons_succ]
  refine wpAnyH_ready (rs := [7]) (by kernel_rfl) (by simp) (AllReadyH.cons ((List.getElem?_toArray ..).trans rfl) (fun KK hKK => ?_) AllReadyH.nil)
  have c0 := S.c 2 0 rfl rfl
  have f0 := S.f 2 0 rfl
  have c1 := S.c 2 1 rfl rfl
  have f1 := S.f 2 1 rfl
  go_simp
  clear hS c0 f0 c1 f1
  have H := S.hset 2 0 (.bool (negB X)) rfl rfl (by intro q n e; cases e)
  replace S := S.set 2 0 (.bool (negB X)) rfl
  replace n1 := n1.hold H
  replace n2 := n2.hold H
  replace na := na.hold H
  replace nb := nb.hold H
  replace HH := HH.trans H
  clear H
  have H := S.hset 2 1 (.slice pa la Ka) rfl rfl (by intro q n e; cases e)
  replace S := S.set 2 1 (.slice pa la Ka) rfl
  replace n1 := n1.hold H
  replace n2 := n2.hold H
  replace na := na.hold H
  replace nb := nb.hold H
  replace HH := HH.trans H
  clear H
  refine hKK.out _ _ ⟨S.c 4 0 rfl rfl, S.c 4 1 rfl rfl, S.c 5 0 rfl rfl, S.c 5 1 rfl rfl⟩ (fun hS => ?_)
  generalize ((w6.setCell ⟨w.heap.size + 1 + 1, 0, none⟩ (.bool (negB X))).setCell ⟨w.heap.size + 1 + 1, 1, none⟩ (.slice pa la Ka)) = w7 at S n1 n2 na nb HH hS ⊢
  clear hKK KK
  try simp only [Act.put, List.setIfInBounds_toArray, List.set_cons_zero, List.set_cons_succ]
  refine wpAnyH_ready (rs := [8]) (by kernel_rfl) (by simp) (AllReadyH.cons ((List.getElem?_toArray ..).trans rfl) (fun KK hKK => ?_) AllReadyH.nil)
  have c0 := S.c 3 0 rfl rfl
  have f0 := S.f 3 0 rfl
  have c1 := S.c 3 1 rfl rfl
  have f1 := S.f 3 1 rfl
  go_simp
  clear hS c0 f0 c1 f1
  have H := S.hset 3 0 (.bool (negB Y)) rfl rfl (by intro q n e; cases e)
  replace S := S.set 3 0 (.bool (negB Y)) rfl
  replace n1 := n1.hold H
  replace n2 := n2.hold H
  replace na := na.hold H
  replace nb := nb.hold H
  replace HH := HH.trans H
  clear H
  have H := S.hset 3 1 (.slice pb lb Kb) rfl rfl (by intro q n e; cases e)
  replace S := S.set 3 1 (.slice pb lb Kb) rfl
  replace n1 := n1.hold H
  replace n2 := n2.hold H
  replace na := na.hold H
  replace nb := nb.hold H
  replace HH := HH.trans H
  clear H
  refine hKK.out _ _ ⟨S.c 4 0 rfl rfl, S.c 4 1 rfl rfl, S.c 5 0 rfl rfl, S.c 5 1 rfl rfl⟩ (fun hS => ?_)
  generalize ((w7.setCell ⟨w.heap.size + 1 + 1 + 1, 0, none⟩ (.bool (negB Y))).setCell ⟨w.heap.size + 1 + 1 + 1, 1, none⟩ (.slice pb lb Kb)) = w8 at S n1 n2 na nb HH hS ⊢
  clear hKK KK
  try simp only [Act.put, List.setIfInBounds_toArray, List.set_cons_zero, List.set_cons_succ]
  refine wpAnyH_ready (rs := [9]) (by kernel_rfl) (by simp) (AllReadyH.cons ((List.getElem?_toArray ..).trans rfl) (fun KK hKK => ?_) AllReadyH.nil)
  go_simp
  refine hKK.out _ _ hS (fun hS => ?_)
  clear hKK KK
  try simp only [Act.put, List.setIfInBounds_toArray, List.set_cons_zero, List.set_cons_succ]
  refine wpAnyH_ready (rs := [10]) (by kernel_rfl) (by simp) (AllReadyH.cons ((List.getElem?_toArray ..).trans rfl) (fun KK hKK => ?_) AllReadyH.nil)
  go_simp
  refine hKK.out _ _ hS (fun hS => ?_)
  clear hKK KK
  try simp only [Act.put, List.setIfInBounds_toArray, List.set_cons_zero, List.set_cons_succ]
  refine wpAnyH_done (by kernel_rfl) ?_ _
  clear hS HH
  have c0_0 := S.c 0 0 rfl rfl
  have c0_1 := S.c 0 1 rfl rfl
  have c0_2 := S.c 0 2 rfl rfl
  have c1_0 := S.c 1 0 rfl rfl
  have c1_1 := S.c 1 1 rfl rfl
  have c1_2 := S.c 1 2 rfl rfl
  have c2_0 := S.c 2 0 rfl rfl
  have c2_1 := S.c 2 1 rfl rfl
  have c3_0 := S.c 3 0 rfl rfl
  have c3_1 := S.c 3 1 rfl rfl
  have c4_0 := S.c 4 0 rfl rfl
  have c4_1 := S.c 4 1 rfl rfl
  have c5_0 := S.c 5 0 rfl rfl
  have c5_1 := S.c 5 1 rfl rfl
  go_wp2_with fail
  have d2_0 := S.c 2 0 rfl rfl
  have d2_1 := S.c 2 1 rfl rfl
  have d3_0 := S.c 3 0 rfl rfl
  have d3_1 := S.c 3 1 rfl rfl
  exact bodyPost_ret (v := .tuple #[.agg #[.bool (negB X), .slice pa la Ka], .agg #[.bool (negB Y), .slice pb lb Kb], .int .i64 e1, .int .i64 0]) (by simp [results, Tryd.f40, go_sem, d2_0, d2_1, d3_0, d3_1]) rfl (⟨⟨_, _, rfl, ⟨pa, la, Ka, rfl, na⟩, ⟨pb, lb, Kb, rfl, nb⟩⟩, S.below⟩)

end Go.Proofs.YtnkmcikjeicpfaaDoor

namespace Go.Proofs.YtnkmcikjeicpfaaDoor
open Go.RowKit

theorem nbits_pb {n k : Nat} (h0 : n ≠ 0) (h : n < PB k) : nbits n ≤ k := by
  obtain ⟨a1, a2, a3⟩ := nbits_spec h0
  rw [PB_is] at h
  have := (Nat.pow_lt_pow_iff_right (by decide : 1 < 2)).1 (Nat.lt_of_le_of_lt a2 h)
  omega
/-- Both as whole numbers times the lesser power of 2. -/
theorem dalign_any {b1 b2 : Bool} {p1 p2 : Option Addr} {l1 l2 K1 K2 : Nat} {m1 m2 e1 e2 : Int} (h1 : Hid (negB m1 = b1)) (h2 : Hid (negB m2 = b2)) {x y : Rat} {L H : Nat} (d1 : DyF m1 e1 x L H) (d2 : DyF m2 e2 y L H) (hLH : H + L ≤ 16384) :
    ∃ X Y f : Int, (ZF X f L H ∧ ZF Y f L H) ∧ x = dq X f ∧ y = dq Y f ∧
    ∀ w', IsNat w' (.slice p1 l1 K1) m1.natAbs → IsNat w' (.slice p2 l2 K2) m2.natAbs → Calls Tryd.prog 40 #[.agg #[.bool b1, .slice p1 l1 K1, .int .i64 e1], .agg #[.bool b2, .slice p2 l2 K2, .int .i64 e2]] w' fun e w'' => (∃ u v, e = .returned (.tuple #[u, v, .int .i64 f, .int .i64 0]) ∧ IsInt w'' u X ∧ IsInt w'' v Y) ∧ Below w'.heap.size w' w'' := by
  have g1 := d1.exp
  have g2 := d2.exp
  by_cases hlt : e2 < e1
  · obtain ⟨s, hs⟩ : ∃ s : Nat, e1 - e2 = s := ⟨(e1 - e2).toNat, by omega⟩
    have hp : (2 : Int) ^ s = ((2 ^ s : Nat) : Int) := by simp
    have hb : ZF (m1 * 2 ^ s) e2 L H := ⟨g2.1, by
      rw [hp, Int.natAbs_mul, Int.natAbs_natCast, Nat.mul_assoc, ← Nat.pow_add, show s + (e2 + L).toNat = (e1 + L).toNat by omega]
      exact d1.2.1.2⟩
    have hf := hb.max hLH
    rw [hp, Int.natAbs_mul, Int.natAbs_natCast] at hf
    refine ⟨m1 * 2 ^ s, m2, e2, ⟨hb, d2.2.1⟩, ?_, d2.2.2.symm, fun w' a b => dalign_lt h1 a h2 b (d1.max hLH) (d2.max hLH) (by omega) (by omega) hlt s hs hf _ _ rfl rfl⟩
    rw [hp, dq_shift, ← d1.2.2]
    congr 1; omega
  · obtain ⟨s, hs⟩ : ∃ s : Nat, e2 - e1 = s := ⟨(e2 - e1).toNat, by omega⟩
    have hp : (2 : Int) ^ s = ((2 ^ s : Nat) : Int) := by simp
    have hb : ZF (m2 * 2 ^ s) e1 L H := ⟨g1.1, by
      rw [hp, Int.natAbs_mul, Int.natAbs_natCast, Nat.mul_assoc, ← Nat.pow_add, show s + (e1 + L).toNat = (e2 + L).toNat by omega]
      exact d2.2.1.2⟩
    have hf := hb.max hLH
    rw [hp, Int.natAbs_mul, Int.natAbs_natCast] at hf
    refine ⟨m1, m2 * 2 ^ s, e1, ⟨d1.2.1, hb⟩, d1.2.2.symm, ?_, fun w' a b => dalign_ge h1 a h2 b (d1.max hLH) (d2.max hLH) (by omega) (by omega) hlt s hs hf _ _ rfl rfl⟩
    rw [hp, dq_shift, ← d2.2.2]
    congr 1; omega

set_option maxRecDepth 100000 in
set_option maxHeartbeats 8000000 in
/-- How one number stands to another one. -/
theorem dcompare_any {va vb : Value} {x y : Rat} {w : World} {L H : Nat} (ha : IsD w va x L H) (hb : IsD w vb y L H) (hk : H + L ≤ 16384) (c : Int) (hc : cmpR x y = c) :
    Calls Tryd.prog 9 #[va, vb] w fun e w' => e = .returned (.int .i64 c) ∧ Below w.heap.size w w' := by
  obtain ⟨b1, p1, l1, K1, m1, e1, rfl, h1, n1, d1⟩ := ha
  obtain ⟨b2, p2, l2, K2, m2, e2, rfl, h2, n2, d2⟩ := hb
  obtain ⟨s, hs⟩ : ∃ s, x.num.sign = s := ⟨_, rfl⟩
  obtain ⟨t, ht⟩ : ∃ t, y.num.sign = t := ⟨_, rfl⟩
  have HK := Lib.hid hk
  have HS := Lib.hid (And.intro hs ht)
  by_cases hst : s = t
  · subst hst
    by_cases hs0 : s = 0
    · subst hs0
      have hc0 : cmpI 0 0 = c := by
        rw [← hc, Rat.num_eq_zero.1 (Int.sign_eq_zero_iff_zero.1 hs), Rat.num_eq_zero.1 (Int.sign_eq_zero_iff_zero.1 ht), cmpR_eq]; rfl
      have HC := Lib.hid hc0
      clear hc hs ht hc0 hk
      have S := ((St.start w).alloc 27 [.bool b1, .slice p1 l1 K1, .int .i64 e1] (w.heap.size)).alloc 27 [.bool b2, .slice p2 l2 K2, .int .i64 e2] (w.heap.size + 1)
      simp only [List.cons_append, List.nil_append] at S
      replace n1 := n1.hold S.hold
      replace n2 := n2.hold S.hold
      have c0_0 := S.c 0 0 rfl rfl
      have c0_1 := S.c 0 1 rfl rfl
      have c0_2 := S.c 0 2 rfl rfl
      have c1_0 := S.c 1 0 rfl rfl
      have c1_1 := S.c 1 1 rfl rfl
      have c1_2 := S.c 1 2 rfl rfl
      go_enter Tryd.func9, Tryd.ntmps9
      go_upto_region 1 with fail
      clear c0_0 c0_1 c0_2 c1_0 c1_1 c1_2
      replace n1 := n1.hold (Hold.drew _)
      replace n2 := n2.hold (Hold.drew _)
      replace S := S.drew
      refine wp_region_held_drew (S := fun W => W.cell? ⟨w.heap.size, 0, none⟩ = some (.bool b1) ∧ W.cell? ⟨w.heap.size, 1, none⟩ = some (.slice p1 l1 K1) ∧ W.cell? ⟨w.heap.size, 2, none⟩ = some (.int .i64 e1) ∧ W.cell? ⟨w.heap.size + 1, 0, none⟩ = some (.bool b2) ∧ W.cell? ⟨w.heap.size + 1, 1, none⟩ = some (.slice p2 l2 K2) ∧ W.cell? ⟨w.heap.size + 1, 2, none⟩ = some (.int .i64 e2)) (by kernel_rfl) ⟨S.c 0 0 rfl rfl, S.c 0 1 rfl rfl, S.c 0 2 rfl rfl, S.c 1 0 rfl rfl, S.c 1 1 rfl rfl, S.c 1 2 rfl rfl⟩ (fun hS => ?_)
      refine wpAnyH_take (i := 0) (v := ?_) ((List.getElem?_toArray ..).trans rfl) (by kernel_rfl) (by kernel_rfl) (by kernel_rfl) (fun _ _ _ h => h) (Or.inl ⟨rfl, fun W hW => ?_⟩) hS ?_
      rotate_left
      · obtain ⟨hW0, hW1, hW2, hW3, hW4, hW5⟩ := hW; go_simp; try first | rfl | (rw [if_neg (by first | omega | (simp only [ByteArray.size_append]; first | omega | (have h1 : (ByteArray.mk #[47]).size = 1 := rfl; omega)))]; try rfl) | kernel_rfl
      try simp only [Act.put, List.setIfInBounds_toArray, List.set_cons_zero, List.set_cons_succ]
      refine wpAnyH_take (i := 2) (v := ?_) ((List.getElem?_toArray ..).trans rfl) (by kernel_rfl) (by kernel_rfl) (by kernel_rfl) (fun _ _ _ h => h) (Or.inl ⟨rfl, fun W hW => ?_⟩) hS ?_
      rotate_left
      · obtain ⟨hW0, hW1, hW2, hW3, hW4, hW5⟩ := hW; go_simp; try first | rfl | (rw [if_neg (by first | omega | (simp only [ByteArray.size_append]; first | omega | (have h1 : (ByteArray.mk #[47]).size = 1 := rfl; omega)))]; try rfl) | kernel_rfl
      try simp only [Act.put, List.setIfInBounds_toArray, List.set_cons_zero, List.set_cons_succ]
      refine wpAnyH_ready (rs := [1]) (by kernel_rfl) (by simp) (AllReadyH.cons ((List.getElem?_toArray ..).trans rfl) (fun KK hKK => ?_) AllReadyH.nil)
      go_simp
      refine (S.call (dsign_any ⟨b1, p1, l1, K1, m1, e1, rfl, h1, n1, d1⟩ HK.out HS.out.1)).mono ?_; clear S; rintro e w1 ⟨rfl, S, H⟩; replace n1 := n1.hold H; replace n2 := n2.hold H; clear H
      go_wp2_with fail
      refine hKK.out _ _ ⟨S.c 0 0 rfl rfl, S.c 0 1 rfl rfl, S.c 0 2 rfl rfl, S.c 1 0 rfl rfl, S.c 1 1 rfl rfl, S.c 1 2 rfl rfl⟩ (fun hS => ?_)
      clear hKK KK
      try simp only [Act.put, List.setIfInBounds_toArray, List.set_cons_zero, List.set_cons_succ]
      refine wpAnyH_ready (rs := [3]) (by kernel_rfl) (by simp) (AllReadyH.cons ((List.getElem?_toArray ..).trans rfl) (fun KK hKK => ?_) AllReadyH.nil)
      go_simp
      refine (S.call (dsign_any ⟨b2, p2, l2, K2, m2, e2, rfl, h2, n2, d2⟩ HK.out HS.out.2)).mono ?_; clear S; rintro e w2 ⟨rfl, S, H⟩; replace n1 := n1.hold H; replace n2 := n2.hold H; clear H
      go_wp2_with fail
      refine hKK.out _ _ ⟨S.c 0 0 rfl rfl, S.c 0 1 rfl rfl, S.c 0 2 rfl rfl, S.c 1 0 rfl rfl, S.c 1 1 rfl rfl, S.c 1 2 rfl rfl⟩ (fun hS => ?_)
      clear hKK KK
      try simp only [Act.put, List.setIfInBounds_toArray, List.set_cons_zero, List.set_cons_succ]
      refine wpAnyH_ready (rs := [4]) (by kernel_rfl) (by simp) (AllReadyH.cons ((List.getElem?_toArray ..).trans rfl) (fun KK hKK => ?_) AllReadyH.nil)
      go_simp
      refine hKK.out _ _ ⟨S.c 0 0 rfl rfl, S.c 0 1 rfl rfl, S.c 0 2 rfl rfl, S.c 1 0 rfl rfl, S.c 1 1 rfl rfl, S.c 1 2 rfl rfl⟩ (fun hS => ?_)
      clear hKK KK
      try simp only [Act.put, List.setIfInBounds_toArray, List.set_cons_zero, List.set_cons_succ]
      refine wpAnyH_ready (rs := [5]) (by kernel_rfl) (by simp) (AllReadyH.cons ((List.getElem?_toArray ..).trans rfl) (fun KK hKK => ?_) AllReadyH.nil)
      go_simp
      refine hKK.out _ _ ⟨S.c 0 0 rfl rfl, S.c 0 1 rfl rfl, S.c 0 2 rfl rfl, S.c 1 0 rfl rfl, S.c 1 1 rfl rfl, S.c 1 2 rfl rfl⟩ (fun hS => ?_)
      clear hKK KK
      try simp only [Act.put, List.setIfInBounds_toArray, List.set_cons_zero, List.set_cons_succ]
      refine wpAnyH_done (by kernel_rfl) ?_ _
      go_wp2_with fail
      refine (S.call (cmp_int' 0 0 c HC.out _)).mono ?_
      clear S
      rintro e w3 ⟨rfl, S, H⟩
      replace n1 := n1.hold H
      replace n2 := n2.hold H
      clear H
      have c0_0 := S.c 0 0 rfl rfl
      have c0_1 := S.c 0 1 rfl rfl
      have c0_2 := S.c 0 2 rfl rfl
      have c1_0 := S.c 1 0 rfl rfl
      have c1_1 := S.c 1 1 rfl rfl
      have c1_2 := S.c 1 2 rfl rfl
      go_wp2_with fail
      exact bodyPost_ret (v := .int .i64 c) (by simp [results, Tryd.f9, go_sem]) rfl (⟨rfl, S.below⟩)
    · have hm1 : m1.sign = s := by rw [← dyc_sign d1.out]; exact hs
      have hm2 : m2.sign = s := by rw [← dyc_sign d2.out]; exact ht
      have h01 : m1 ≠ 0 := fun e => hs0 (by rw [← hm1, e]; rfl)
      have h02 : m2 ≠ 0 := fun e => hs0 (by rw [← hm2, e]; rfl)
      have hs1 : (s == 0) = false := by simpa using hs0
      have hss : (s != s) = false := by simp
      have g1 := d1.out.exp
      have g2 := d2.out.exp
      have hz1 := nbits_pb (n := m1.natAbs) (by omega) d1.out.2.1.size
      have hz2 := nbits_pb (n := m2.natAbs) (by omega) d2.out.2.1.size
      obtain ⟨t1, ht1⟩ : ∃ t, nbits m1.natAbs = t := ⟨_, rfl⟩
      obtain ⟨t2, ht2⟩ : ∃ t, nbits m2.natAbs = t := ⟨_, rfl⟩
      rw [ht1] at hz1
      rw [ht2] at hz2
      obtain ⟨q1, hq1⟩ : ∃ q, (t1 : Int) + e1 = q := ⟨_, rfl⟩
      obtain ⟨q2, hq2⟩ : ∃ q, (t2 : Int) + e2 = q := ⟨_, rfl⟩
      have HQ := Lib.hid (And.intro (And.intro ht1 hq1) (And.intro (And.intro ht2 hq2) (And.intro (show -1000000 ≤ q1 ∧ q1 ≤ 1000000 by omega) (show -1000000 ≤ q2 ∧ q2 ≤ 1000000 by omega))))
      by_cases hq : q1 = q2
      · obtain ⟨X, Y, f, hb, hX, hY, CA⟩ := dalign_any (p1 := p1) (p2 := p2) (l1 := l1) (l2 := l2) (K1 := K1) (K2 := K2) h1 h2 d1.out d2.out hk
        have hc2 : cmpI X Y = c := by rw [← hc, hX, hY, cmpR_dq]
        have hqq : (q1 != q2) = false := by simpa using hq
        have HC := Lib.hid (And.intro hc2 (And.intro (hb.1.max hk) (hb.2.max hk)))
        have HA := Lib.hid CA
        clear hc hs ht hk hm1 hm2 h01 h02 g1 g2 hz1 hz2 ht1 ht2 hq1 hq2 hb hX hY CA hc2 hs0 hq
        have S := ((St.start w).alloc 27 [.bool b1, .slice p1 l1 K1, .int .i64 e1] (w.heap.size)).alloc 27 [.bool b2, .slice p2 l2 K2, .int .i64 e2] (w.heap.size + 1)
        simp only [List.cons_append, List.nil_append] at S
        replace n1 := n1.hold S.hold
        replace n2 := n2.hold S.hold
        have c0_0 := S.c 0 0 rfl rfl
        have c0_1 := S.c 0 1 rfl rfl
        have c0_2 := S.c 0 2 rfl rfl
        have c1_0 := S.c 1 0 rfl rfl
        have c1_1 := S.c 1 1 rfl rfl
        have c1_2 := S.c 1 2 rfl rfl
        go_enter Tryd.func9, Tryd.ntmps9
        go_upto_region 1 with fail
        clear c0_0 c0_1 c0_2 c1_0 c1_1 c1_2
        replace n1 := n1.hold (Hold.drew _)
        replace n2 := n2.hold (Hold.drew _)
        replace S := S.drew
        refine wp_region_held_drew (S := fun W => W.cell? ⟨w.heap.size, 0, none⟩ = some (.bool b1) ∧ W.cell? ⟨w.heap.size, 1, none⟩ = some (.slice p1 l1 K1) ∧ W.cell? ⟨w.heap.size, 2, none⟩ = some (.int .i64 e1) ∧ W.cell? ⟨w.heap.size + 1, 0, none⟩ = some (.bool b2) ∧ W.cell? ⟨w.heap.size + 1, 1, none⟩ = some (.slice p2 l2 K2) ∧ W.cell? ⟨w.heap.size + 1, 2, none⟩ = some (.int .i64 e2)) (by kernel_rfl) ⟨S.c 0 0 rfl rfl, S.c 0 1 rfl rfl, S.c 0 2 rfl rfl, S.c 1 0 rfl rfl, S.c 1 1 rfl rfl, S.c 1 2 rfl rfl⟩ (fun hS => ?_)
        refine wpAnyH_take (i := 0) (v := ?_) ((List.getElem?_toArray ..).trans rfl) (by kernel_rfl) (by kernel_rfl) (by kernel_rfl) (fun _ _ _ h => h) (Or.inl ⟨rfl, fun W hW => ?_⟩) hS ?_
        rotate_left
        · obtain ⟨hW0, hW1, hW2, hW3, hW4, hW5⟩ := hW; go_simp; try first | rfl | (rw [if_neg (by first | omega | (simp only [ByteArray.size_append]; first | omega | (have h1 : (ByteArray.mk #[47]).size = 1 := rfl; omega)))]; try rfl) | kernel_rfl
        try simp only [Act.put, List.setIfInBounds_toArray, List.set_cons_zero, List.set_cons_succ]
        refine wpAnyH_take (i := 2) (v := ?_) ((List.getElem?_toArray ..).trans rfl) (by kernel_rfl) (by kernel_rfl) (by kernel_rfl) (fun _ _ _ h => h) (Or.inl ⟨rfl, fun W hW => ?_⟩) hS ?_
        rotate_left
        · obtain ⟨hW0, hW1, hW2, hW3, hW4, hW5⟩ := hW; go_simp; try first | rfl | (rw [if_neg (by first | omega | (simp only [ByteArray.size_append]; first | omega | (have h1 : (ByteArray.mk #[47]).size = 1 := rfl; omega)))]; try rfl) | kernel_rfl
        try simp only [Act.put, List.setIfInBounds_toArray, List.set_cons_zero, List.set_cons_succ]
        refine wpAnyH_ready (rs := [1]) (by kernel_rfl) (by simp) (AllReadyH.cons ((List.getElem?_toArray ..).trans rfl) (fun KK hKK => ?_) AllReadyH.nil)
        go_simp
        refine (S.call (dsign_any ⟨b1, p1, l1, K1, m1, e1, rfl, h1, n1, d1⟩ HK.out HS.out.1)).mono ?_; clear S; rintro e w1 ⟨rfl, S, H⟩; replace n1 := n1.hold H; replace n2 := n2.hold H; clear H
        go_wp2_with fail
        refine hKK.out _ _ ⟨S.c 0 0 rfl rfl, S.c 0 1 rfl rfl, S.c 0 2 rfl rfl, S.c 1 0 rfl rfl, S.c 1 1 rfl rfl, S.c 1 2 rfl rfl⟩ (fun hS => ?_)
        clear hKK KK
        try simp only [Act.put, List.setIfInBounds_toArray, List.set_cons_zero, List.set_cons_succ]
        refine wpAnyH_ready (rs := [3]) (by kernel_rfl) (by simp) (AllReadyH.cons ((List.getElem?_toArray ..).trans rfl) (fun KK hKK => ?_) AllReadyH.nil)
        go_simp
        refine (S.call (dsign_any ⟨b2, p2, l2, K2, m2, e2, rfl, h2, n2, d2⟩ HK.out HS.out.2)).mono ?_; clear S; rintro e w2 ⟨rfl, S, H⟩; replace n1 := n1.hold H; replace n2 := n2.hold H; clear H
        go_wp2_with fail
        refine hKK.out _ _ ⟨S.c 0 0 rfl rfl, S.c 0 1 rfl rfl, S.c 0 2 rfl rfl, S.c 1 0 rfl rfl, S.c 1 1 rfl rfl, S.c 1 2 rfl rfl⟩ (fun hS => ?_)
        clear hKK KK
        try simp only [Act.put, List.setIfInBounds_toArray, List.set_cons_zero, List.set_cons_succ]
        refine wpAnyH_ready (rs := [4]) (by kernel_rfl) (by simp) (AllReadyH.cons ((List.getElem?_toArray ..).trans rfl) (fun KK hKK => ?_) AllReadyH.nil)
        go_simp
        refine hKK.out _ _ ⟨S.c 0 0 rfl rfl, S.c 0 1 rfl rfl, S.c 0 2 rfl rfl, S.c 1 0 rfl rfl, S.c 1 1 rfl rfl, S.c 1 2 rfl rfl⟩ (fun hS => ?_)
        clear hKK KK
        try simp only [Act.put, List.setIfInBounds_toArray, List.set_cons_zero, List.set_cons_succ]
        refine wpAnyH_ready (rs := [5]) (by kernel_rfl) (by simp) (AllReadyH.cons ((List.getElem?_toArray ..).trans rfl) (fun KK hKK => ?_) AllReadyH.nil)
        go_simp
        refine hKK.out _ _ ⟨S.c 0 0 rfl rfl, S.c 0 1 rfl rfl, S.c 0 2 rfl rfl, S.c 1 0 rfl rfl, S.c 1 1 rfl rfl, S.c 1 2 rfl rfl⟩ (fun hS => ?_)
        clear hKK KK
        try simp only [Act.put, List.setIfInBounds_toArray, List.set_cons_zero, List.set_cons_succ]
        refine wpAnyH_done (by kernel_rfl) ?_ _
        go_upto_region 4 with fail
        replace n1 := n1.hold (Hold.drew _)
        replace n2 := n2.hold (Hold.drew _)
        replace S := S.drew
        refine wp_region_held_drew (S := fun W => W.cell? ⟨w.heap.size, 0, none⟩ = some (.bool b1) ∧ W.cell? ⟨w.heap.size, 1, none⟩ = some (.slice p1 l1 K1) ∧ W.cell? ⟨w.heap.size, 2, none⟩ = some (.int .i64 e1) ∧ W.cell? ⟨w.heap.size + 1, 0, none⟩ = some (.bool b2) ∧ W.cell? ⟨w.heap.size + 1, 1, none⟩ = some (.slice p2 l2 K2) ∧ W.cell? ⟨w.heap.size + 1, 2, none⟩ = some (.int .i64 e2)) (by kernel_rfl) ⟨S.c 0 0 rfl rfl, S.c 0 1 rfl rfl, S.c 0 2 rfl rfl, S.c 1 0 rfl rfl, S.c 1 1 rfl rfl, S.c 1 2 rfl rfl⟩ (fun hS => ?_)
        refine wpAnyH_take (i := 0) (v := ?_) ((List.getElem?_toArray ..).trans rfl) (by kernel_rfl) (by kernel_rfl) (by kernel_rfl) (fun _ _ _ h => h) (Or.inl ⟨rfl, fun W hW => ?_⟩) hS ?_
        rotate_left
        · obtain ⟨hW0, hW1, hW2, hW3, hW4, hW5⟩ := hW; go_simp; try first | rfl | (rw [if_neg (by first | omega | (simp only [ByteArray.size_append]; first | omega | (have h1 : (ByteArray.mk #[47]).size = 1 := rfl; omega)))]; try rfl) | kernel_rfl
        try simp only [Act.put, List.setIfInBounds_toArray, List.set_cons_zero, List.set_cons_succ]
        refine wpAnyH_take (i := 2) (v := ?_) ((List.getElem?_toArray ..).trans rfl) (by kernel_rfl) (by kernel_rfl) (by kernel_rfl) (fun _ _ _ h => h) (Or.inl ⟨rfl, fun W hW => ?_⟩) hS ?_
        rotate_left
        · obtain ⟨hW0, hW1, hW2, hW3, hW4, hW5⟩ := hW; go_simp; try first | rfl | (rw [if_neg (by first | omega | (simp only [ByteArray.size_append]; first | omega | (have h1 : (ByteArray.mk #[47]).size = 1 := rfl; omega)))]; try rfl) | kernel_rfl
        try simp only [Act.put, List.setIfInBounds_toArray, List.set_cons_zero, List.set_cons_succ]
        refine wpAnyH_ready (rs := [1]) (by kernel_rfl) (by simp) (AllReadyH.cons ((List.getElem?_toArray ..).trans rfl) (fun KK hKK => ?_) AllReadyH.nil)
        go_simp
        refine (S.call (power_any n1 (d1.out.max HK.out) HQ.out.1.1 q1 HQ.out.1.2 HQ.out.2.2.1.1 HQ.out.2.2.1.2)).mono ?_; clear S; rintro e w3 ⟨rfl, S, H⟩; replace n1 := n1.hold H; replace n2 := n2.hold H; clear H
        go_wp2_with fail
        refine hKK.out _ _ ⟨S.c 0 0 rfl rfl, S.c 0 1 rfl rfl, S.c 0 2 rfl rfl, S.c 1 0 rfl rfl, S.c 1 1 rfl rfl, S.c 1 2 rfl rfl⟩ (fun hS => ?_)
        clear hKK KK
        try simp only [Act.put, List.setIfInBounds_toArray, List.set_cons_zero, List.set_cons_succ]
        refine wpAnyH_ready (rs := [3]) (by kernel_rfl) (by simp) (AllReadyH.cons ((List.getElem?_toArray ..).trans rfl) (fun KK hKK => ?_) AllReadyH.nil)
        go_simp
        refine (S.call (power_any n2 (d2.out.max HK.out) HQ.out.2.1.1 q2 HQ.out.2.1.2 HQ.out.2.2.2.1 HQ.out.2.2.2.2)).mono ?_; clear S; rintro e w4 ⟨rfl, S, H⟩; replace n1 := n1.hold H; replace n2 := n2.hold H; clear H
        go_wp2_with fail
        refine hKK.out _ _ ⟨S.c 0 0 rfl rfl, S.c 0 1 rfl rfl, S.c 0 2 rfl rfl, S.c 1 0 rfl rfl, S.c 1 1 rfl rfl, S.c 1 2 rfl rfl⟩ (fun hS => ?_)
        clear hKK KK
        try simp only [Act.put, List.setIfInBounds_toArray, List.set_cons_zero, List.set_cons_succ]
        refine wpAnyH_ready (rs := [4]) (by kernel_rfl) (by simp) (AllReadyH.cons ((List.getElem?_toArray ..).trans rfl) (fun KK hKK => ?_) AllReadyH.nil)
        go_simp
        refine hKK.out _ _ ⟨S.c 0 0 rfl rfl, S.c 0 1 rfl rfl, S.c 0 2 rfl rfl, S.c 1 0 rfl rfl, S.c 1 1 rfl rfl, S.c 1 2 rfl rfl⟩ (fun hS => ?_)
        clear hKK KK
        try simp only [Act.put, List.setIfInBounds_toArray, List.set_cons_zero, List.set_cons_succ]
        refine wpAnyH_ready (rs := [5]) (by kernel_rfl) (by simp) (AllReadyH.cons ((List.getElem?_toArray ..).trans rfl) (fun KK hKK => ?_) AllReadyH.nil)
        go_simp
        refine hKK.out _ _ ⟨S.c 0 0 rfl rfl, S.c 0 1 rfl rfl, S.c 0 2 rfl rfl, S.c 1 0 rfl rfl, S.c 1 1 rfl rfl, S.c 1 2 rfl rfl⟩ (fun hS => ?_)
        clear hKK KK
        try simp only [Act.put, List.setIfInBounds_toArray, List.set_cons_zero, List.set_cons_succ]
        refine wpAnyH_done (by kernel_rfl) ?_ _
        have c0_0 := S.c 0 0 rfl rfl
        have c0_1 := S.c 0 1 rfl rfl
        have c0_2 := S.c 0 2 rfl rfl
        have c1_0 := S.c 1 0 rfl rfl
        have c1_1 := S.c 1 1 rfl rfl
        have c1_2 := S.c 1 2 rfl rfl
        go_wp2_with fail
        clear c0_0 c0_1 c0_2 c1_0 c1_1 c1_2
        refine (S.call (HA.out _ n1 n2)).mono ?_
        clear S
        rintro e w5 ⟨⟨_, _, rfl, ⟨pa, la, Ka, rfl, na⟩, ⟨pb, lb, Kb, rfl, nb⟩⟩, S, H⟩
        replace n1 := n1.hold H
        replace n2 := n2.hold H
        clear H
        have c0_0 := S.c 0 0 rfl rfl
        have c0_1 := S.c 0 1 rfl rfl
        have c0_2 := S.c 0 2 rfl rfl
        have c1_0 := S.c 1 0 rfl rfl
        have c1_1 := S.c 1 1 rfl rfl
        have c1_2 := S.c 1 2 rfl rfl
        have H := S.hnew 25 [.bool (negB X), .slice pa la Ka]
        replace S := S.alloc 25 [.bool (negB X), .slice pa la Ka] (w5.heap.size)
        simp only [List.cons_append, List.nil_append] at S
        replace n1 := n1.hold H
        replace n2 := n2.hold H
        replace na := na.hold H
        replace nb := nb.hold H
        clear H
        have H := S.hnew 25 [.bool (negB Y), .slice pb lb Kb]
        replace S := S.alloc 25 [.bool (negB Y), .slice pb lb Kb] (w5.heap.size + 1)
        simp only [List.cons_append, List.nil_append] at S
        replace n1 := n1.hold H
        replace n2 := n2.hold H
        replace na := na.hold H
        replace nb := nb.hold H
        clear H
        clear c0_0 c0_1 c0_2 c1_0 c1_1 c1_2
        have c0_0 := S.c 0 0 rfl rfl
        have c0_1 := S.c 0 1 rfl rfl
        have c0_2 := S.c 0 2 rfl rfl
        have c1_0 := S.c 1 0 rfl rfl
        have c1_1 := S.c 1 1 rfl rfl
        have c1_2 := S.c 1 2 rfl rfl
        have c2_0 := S.c 2 0 rfl rfl
        have c2_1 := S.c 2 1 rfl rfl
        have c3_0 := S.c 3 0 rfl rfl
        have c3_1 := S.c 3 1 rfl rfl
        go_wp2_with fail
        clear c0_0 c0_1 c0_2 c1_0 c1_1 c1_2 c2_0 c2_1 c3_0 c3_1
        refine (S.call (wcompare_to ⟨_, _, _, rfl, na⟩ ⟨_, _, _, rfl, nb⟩ HC.out.2.1 HC.out.2.2 c HC.out.1)).mono ?_
        clear S
        rintro e w6 ⟨rfl, S, H⟩
        replace n1 := n1.hold H
        replace n2 := n2.hold H
        replace na := na.hold H
        replace nb := nb.hold H
        clear H
        have c0_0 := S.c 0 0 rfl rfl
        have c0_1 := S.c 0 1 rfl rfl
        have c0_2 := S.c 0 2 rfl rfl
        have c1_0 := S.c 1 0 rfl rfl
        have c1_1 := S.c 1 1 rfl rfl
        have c1_2 := S.c 1 2 rfl rfl
        have c2_0 := S.c 2 0 rfl rfl
        have c2_1 := S.c 2 1 rfl rfl
        have c3_0 := S.c 3 0 rfl rfl
        have c3_1 := S.c 3 1 rfl rfl
        go_wp2_with fail
        exact bodyPost_ret (v := .int .i64 c) (by simp [results, Tryd.f9, go_sem]) rfl (⟨rfl, S.below⟩)
      · have hc2 : s * cmpI q1 q2 = c := by
          have := cmp_pow hm1 hm2 hs0 (e1 := e1) (e2 := e2) (by rw [ht1, ht2, hq1, hq2]; exact hq)
          rw [ht1, ht2, hq1, hq2] at this
          rw [← this, ← hc, ← d1.out.2.2, ← d2.out.2.2]
        obtain ⟨r, hr⟩ : ∃ r, cmpI q1 q2 = r := ⟨_, rfl⟩
        have hrb : -1 ≤ s * r ∧ s * r ≤ 1 := by
          rw [← hr, hc2, ← hc]
          unfold cmpR cmpI
          split
          · omega
          · split <;> omega
        have hwr : IntKind.i64.wrap (s * r) = c := by rw [wrap_int (by omega) (by omega), ← hr, hc2]
        have hqq : (q1 != q2) = true := by simpa using hq
        have HC := Lib.hid hr
        clear hc hs ht hk hm1 hm2 h01 h02 g1 g2 hz1 hz2 ht1 ht2 hq1 hq2 hc2 hr hrb hs0 hq
        have S := ((St.start w).alloc 27 [.bool b1, .slice p1 l1 K1, .int .i64 e1] (w.heap.size)).alloc 27 [.bool b2, .slice p2 l2 K2, .int .i64 e2] (w.heap.size + 1)
        simp only [List.cons_append, List.nil_append] at S
        replace n1 := n1.hold S.hold
        replace n2 := n2.hold S.hold
        have c0_0 := S.c 0 0 rfl rfl
        have c0_1 := S.c 0 1 rfl rfl
        have c0_2 := S.c 0 2 rfl rfl
        have c1_0 := S.c 1 0 rfl rfl
        have c1_1 := S.c 1 1 rfl rfl
        have c1_2 := S.c 1 2 rfl rfl
        go_enter Tryd.func9, Tryd.ntmps9
        go_upto_region 1 with fail
        clear c0_0 c0_1 c0_2 c1_0 c1_1 c1_2
        replace n1 := n1.hold (Hold.drew _)
        replace n2 := n2.hold (Hold.drew _)
        replace S := S.drew
        refine wp_region_held_drew (S := fun W => W.cell? ⟨w.heap.size, 0, none⟩ = some (.bool b1) ∧ W.cell? ⟨w.heap.size, 1, none⟩ = some (.slice p1 l1 K1) ∧ W.cell? ⟨w.heap.size, 2, none⟩ = some (.int .i64 e1) ∧ W.cell? ⟨w.heap.size + 1, 0, none⟩ = some (.bool b2) ∧ W.cell? ⟨w.heap.size + 1, 1, none⟩ = some (.slice p2 l2 K2) ∧ W.cell? ⟨w.heap.size + 1, 2, none⟩ = some (.int .i64 e2)) (by kernel_rfl) ⟨S.c 0 0 rfl rfl, S.c 0 1 rfl rfl, S.c 0 2 rfl rfl, S.c 1 0 rfl rfl, S.c 1 1 rfl rfl, S.c 1 2 rfl rfl⟩ (fun hS => ?_)
        refine wpAnyH_take (i := 0) (v := ?_) ((List.getElem?_toArray ..).trans rfl) (by kernel_rfl) (by kernel_rfl) (by kernel_rfl) (fun _ _ _ h => h) (Or.inl ⟨rfl, fun W hW => ?_⟩) hS ?_
        rotate_left
        · obtain ⟨hW0, hW1, hW2, hW3, hW4, hW5⟩ := hW; go_simp; try first | rfl | (rw [if_neg (by first | omega | (simp only [ByteArray.size_append]; first | omega | (have h1 : (ByteArray.mk #[47]).size = 1 := rfl; omega)))]; try rfl) | kernel_rfl
        try simp only [Act.put, List.setIfInBounds_toArray, List.set_cons_zero, List.set_cons_succ]
        refine wpAnyH_take (i := 2) (v := ?_) ((List.getElem?_toArray ..).trans rfl) (by kernel_rfl) (by kernel_rfl) (by kernel_rfl) (fun _ _ _ h => h) (Or.inl ⟨rfl, fun W hW => ?_⟩) hS ?_
        rotate_left
        · obtain ⟨hW0, hW1, hW2, hW3, hW4, hW5⟩ := hW; go_simp; try first | rfl | (rw [if_neg (by first | omega | (simp only [ByteArray.size_append]; first | omega | (have h1 : (ByteArray.mk #[47]).size = 1 := rfl; omega)))]; try rfl) | kernel_rfl
        try simp only [Act.put, List.setIfInBounds_toArray, List.set_cons_zero, List.set_cons_succ]
        refine wpAnyH_ready (rs := [1]) (by kernel_rfl) (by simp) (AllReadyH.cons ((List.getElem?_toArray ..).trans rfl) (fun KK hKK => ?_) AllReadyH.nil)
        go_simp
        refine (S.call (dsign_any ⟨b1, p1, l1, K1, m1, e1, rfl, h1, n1, d1⟩ HK.out HS.out.1)).mono ?_; clear S; rintro e w1 ⟨rfl, S, H⟩; replace n1 := n1.hold H; replace n2 := n2.hold H; clear H
        go_wp2_with fail
        refine hKK.out _ _ ⟨S.c 0 0 rfl rfl, S.c 0 1 rfl rfl, S.c 0 2 rfl rfl, S.c 1 0 rfl rfl, S.c 1 1 rfl rfl, S.c 1 2 rfl rfl⟩ (fun hS => ?_)
        clear hKK KK
        try simp only [Act.put, List.setIfInBounds_toArray, List.set_cons_zero, List.set_cons_succ]
        refine wpAnyH_ready (rs := [3]) (by kernel_rfl) (by simp) (AllReadyH.cons ((List.getElem?_toArray ..).trans rfl) (fun KK hKK => ?_) AllReadyH.nil)
        go_simp
        refine (S.call (dsign_any ⟨b2, p2, l2, K2, m2, e2, rfl, h2, n2, d2⟩ HK.out HS.out.2)).mono ?_; clear S; rintro e w2 ⟨rfl, S, H⟩; replace n1 := n1.hold H; replace n2 := n2.hold H; clear H
        go_wp2_with fail
        refine hKK.out _ _ ⟨S.c 0 0 rfl rfl, S.c 0 1 rfl rfl, S.c 0 2 rfl rfl, S.c 1 0 rfl rfl, S.c 1 1 rfl rfl, S.c 1 2 rfl rfl⟩ (fun hS => ?_)
        clear hKK KK
        try simp only [Act.put, List.setIfInBounds_toArray, List.set_cons_zero, List.set_cons_succ]
        refine wpAnyH_ready (rs := [4]) (by kernel_rfl) (by simp) (AllReadyH.cons ((List.getElem?_toArray ..).trans rfl) (fun KK hKK => ?_) AllReadyH.nil)
        go_simp
        refine hKK.out _ _ ⟨S.c 0 0 rfl rfl, S.c 0 1 rfl rfl, S.c 0 2 rfl rfl, S.c 1 0 rfl rfl, S.c 1 1 rfl rfl, S.c 1 2 rfl rfl⟩ (fun hS => ?_)
        clear hKK KK
        try simp only [Act.put, List.setIfInBounds_toArray, List.set_cons_zero, List.set_cons_succ]
        refine wpAnyH_ready (rs := [5]) (by kernel_rfl) (by simp) (AllReadyH.cons ((List.getElem?_toArray ..).trans rfl) (fun KK hKK => ?_) AllReadyH.nil)
        go_simp
        refine hKK.out _ _ ⟨S.c 0 0 rfl rfl, S.c 0 1 rfl rfl, S.c 0 2 rfl rfl, S.c 1 0 rfl rfl, S.c 1 1 rfl rfl, S.c 1 2 rfl rfl⟩ (fun hS => ?_)
        clear hKK KK
        try simp only [Act.put, List.setIfInBounds_toArray, List.set_cons_zero, List.set_cons_succ]
        refine wpAnyH_done (by kernel_rfl) ?_ _
        go_upto_region 4 with fail
        replace n1 := n1.hold (Hold.drew _)
        replace n2 := n2.hold (Hold.drew _)
        replace S := S.drew
        refine wp_region_held_drew (S := fun W => W.cell? ⟨w.heap.size, 0, none⟩ = some (.bool b1) ∧ W.cell? ⟨w.heap.size, 1, none⟩ = some (.slice p1 l1 K1) ∧ W.cell? ⟨w.heap.size, 2, none⟩ = some (.int .i64 e1) ∧ W.cell? ⟨w.heap.size + 1, 0, none⟩ = some (.bool b2) ∧ W.cell? ⟨w.heap.size + 1, 1, none⟩ = some (.slice p2 l2 K2) ∧ W.cell? ⟨w.heap.size + 1, 2, none⟩ = some (.int .i64 e2)) (by kernel_rfl) ⟨S.c 0 0 rfl rfl, S.c 0 1 rfl rfl, S.c 0 2 rfl rfl, S.c 1 0 rfl rfl, S.c 1 1 rfl rfl, S.c 1 2 rfl rfl⟩ (fun hS => ?_)
        refine wpAnyH_take (i := 0) (v := ?_) ((List.getElem?_toArray ..).trans rfl) (by kernel_rfl) (by kernel_rfl) (by kernel_rfl) (fun _ _ _ h => h) (Or.inl ⟨rfl, fun W hW => ?_⟩) hS ?_
        rotate_left
        · obtain ⟨hW0, hW1, hW2, hW3, hW4, hW5⟩ := hW; go_simp; try first | rfl | (rw [if_neg (by first | omega | (simp only [ByteArray.size_append]; first | omega | (have h1 : (ByteArray.mk #[47]).size = 1 := rfl; omega)))]; try rfl) | kernel_rfl
        try simp only [Act.put, List.setIfInBounds_toArray, List.set_cons_zero, List.set_cons_succ]
        refine wpAnyH_take (i := 2) (v := ?_) ((List.getElem?_toArray ..).trans rfl) (by kernel_rfl) (by kernel_rfl) (by kernel_rfl) (fun _ _ _ h => h) (Or.inl ⟨rfl, fun W hW => ?_⟩) hS ?_
        rotate_left
        · obtain ⟨hW0, hW1, hW2, hW3, hW4, hW5⟩ := hW; go_simp; try first | rfl | (rw [if_neg (by first | omega | (simp only [ByteArray.size_append]; first | omega | (have h1 : (ByteArray.mk #[47]).size = 1 := rfl; omega)))]; try rfl) | kernel_rfl
        try simp only [Act.put, List.setIfInBounds_toArray, List.set_cons_zero, List.set_cons_succ]
        refine wpAnyH_ready (rs := [1]) (by kernel_rfl) (by simp) (AllReadyH.cons ((List.getElem?_toArray ..).trans rfl) (fun KK hKK => ?_) AllReadyH.nil)
        go_simp
        refine (S.call (power_any n1 (d1.out.max HK.out) HQ.out.1.1 q1 HQ.out.1.2 HQ.out.2.2.1.1 HQ.out.2.2.1.2)).mono ?_; clear S; rintro e w3 ⟨rfl, S, H⟩; replace n1 := n1.hold H; replace n2 := n2.hold H; clear H
        go_wp2_with fail
        refine hKK.out _ _ ⟨S.c 0 0 rfl rfl, S.c 0 1 rfl rfl, S.c 0 2 rfl rfl, S.c 1 0 rfl rfl, S.c 1 1 rfl rfl, S.c 1 2 rfl rfl⟩ (fun hS => ?_)
        clear hKK KK
        try simp only [Act.put, List.setIfInBounds_toArray, List.set_cons_zero, List.set_cons_succ]
        refine wpAnyH_ready (rs := [3]) (by kernel_rfl) (by simp) (AllReadyH.cons ((List.getElem?_toArray ..).trans rfl) (fun KK hKK => ?_) AllReadyH.nil)
        go_simp
        refine (S.call (power_any n2 (d2.out.max HK.out) HQ.out.2.1.1 q2 HQ.out.2.1.2 HQ.out.2.2.2.1 HQ.out.2.2.2.2)).mono ?_; clear S; rintro e w4 ⟨rfl, S, H⟩; replace n1 := n1.hold H; replace n2 := n2.hold H; clear H
        go_wp2_with fail
        refine hKK.out _ _ ⟨S.c 0 0 rfl rfl, S.c 0 1 rfl rfl, S.c 0 2 rfl rfl, S.c 1 0 rfl rfl, S.c 1 1 rfl rfl, S.c 1 2 rfl rfl⟩ (fun hS => ?_)
        clear hKK KK
        try simp only [Act.put, List.setIfInBounds_toArray, List.set_cons_zero, List.set_cons_succ]
        refine wpAnyH_ready (rs := [4]) (by kernel_rfl) (by simp) (AllReadyH.cons ((List.getElem?_toArray ..).trans rfl) (fun KK hKK => ?_) AllReadyH.nil)
        go_simp
        refine hKK.out _ _ ⟨S.c 0 0 rfl rfl, S.c 0 1 rfl rfl, S.c 0 2 rfl rfl, S.c 1 0 rfl rfl, S.c 1 1 rfl rfl, S.c 1 2 rfl rfl⟩ (fun hS => ?_)
        clear hKK KK
        try simp only [Act.put, List.setIfInBounds_toArray, List.set_cons_zero, List.set_cons_succ]
        refine wpAnyH_ready (rs := [5]) (by kernel_rfl) (by simp) (AllReadyH.cons ((List.getElem?_toArray ..).trans rfl) (fun KK hKK => ?_) AllReadyH.nil)
        go_simp
        refine hKK.out _ _ ⟨S.c 0 0 rfl rfl, S.c 0 1 rfl rfl, S.c 0 2 rfl rfl, S.c 1 0 rfl rfl, S.c 1 1 rfl rfl, S.c 1 2 rfl rfl⟩ (fun hS => ?_)
        clear hKK KK
        try simp only [Act.put, List.setIfInBounds_toArray, List.set_cons_zero, List.set_cons_succ]
        refine wpAnyH_done (by kernel_rfl) ?_ _
        go_wp2_with fail
        refine (S.call (cmp_int' q1 q2 r HC.out _)).mono ?_
        clear S
        rintro e w5 ⟨rfl, S, H⟩
        replace n1 := n1.hold H
        replace n2 := n2.hold H
        clear H
        have c0_0 := S.c 0 0 rfl rfl
        have c0_1 := S.c 0 1 rfl rfl
        have c0_2 := S.c 0 2 rfl rfl
        have c1_0 := S.c 1 0 rfl rfl
        have c1_1 := S.c 1 1 rfl rfl
        have c1_2 := S.c 1 2 rfl rfl
        go_wp2_with fail
        exact bodyPost_ret (v := .int .i64 c) (by simp [results, Tryd.f9, go_sem]) rfl (⟨rfl, S.below⟩)
  · have hc2 : cmpI s t = c := by rw [← hc]; exact (cmpR_sgn hs ht hst).symm
    have hss : (s != t) = true := by simpa using hst
    have HC := Lib.hid hc2
    clear hc hs ht hc2 hk hst
    have S := ((St.start w).alloc 27 [.bool b1, .slice p1 l1 K1, .int .i64 e1] (w.heap.size)).alloc 27 [.bool b2, .slice p2 l2 K2, .int .i64 e2] (w.heap.size + 1)
    simp only [List.cons_append, List.nil_append] at S
    replace n1 := n1.hold S.hold
    replace n2 := n2.hold S.hold
    have c0_0 := S.c 0 0 rfl rfl
    have c0_1 := S.c 0 1 rfl rfl
    have c0_2 := S.c 0 2 rfl rfl
    have c1_0 := S.c 1 0 rfl rfl
    have c1_1 := S.c 1 1 rfl rfl
    have c1_2 := S.c 1 2 rfl rfl
    go_enter Tryd.func9, Tryd.ntmps9
    go_upto_region 1 with fail
    clear c0_0 c0_1 c0_2 c1_0 c1_1 c1_2
    replace n1 := n1.hold (Hold.drew _)
    replace n2 := n2.hold (Hold.drew _)
    replace S := S.drew
    refine wp_region_held_drew (S := fun W => W.cell? ⟨w.heap.size, 0, none⟩ = some (.bool b1) ∧ W.cell? ⟨w.heap.size, 1, none⟩ = some (.slice p1 l1 K1) ∧ W.cell? ⟨w.heap.size, 2, none⟩ = some (.int .i64 e1) ∧ W.cell? ⟨w.heap.size + 1, 0, none⟩ = some (.bool b2) ∧ W.cell? ⟨w.heap.size + 1, 1, none⟩ = some (.slice p2 l2 K2) ∧ W.cell? ⟨w.heap.size + 1, 2, none⟩ = some (.int .i64 e2)) (by kernel_rfl) ⟨S.c 0 0 rfl rfl, S.c 0 1 rfl rfl, S.c 0 2 rfl rfl, S.c 1 0 rfl rfl, S.c 1 1 rfl rfl, S.c 1 2 rfl rfl⟩ (fun hS => ?_)
    refine wpAnyH_take (i := 0) (v := ?_) ((List.getElem?_toArray ..).trans rfl) (by kernel_rfl) (by kernel_rfl) (by kernel_rfl) (fun _ _ _ h => h) (Or.inl ⟨rfl, fun W hW => ?_⟩) hS ?_
    rotate_left
    · obtain ⟨hW0, hW1, hW2, hW3, hW4, hW5⟩ := hW; go_simp; try first | rfl | (rw [if_neg (by first | omega | (simp only [ByteArray.size_append]; first | omega | (have h1 : (ByteArray.mk #[47]).size = 1 := rfl; omega)))]; try rfl) | kernel_rfl
    try simp only [Act.put, List.setIfInBounds_toArray, List.set_cons_zero, List.set_cons_succ]
    refine wpAnyH_take (i := 2) (v := ?_) ((List.getElem?_toArray ..).trans rfl) (by kernel_rfl) (by kernel_rfl) (by kernel_rfl) (fun _ _ _ h => h) (Or.inl ⟨rfl, fun W hW => ?_⟩) hS ?_
    rotate_left
    · obtain ⟨hW0, hW1, hW2, hW3, hW4, hW5⟩ := hW; go_simp; try first | rfl | (rw [if_neg (by first | omega | (simp only [ByteArray.size_append]; first | omega | (have h1 : (ByteArray.mk #[47]).size = 1 := rfl; omega)))]; try rfl) | kernel_rfl
    try simp only [Act.put, List.setIfInBounds_toArray, List.set_cons_zero, List.set_cons_succ]
    refine wpAnyH_ready (rs := [1]) (by kernel_rfl) (by simp) (AllReadyH.cons ((List.getElem?_toArray ..).trans rfl) (fun KK hKK => ?_) AllReadyH.nil)
    go_simp
    refine (S.call (dsign_any ⟨b1, p1, l1, K1, m1, e1, rfl, h1, n1, d1⟩ HK.out HS.out.1)).mono ?_; clear S; rintro e w1 ⟨rfl, S, H⟩; replace n1 := n1.hold H; replace n2 := n2.hold H; clear H
    go_wp2_with fail
    refine hKK.out _ _ ⟨S.c 0 0 rfl rfl, S.c 0 1 rfl rfl, S.c 0 2 rfl rfl, S.c 1 0 rfl rfl, S.c 1 1 rfl rfl, S.c 1 2 rfl rfl⟩ (fun hS => ?_)
    clear hKK KK
    try simp only [Act.put, List.setIfInBounds_toArray, List.set_cons_zero, List.set_cons_succ]
    refine wpAnyH_ready (rs := [3]) (by kernel_rfl) (by simp) (AllReadyH.cons ((List.getElem?_toArray ..).trans rfl) (fun KK hKK => ?_) AllReadyH.nil)
    go_simp
    refine (S.call (dsign_any ⟨b2, p2, l2, K2, m2, e2, rfl, h2, n2, d2⟩ HK.out HS.out.2)).mono ?_; clear S; rintro e w2 ⟨rfl, S, H⟩; replace n1 := n1.hold H; replace n2 := n2.hold H; clear H
    go_wp2_with fail
    refine hKK.out _ _ ⟨S.c 0 0 rfl rfl, S.c 0 1 rfl rfl, S.c 0 2 rfl rfl, S.c 1 0 rfl rfl, S.c 1 1 rfl rfl, S.c 1 2 rfl rfl⟩ (fun hS => ?_)
    clear hKK KK
    try simp only [Act.put, List.setIfInBounds_toArray, List.set_cons_zero, List.set_cons_succ]
    refine wpAnyH_ready (rs := [4]) (by kernel_rfl) (by simp) (AllReadyH.cons ((List.getElem?_toArray ..).trans rfl) (fun KK hKK => ?_) AllReadyH.nil)
    go_simp
    refine hKK.out _ _ ⟨S.c 0 0 rfl rfl, S.c 0 1 rfl rfl, S.c 0 2 rfl rfl, S.c 1 0 rfl rfl, S.c 1 1 rfl rfl, S.c 1 2 rfl rfl⟩ (fun hS => ?_)
    clear hKK KK
    try simp only [Act.put, List.setIfInBounds_toArray, List.set_cons_zero, List.set_cons_succ]
    refine wpAnyH_ready (rs := [5]) (by kernel_rfl) (by simp) (AllReadyH.cons ((List.getElem?_toArray ..).trans rfl) (fun KK hKK => ?_) AllReadyH.nil)
    go_simp
    refine hKK.out _ _ ⟨S.c 0 0 rfl rfl, S.c 0 1 rfl rfl, S.c 0 2 rfl rfl, S.c 1 0 rfl rfl, S.c 1 1 rfl rfl, S.c 1 2 rfl rfl⟩ (fun hS => ?_)
    clear hKK KK
    try simp only [Act.put, List.setIfInBounds_toArray, List.set_cons_zero, List.set_cons_succ]
    refine wpAnyH_done (by kernel_rfl) ?_ _
    go_wp2_with fail
    refine (S.call (cmp_int' s t c HC.out _)).mono ?_
    clear S
    rintro e w3 ⟨rfl, S, H⟩
    replace n1 := n1.hold H
    replace n2 := n2.hold H
    clear H
    have c0_0 := S.c 0 0 rfl rfl
    have c0_1 := S.c 0 1 rfl rfl
    have c0_2 := S.c 0 2 rfl rfl
    have c1_0 := S.c 1 0 rfl rfl
    have c1_1 := S.c 1 1 rfl rfl
    have c1_2 := S.c 1 2 rfl rfl
    go_wp2_with fail
    exact bodyPost_ret (v := .int .i64 c) (by simp [results, Tryd.f9, go_sem]) rfl (⟨rfl, S.below⟩)

set_option maxRecDepth 100000 in
set_option maxHeartbeats 2000000 in
theorem dless_any {va vb : Value} {x y : Rat} {w : World} {L H : Nat} (ha : IsD w va x L H) (hb : IsD w vb y L H) (hk : H + L ≤ 16384) (r : Bool) (hr : decide (x < y) = r) :
    Calls Tryd.prog 14 #[va, vb] w fun e w' => e = .returned (.bool r) ∧ Below w.heap.size w w' := by
  obtain ⟨c, hc⟩ : ∃ c, cmpR x y = c := ⟨_, rfl⟩
  have hcr : decide (c < 0) = r := by
    rw [← hr, ← hc]
    rcases rat_three x y with h | h | h
    · rw [cmpR_lt h, show decide ((-1 : Int) < 0) = true from rfl]; exact (decide_eq_true h).symm
    · subst h; rw [cmpR_eq, show decide ((0 : Int) < 0) = false from rfl]; exact (decide_eq_false (by grind)).symm
    · rw [cmpR_gt h, show decide ((1 : Int) < 0) = false from rfl]; exact (decide_eq_false (by grind)).symm
  obtain ⟨b1, p1, l1, K1, m1, e1, rfl, h1, n1, d1⟩ := ha
  obtain ⟨b2, p2, l2, K2, m2, e2, rfl, h2, n2, d2⟩ := hb
  have HC := Lib.hid (And.intro hk hc)
  clear hk hc hr
  have S := ((St.start w).alloc 27 [.bool b1, .slice p1 l1 K1, .int .i64 e1] (w.heap.size)).alloc 27 [.bool b2, .slice p2 l2 K2, .int .i64 e2] (w.heap.size + 1)
  simp only [List.cons_append, List.nil_append] at S
  replace n1 := n1.hold S.hold
  replace n2 := n2.hold S.hold
  have c0_0 := S.c 0 0 rfl rfl
  have c0_1 := S.c 0 1 rfl rfl
  have c0_2 := S.c 0 2 rfl rfl
  have c1_0 := S.c 1 0 rfl rfl
  have c1_1 := S.c 1 1 rfl rfl
  have c1_2 := S.c 1 2 rfl rfl
  go_enter Tryd.func14, Tryd.ntmps14
  go_wp2_with fail
  clear c0_0 c0_1 c0_2 c1_0 c1_1 c1_2
  refine (S.call (dcompare_any ⟨b1, p1, l1, K1, m1, e1, rfl, h1, n1, d1⟩ ⟨b2, p2, l2, K2, m2, e2, rfl, h2, n2, d2⟩ HC.out.1 c HC.out.2)).mono ?_
  clear S
  rintro e w1 ⟨rfl, S, H⟩
  replace n1 := n1.hold H
  replace n2 := n2.hold H
  clear H
  have c0_0 := S.c 0 0 rfl rfl
  have c0_1 := S.c 0 1 rfl rfl
  have c0_2 := S.c 0 2 rfl rfl
  have c1_0 := S.c 1 0 rfl rfl
  have c1_1 := S.c 1 1 rfl rfl
  have c1_2 := S.c 1 2 rfl rfl
  go_wp2_with fail
  exact bodyPost_ret (v := .bool r) (by simp [results, Tryd.f14, go_sem]) rfl (⟨rfl, S.below⟩)

def max2 (x y : Rat) : Rat := if x < y then y else x
set_option maxRecDepth 100000 in
set_option maxHeartbeats 2000000 in
theorem dmax_any {va vb : Value} {x y : Rat} {w : World} {L H : Nat} (ha : IsD w va x L H) (hb : IsD w vb y L H) (hk : H + L ≤ 16384) :
    Calls Tryd.prog 27 #[va, vb] w fun e w' => (∃ u, e = .returned u ∧ IsD w' u (max2 x y) L H) ∧ Below w.heap.size w w' := by
  obtain ⟨b1, p1, l1, K1, m1, e1, rfl, h1, n1, d1⟩ := ha
  obtain ⟨b2, p2, l2, K2, m2, e2, rfl, h2, n2, d2⟩ := hb
  have HC := Lib.hid hk
  clear hk
  by_cases hlt : x < y
  · have hr := Lib.hid (decide_eq_true hlt)
    have he := Lib.hid (show max2 x y = y from if_pos hlt)
    clear hlt
    have S := (((St.start w).alloc 27 [.bool b1, .slice p1 l1 K1, .int .i64 e1] (w.heap.size)).alloc 27 [.bool b2, .slice p2 l2 K2, .int .i64 e2] (w.heap.size + 1)).alloc 27 [.bool false, .slice none 0 0, .int .i64 0] (w.heap.size + 1 + 1)
    simp only [List.cons_append, List.nil_append] at S
    replace n1 := n1.hold S.hold
    replace n2 := n2.hold S.hold
    have c0_0 := S.c 0 0 rfl rfl
    have c0_1 := S.c 0 1 rfl rfl
    have c0_2 := S.c 0 2 rfl rfl
    have c1_0 := S.c 1 0 rfl rfl
    have c1_1 := S.c 1 1 rfl rfl
    have c1_2 := S.c 1 2 rfl rfl
    have c2_0 := S.c 2 0 rfl rfl
    have c2_1 := S.c 2 1 rfl rfl
    have c2_2 := S.c 2 2 rfl rfl
    go_enter Tryd.func27, Tryd.ntmps27
    go_wp2_with fail
    clear c0_0 c0_1 c0_2 c1_0 c1_1 c1_2 c2_0 c2_1 c2_2
    refine (S.call (dless_any ⟨b1, p1, l1, K1, m1, e1, rfl, h1, n1, d1⟩ ⟨b2, p2, l2, K2, m2, e2, rfl, h2, n2, d2⟩ HC.out true hr.out)).mono ?_
    clear S
    rintro e w1 ⟨rfl, S, H⟩
    replace n1 := n1.hold H
    replace n2 := n2.hold H
    clear H
    have c0_0 := S.c 0 0 rfl rfl
    have c0_1 := S.c 0 1 rfl rfl
    have c0_2 := S.c 0 2 rfl rfl
    have c1_0 := S.c 1 0 rfl rfl
    have c1_1 := S.c 1 1 rfl rfl
    have c1_2 := S.c 1 2 rfl rfl
    have c2_0 := S.c 2 0 rfl rfl
    have c2_1 := S.c 2 1 rfl rfl
    have c2_2 := S.c 2 2 rfl rfl
    go_wp2_with fail
    clear c0_0 c0_1 c0_2 c1_0 c1_1 c1_2 c2_0 c2_1 c2_2
    refine (S.call (dcopied_any ⟨b2, p2, l2, K2, m2, e2, rfl, h2, n2, d2⟩ HC.out)).mono ?_
    clear S
    rintro e w2 ⟨⟨_, rfl, b3, p3, l3, K3, m3, e3, rfl, h3, n3, d3⟩, S, H⟩
    replace n1 := n1.hold H
    replace n2 := n2.hold H
    clear H
    have c0_0 := S.c 0 0 rfl rfl
    have c0_1 := S.c 0 1 rfl rfl
    have c0_2 := S.c 0 2 rfl rfl
    have c1_0 := S.c 1 0 rfl rfl
    have c1_1 := S.c 1 1 rfl rfl
    have c1_2 := S.c 1 2 rfl rfl
    have c2_0 := S.c 2 0 rfl rfl
    have c2_1 := S.c 2 1 rfl rfl
    have c2_2 := S.c 2 2 rfl rfl
    have f2_0 := S.f 2 0 rfl
    have H := S.hset 2 0 (.bool b3) rfl rfl (by intro q n e; cases e)
    replace S := S.set 2 0 (.bool b3) rfl
    replace n1 := n1.hold H
    replace n2 := n2.hold H
    replace n3 := n3.hold H
    clear H
    have f2_1 := S.f 2 1 rfl
    have H := S.hset 2 1 (.slice p3 l3 K3) rfl rfl (by intro q n e; cases e)
    replace S := S.set 2 1 (.slice p3 l3 K3) rfl
    replace n1 := n1.hold H
    replace n2 := n2.hold H
    replace n3 := n3.hold H
    clear H
    have f2_2 := S.f 2 2 rfl
    have H := S.hset32 2 2 (.int .i64 e3) rfl rfl (by intro n e; cases e)
    replace S := S.set 2 2 (.int .i64 e3) rfl
    replace n1 := n1.hold32 H
    replace n2 := n2.hold32 H
    replace n3 := n3.hold32 H
    clear H
    go_wp2_with fail
    have d2_0 := S.c 2 0 rfl rfl
    have d2_1 := S.c 2 1 rfl rfl
    have d2_2 := S.c 2 2 rfl rfl
    exact bodyPost_ret (v := .agg #[.bool b3, .slice p3 l3 K3, .int .i64 e3]) (by simp [results, Tryd.f27, go_sem, d2_0, d2_1, d2_2]) rfl (⟨⟨_, rfl, b3, p3, l3, K3, m3, e3, rfl, h3, n3, by rw [he.out]; exact d3⟩, S.below⟩)
  · have hr := Lib.hid (decide_eq_false hlt)
    have he := Lib.hid (show max2 x y = x from if_neg hlt)
    clear hlt
    have S := (((St.start w).alloc 27 [.bool b1, .slice p1 l1 K1, .int .i64 e1] (w.heap.size)).alloc 27 [.bool b2, .slice p2 l2 K2, .int .i64 e2] (w.heap.size + 1)).alloc 27 [.bool false, .slice none 0 0, .int .i64 0] (w.heap.size + 1 + 1)
    simp only [List.cons_append, List.nil_append] at S
    replace n1 := n1.hold S.hold
    replace n2 := n2.hold S.hold
    have c0_0 := S.c 0 0 rfl rfl
    have c0_1 := S.c 0 1 rfl rfl
    have c0_2 := S.c 0 2 rfl rfl
    have c1_0 := S.c 1 0 rfl rfl
    have c1_1 := S.c 1 1 rfl rfl
    have c1_2 := S.c 1 2 rfl rfl
    have c2_0 := S.c 2 0 rfl rfl
    have c2_1 := S.c 2 1 rfl rfl
    have c2_2 := S.c 2 2 rfl rfl
    go_enter Tryd.func27, Tryd.ntmps27
    go_wp2_with fail
    clear c0_0 c0_1 c0_2 c1_0 c1_1 c1_2 c2_0 c2_1 c2_2
    refine (S.call (dless_any ⟨b1, p1, l1, K1, m1, e1, rfl, h1, n1, d1⟩ ⟨b2, p2, l2, K2, m2, e2, rfl, h2, n2, d2⟩ HC.out false hr.out)).mono ?_
    clear S
    rintro e w1 ⟨rfl, S, H⟩
    replace n1 := n1.hold H
    replace n2 := n2.hold H
    clear H
    have c0_0 := S.c 0 0 rfl rfl
    have c0_1 := S.c 0 1 rfl rfl
    have c0_2 := S.c 0 2 rfl rfl
    have c1_0 := S.c 1 0 rfl rfl
    have c1_1 := S.c 1 1 rfl rfl
    have c1_2 := S.c 1 2 rfl rfl
    have c2_0 := S.c 2 0 rfl rfl
    have c2_1 := S.c 2 1 rfl rfl
    have c2_2 := S.c 2 2 rfl rfl
    go_wp2_with fail
    clear c0_0 c0_1 c0_2 c1_0 c1_1 c1_2 c2_0 c2_1 c2_2
    refine (S.call (dcopied_any ⟨b1, p1, l1, K1, m1, e1, rfl, h1, n1, d1⟩ HC.out)).mono ?_
    clear S
    rintro e w2 ⟨⟨_, rfl, b3, p3, l3, K3, m3, e3, rfl, h3, n3, d3⟩, S, H⟩
    replace n1 := n1.hold H
    replace n2 := n2.hold H
    clear H
    have c0_0 := S.c 0 0 rfl rfl
    have c0_1 := S.c 0 1 rfl rfl
    have c0_2 := S.c 0 2 rfl rfl
    have c1_0 := S.c 1 0 rfl rfl
    have c1_1 := S.c 1 1 rfl rfl
    have c1_2 := S.c 1 2 rfl rfl
    have c2_0 := S.c 2 0 rfl rfl
    have c2_1 := S.c 2 1 rfl rfl
    have c2_2 := S.c 2 2 rfl rfl
    have f2_0 := S.f 2 0 rfl
    have H := S.hset 2 0 (.bool b3) rfl rfl (by intro q n e; cases e)
    replace S := S.set 2 0 (.bool b3) rfl
    replace n1 := n1.hold H
    replace n2 := n2.hold H
    replace n3 := n3.hold H
    clear H
    have f2_1 := S.f 2 1 rfl
    have H := S.hset 2 1 (.slice p3 l3 K3) rfl rfl (by intro q n e; cases e)
    replace S := S.set 2 1 (.slice p3 l3 K3) rfl
    replace n1 := n1.hold H
    replace n2 := n2.hold H
    replace n3 := n3.hold H
    clear H
    have f2_2 := S.f 2 2 rfl
    have H := S.hset32 2 2 (.int .i64 e3) rfl rfl (by intro n e; cases e)
    replace S := S.set 2 2 (.int .i64 e3) rfl
    replace n1 := n1.hold32 H
    replace n2 := n2.hold32 H
    replace n3 := n3.hold32 H
    clear H
    go_wp2_with fail
    have d2_0 := S.c 2 0 rfl rfl
    have d2_1 := S.c 2 1 rfl rfl
    have d2_2 := S.c 2 2 rfl rfl
    exact bodyPost_ret (v := .agg #[.bool b3, .slice p3 l3 K3, .int .i64 e3]) (by simp [results, Tryd.f27, go_sem, d2_0, d2_1, d2_2]) rfl (⟨⟨_, rfl, b3, p3, l3, K3, m3, e3, rfl, h3, n3, by rw [he.out]; exact d3⟩, S.below⟩)

def min2 (x y : Rat) : Rat := if y < x then y else x
set_option maxRecDepth 100000 in
set_option maxHeartbeats 2000000 in
theorem dmin_any {va vb : Value} {x y : Rat} {w : World} {L H : Nat} (ha : IsD w va x L H) (hb : IsD w vb y L H) (hk : H + L ≤ 16384) :
    Calls Tryd.prog 28 #[va, vb] w fun e w' => (∃ u, e = .returned u ∧ IsD w' u (min2 x y) L H) ∧ Below w.heap.size w w' := by
  obtain ⟨b1, p1, l1, K1, m1, e1, rfl, h1, n1, d1⟩ := ha
  obtain ⟨b2, p2, l2, K2, m2, e2, rfl, h2, n2, d2⟩ := hb
  have HC := Lib.hid hk
  clear hk
  by_cases hlt : y < x
  · have hr := Lib.hid (decide_eq_true hlt)
    have he := Lib.hid (show min2 x y = y from if_pos hlt)
    clear hlt
    have S := (((St.start w).alloc 27 [.bool b1, .slice p1 l1 K1, .int .i64 e1] (w.heap.size)).alloc 27 [.bool b2, .slice p2 l2 K2, .int .i64 e2] (w.heap.size + 1)).alloc 27 [.bool false, .slice none 0 0, .int .i64 0] (w.heap.size + 1 + 1)
    simp only [List.cons_append, List.nil_append] at S
    replace n1 := n1.hold S.hold
    replace n2 := n2.hold S.hold
    have c0_0 := S.c 0 0 rfl rfl
    have c0_1 := S.c 0 1 rfl rfl
    have c0_2 := S.c 0 2 rfl rfl
    have c1_0 := S.c 1 0 rfl rfl
    have c1_1 := S.c 1 1 rfl rfl
    have c1_2 := S.c 1 2 rfl rfl
    have c2_0 := S.c 2 0 rfl rfl
    have c2_1 := S.c 2 1 rfl rfl
    have c2_2 := S.c 2 2 rfl rfl
    go_enter Tryd.func28, Tryd.ntmps28
    go_wp2_with fail
    clear c0_0 c0_1 c0_2 c1_0 c1_1 c1_2 c2_0 c2_1 c2_2
    refine (S.call (dless_any ⟨b2, p2, l2, K2, m2, e2, rfl, h2, n2, d2⟩ ⟨b1, p1, l1, K1, m1, e1, rfl, h1, n1, d1⟩ HC.out true hr.out)).mono ?_
    clear S
    rintro e w1 ⟨rfl, S, H⟩
    replace n1 := n1.hold H
    replace n2 := n2.hold H
    clear H
    have c0_0 := S.c 0 0 rfl rfl
    have c0_1 := S.c 0 1 rfl rfl
    have c0_2 := S.c 0 2 rfl rfl
    have c1_0 := S.c 1 0 rfl rfl
    have c1_1 := S.c 1 1 rfl rfl
    have c1_2 := S.c 1 2 rfl rfl
    have c2_0 := S.c 2 0 rfl rfl
    have c2_1 := S.c 2 1 rfl rfl
    have c2_2 := S.c 2 2 rfl rfl
    go_wp2_with fail
    clear c0_0 c0_1 c0_2 c1_0 c1_1 c1_2 c2_0 c2_1 c2_2
    refine (S.call (dcopied_any ⟨b2, p2, l2, K2, m2, e2, rfl, h2, n2, d2⟩ HC.out)).mono ?_
    clear S
    rintro e w2 ⟨⟨_, rfl, b3, p3, l3, K3, m3, e3, rfl, h3, n3, d3⟩, S, H⟩
    replace n1 := n1.hold H
    replace n2 := n2.hold H
    clear H
    have c0_0 := S.c 0 0 rfl rfl
    have c0_1 := S.c 0 1 rfl rfl
    have c0_2 := S.c 0 2 rfl rfl
    have c1_0 := S.c 1 0 rfl rfl
    have c1_1 := S.c 1 1 rfl rfl
    have c1_2 := S.c 1 2 rfl rfl
    have c2_0 := S.c 2 0 rfl rfl
    have c2_1 := S.c 2 1 rfl rfl
    have c2_2 := S.c 2 2 rfl rfl
    have f2_0 := S.f 2 0 rfl
    have H := S.hset 2 0 (.bool b3) rfl rfl (by intro q n e; cases e)
    replace S := S.set 2 0 (.bool b3) rfl
    replace n1 := n1.hold H
    replace n2 := n2.hold H
    replace n3 := n3.hold H
    clear H
    have f2_1 := S.f 2 1 rfl
    have H := S.hset 2 1 (.slice p3 l3 K3) rfl rfl (by intro q n e; cases e)
    replace S := S.set 2 1 (.slice p3 l3 K3) rfl
    replace n1 := n1.hold H
    replace n2 := n2.hold H
    replace n3 := n3.hold H
    clear H
    have f2_2 := S.f 2 2 rfl
    have H := S.hset32 2 2 (.int .i64 e3) rfl rfl (by intro n e; cases e)
    replace S := S.set 2 2 (.int .i64 e3) rfl
    replace n1 := n1.hold32 H
    replace n2 := n2.hold32 H
    replace n3 := n3.hold32 H
    clear H
    go_wp2_with fail
    have d2_0 := S.c 2 0 rfl rfl
    have d2_1 := S.c 2 1 rfl rfl
    have d2_2 := S.c 2 2 rfl rfl
    exact bodyPost_ret (v := .agg #[.bool b3, .slice p3 l3 K3, .int .i64 e3]) (by simp [results, Tryd.f28, go_sem, d2_0, d2_1, d2_2]) rfl (⟨⟨_, rfl, b3, p3, l3, K3, m3, e3, rfl, h3, n3, by rw [he.out]; exact d3⟩, S.below⟩)
  · have hr := Lib.hid (decide_eq_false hlt)
    have he := Lib.hid (show min2 x y = x from if_neg hlt)
    clear hlt
    have S := (((St.start w).alloc 27 [.bool b1, .slice p1 l1 K1, .int .i64 e1] (w.heap.size)).alloc 27 [.bool b2, .slice p2 l2 K2, .int .i64 e2] (w.heap.size + 1)).alloc 27 [.bool false, .slice none 0 0, .int .i64 0] (w.heap.size + 1 + 1)
    simp only [List.cons_append, List.nil_append] at S
    replace n1 := n1.hold S.hold
    replace n2 := n2.hold S.hold
    have c0_0 := S.c 0 0 rfl rfl
    have c0_1 := S.c 0 1 rfl rfl
    have c0_2 := S.c 0 2 rfl rfl
    have c1_0 := S.c 1 0 rfl rfl
    have c1_1 := S.c 1 1 rfl rfl
    have c1_2 := S.c 1 2 rfl rfl
    have c2_0 := S.c 2 0 rfl rfl
    have c2_1 := S.c 2 1 rfl rfl
    have c2_2 := S.c 2 2 rfl rfl
    go_enter Tryd.func28, Tryd.ntmps28
    go_wp2_with fail
    clear c0_0 c0_1 c0_2 c1_0 c1_1 c1_2 c2_0 c2_1 c2_2
    refine (S.call (dless_any ⟨b2, p2, l2, K2, m2, e2, rfl, h2, n2, d2⟩ ⟨b1, p1, l1, K1, m1, e1, rfl, h1, n1, d1⟩ HC.out false hr.out)).mono ?_
    clear S
    rintro e w1 ⟨rfl, S, H⟩
    replace n1 := n1.hold H
    replace n2 := n2.hold H
    clear H
    have c0_0 := S.c 0 0 rfl rfl
    have c0_1 := S.c 0 1 rfl rfl
    have c0_2 := S.c 0 2 rfl rfl
    have c1_0 := S.c 1 0 rfl rfl
    have c1_1 := S.c 1 1 rfl rfl
    have c1_2 := S.c 1 2 rfl rfl
    have c2_0 := S.c 2 0 rfl rfl
    have c2_1 := S.c 2 1 rfl rfl
    have c2_2 := S.c 2 2 rfl rfl
    go_wp2_with fail
    clear c0_0 c0_1 c0_2 c1_0 c1_1 c1_2 c2_0 c2_1 c2_2
    refine (S.call (dcopied_any ⟨b1, p1, l1, K1, m1, e1, rfl, h1, n1, d1⟩ HC.out)).mono ?_
    clear S
    rintro e w2 ⟨⟨_, rfl, b3, p3, l3, K3, m3, e3, rfl, h3, n3, d3⟩, S, H⟩
    replace n1 := n1.hold H
    replace n2 := n2.hold H
    clear H
    have c0_0 := S.c 0 0 rfl rfl
    have c0_1 := S.c 0 1 rfl rfl
    have c0_2 := S.c 0 2 rfl rfl
    have c1_0 := S.c 1 0 rfl rfl
    have c1_1 := S.c 1 1 rfl rfl
    have c1_2 := S.c 1 2 rfl rfl
    have c2_0 := S.c 2 0 rfl rfl
    have c2_1 := S.c 2 1 rfl rfl
    have c2_2 := S.c 2 2 rfl rfl
    have f2_0 := S.f 2 0 rfl
    have H := S.hset 2 0 (.bool b3) rfl rfl (by intro q n e; cases e)
    replace S := S.set 2 0 (.bool b3) rfl
    replace n1 := n1.hold H
    replace n2 := n2.hold H
    replace n3 := n3.hold H
    clear H
    have f2_1 := S.f 2 1 rfl
    have H := S.hset 2 1 (.slice p3 l3 K3) rfl rfl (by intro q n e; cases e)
    replace S := S.set 2 1 (.slice p3 l3 K3) rfl
    replace n1 := n1.hold H
    replace n2 := n2.hold H
    replace n3 := n3.hold H
    clear H
    have f2_2 := S.f 2 2 rfl
    have H := S.hset32 2 2 (.int .i64 e3) rfl rfl (by intro n e; cases e)
    replace S := S.set 2 2 (.int .i64 e3) rfl
    replace n1 := n1.hold32 H
    replace n2 := n2.hold32 H
    replace n3 := n3.hold32 H
    clear H
    go_wp2_with fail
    have d2_0 := S.c 2 0 rfl rfl
    have d2_1 := S.c 2 1 rfl rfl
    have d2_2 := S.c 2 2 rfl rfl
    exact bodyPost_ret (v := .agg #[.bool b3, .slice p3 l3 K3, .int .i64 e3]) (by simp [results, Tryd.f28, go_sem, d2_0, d2_1, d2_2]) rfl (⟨⟨_, rfl, b3, p3, l3, K3, m3, e3, rfl, h3, n3, by rw [he.out]; exact d3⟩, S.below⟩)

end Go.Proofs.YtnkmcikjeicpfaaDoor

namespace Go.Proofs.YtnkmcikjeicpfaaDoor
open Go.RowKit

theorem ZF.add {x y f : Int} {L H : Nat} (h : ZF x f L H) (g : ZF y f L H) : ZF (x + y) f L (H + 1) := by
  refine ⟨h.1, ?_⟩
  have h1 := h.2
  have h2 := g.2
  rw [show H + 1 + L = 1 + (H + L) by omega, PB_add, PB_is 1]
  have h3 : (x + y).natAbs ≤ x.natAbs + y.natAbs := Int.natAbs_add_le x y
  have h4 := Nat.mul_le_mul_right (2 ^ (f + L).toNat) h3
  rw [Nat.add_mul] at h4
  omega
theorem ZF.mul {x y e f : Int} {L H M I : Nat} (h : ZF x e L H) (g : ZF y f M I) : ZF (x * y) (e + f) (L + M) (H + I) := by
  have h0 := h.1
  have g0 := g.1
  refine ⟨by omega, ?_⟩
  rw [Int.natAbs_mul, show (e + f + ((L + M : Nat) : Int)).toNat = (e + L).toNat + (f + M).toNat by omega, Nat.pow_add, show H + I + (L + M) = (H + L) + (I + M) by omega, PB_add]
  have h1 := h.2
  have h2 := g.2
  generalize 2 ^ (e + (L : Int)).toNat = p at *
  generalize 2 ^ (f + (M : Int)).toNat = q at *
  have : x.natAbs * y.natAbs * (p * q) = (x.natAbs * p) * (y.natAbs * q) := by simp [Nat.mul_assoc, Nat.mul_comm, Nat.mul_left_comm]
  rw [this]
  exact Nat.mul_lt_mul'' h1 h2

set_option maxRecDepth 100000 in
set_option maxHeartbeats 4000000 in
/-- Both together. -/
theorem dadd_any {va vb : Value} {x y : Rat} {w : World} {L H : Nat} (hT : Tab w) (ha : IsD w va x L H) (hb : IsD w vb y L H) (hLH : H + 1 + L ≤ 16384) (q : Rat) (hq : x + y = q) :
    Calls Tryd.prog 13 #[va, vb] w fun e w' => (∃ u, e = .returned (.tuple #[u, .int .i64 0]) ∧ IsD w' u q L (H + 1)) ∧ Below w.heap.size w w' := by
  obtain ⟨b1, p1, l1, K1, m1, e1, rfl, h1, n1, d1⟩ := ha
  obtain ⟨b2, p2, l2, K2, m2, e2, rfl, h2, n2, d2⟩ := hb
  obtain ⟨X, Y, f, hb, hX, hY, CA⟩ := dalign_any (p1 := p1) (p2 := p2) (l1 := l1) (l2 := l2) (K1 := K1) (K2 := K2) h1 h2 d1.out d2.out (by omega)
  obtain ⟨Z, hZ⟩ : ∃ Z, X + Y = Z := ⟨_, rfl⟩
  have hZb : ZF Z f L (H + 1) := by rw [← hZ]; exact hb.1.add hb.2
  have hq2 : dq Z f = q := by rw [← hq, hX, hY, dq_add, hZ]
  have HA := Lib.hid CA
  have HD := Lib.hid (And.intro hT (And.intro hZ (And.intro hZb (And.intro hq2 (And.intro hLH (And.intro (hb.1.max (by omega)) (hb.2.max (by omega))))))))
  clear hT hq hb hX hY CA hZ hZb hq2 hLH
  have S := (((St.start w).alloc 27 [.bool b1, .slice p1 l1 K1, .int .i64 e1] (w.heap.size)).alloc 27 [.bool b2, .slice p2 l2 K2, .int .i64 e2] (w.heap.size + 1)).alloc 27 [.bool false, .slice none 0 0, .int .i64 0] (w.heap.size + 1 + 1)
  simp only [List.cons_append, List.nil_append] at S
  replace n1 := n1.hold S.hold
  replace n2 := n2.hold S.hold
  have c0_0 := S.c 0 0 rfl rfl
  have c0_1 := S.c 0 1 rfl rfl
  have c0_2 := S.c 0 2 rfl rfl
  have c1_0 := S.c 1 0 rfl rfl
  have c1_1 := S.c 1 1 rfl rfl
  have c1_2 := S.c 1 2 rfl rfl
  have c2_0 := S.c 2 0 rfl rfl
  have c2_1 := S.c 2 1 rfl rfl
  have c2_2 := S.c 2 2 rfl rfl
  go_enter Tryd.func13, Tryd.ntmps13
  go_wp2_with fail
  clear c0_0 c0_1 c0_2 c1_0 c1_1 c1_2 c2_0 c2_1 c2_2
  refine (S.call (HA.out _ n1 n2)).mono ?_
  clear S
  rintro e w1 ⟨⟨_, _, rfl, ⟨pa, la, Ka, rfl, na⟩, ⟨pb, lb, Kb, rfl, nb⟩⟩, S, H⟩
  replace n1 := n1.hold H
  replace n2 := n2.hold H
  clear H
  have c0_0 := S.c 0 0 rfl rfl
  have c0_1 := S.c 0 1 rfl rfl
  have c0_2 := S.c 0 2 rfl rfl
  have c1_0 := S.c 1 0 rfl rfl
  have c1_1 := S.c 1 1 rfl rfl
  have c1_2 := S.c 1 2 rfl rfl
  have c2_0 := S.c 2 0 rfl rfl
  have c2_1 := S.c 2 1 rfl rfl
  have c2_2 := S.c 2 2 rfl rfl
  have H := S.hnew 25 [.bool (negB X), .slice pa la Ka]
  replace S := S.alloc 25 [.bool (negB X), .slice pa la Ka] (w1.heap.size)
  simp only [List.cons_append, List.nil_append] at S
  replace n1 := n1.hold H
  replace n2 := n2.hold H
  replace na := na.hold H
  replace nb := nb.hold H
  clear H
  have H := S.hnew 25 [.bool (negB Y), .slice pb lb Kb]
  replace S := S.alloc 25 [.bool (negB Y), .slice pb lb Kb] (w1.heap.size + 1)
  simp only [List.cons_append, List.nil_append] at S
  replace n1 := n1.hold H
  replace n2 := n2.hold H
  replace na := na.hold H
  replace nb := nb.hold H
  clear H
  clear c0_0 c0_1 c0_2 c1_0 c1_1 c1_2 c2_0 c2_1 c2_2
  have c0_0 := S.c 0 0 rfl rfl
  have c0_1 := S.c 0 1 rfl rfl
  have c0_2 := S.c 0 2 rfl rfl
  have c1_0 := S.c 1 0 rfl rfl
  have c1_1 := S.c 1 1 rfl rfl
  have c1_2 := S.c 1 2 rfl rfl
  have c2_0 := S.c 2 0 rfl rfl
  have c2_1 := S.c 2 1 rfl rfl
  have c2_2 := S.c 2 2 rfl rfl
  have c3_0 := S.c 3 0 rfl rfl
  have c3_1 := S.c 3 1 rfl rfl
  have c4_0 := S.c 4 0 rfl rfl
  have c4_1 := S.c 4 1 rfl rfl
  go_wp2_with fail
  clear c0_0 c0_1 c0_2 c1_0 c1_1 c1_2 c2_0 c2_1 c2_2 c3_0 c3_1 c4_0 c4_1
  refine (S.call (wadd_to ⟨_, _, _, rfl, na⟩ ⟨_, _, _, rfl, nb⟩ HD.out.2.2.2.2.2.1 HD.out.2.2.2.2.2.2 Z HD.out.2.1 (HD.out.2.2.1.max HD.out.2.2.2.2.1))).mono ?_
  clear S
  rintro e w2 ⟨⟨_, rfl, pz, lz, Kz, rfl, nz⟩, S, H⟩
  replace n1 := n1.hold H
  replace n2 := n2.hold H
  replace na := na.hold H
  replace nb := nb.hold H
  clear H
  have c0_0 := S.c 0 0 rfl rfl
  have c0_1 := S.c 0 1 rfl rfl
  have c0_2 := S.c 0 2 rfl rfl
  have c1_0 := S.c 1 0 rfl rfl
  have c1_1 := S.c 1 1 rfl rfl
  have c1_2 := S.c 1 2 rfl rfl
  have c2_0 := S.c 2 0 rfl rfl
  have c2_1 := S.c 2 1 rfl rfl
  have c2_2 := S.c 2 2 rfl rfl
  have c3_0 := S.c 3 0 rfl rfl
  have c3_1 := S.c 3 1 rfl rfl
  have c4_0 := S.c 4 0 rfl rfl
  have c4_1 := S.c 4 1 rfl rfl
  have H := S.hnew 25 [.bool (negB Z), .slice pz lz Kz]
  replace S := S.alloc 25 [.bool (negB Z), .slice pz lz Kz] (w2.heap.size)
  simp only [List.cons_append, List.nil_append] at S
  replace n1 := n1.hold H
  replace n2 := n2.hold H
  replace na := na.hold H
  replace nb := nb.hold H
  replace nz := nz.hold H
  clear H
  clear c0_0 c0_1 c0_2 c1_0 c1_1 c1_2 c2_0 c2_1 c2_2 c3_0 c3_1 c4_0 c4_1
  have c0_0 := S.c 0 0 rfl rfl
  have c0_1 := S.c 0 1 rfl rfl
  have c0_2 := S.c 0 2 rfl rfl
  have c1_0 := S.c 1 0 rfl rfl
  have c1_1 := S.c 1 1 rfl rfl
  have c1_2 := S.c 1 2 rfl rfl
  have c2_0 := S.c 2 0 rfl rfl
  have c2_1 := S.c 2 1 rfl rfl
  have c2_2 := S.c 2 2 rfl rfl
  have c3_0 := S.c 3 0 rfl rfl
  have c3_1 := S.c 3 1 rfl rfl
  have c4_0 := S.c 4 0 rfl rfl
  have c4_1 := S.c 4 1 rfl rfl
  have c5_0 := S.c 5 0 rfl rfl
  have c5_1 := S.c 5 1 rfl rfl
  go_wp2_with fail
  clear c0_0 c0_1 c0_2 c1_0 c1_1 c1_2 c2_0 c2_1 c2_2 c3_0 c3_1 c4_0 c4_1 c5_0 c5_1
  refine (S.call (dtimes_any (HD.out.1.below S.below) ⟨_, _, _, rfl, nz⟩ HD.out.2.2.1 HD.out.2.2.2.2.1 q HD.out.2.2.2.1)).mono ?_
  clear S
  rintro e w3 ⟨⟨_, rfl, b3, p3, l3, K3, m3, e3, rfl, h3, n3, d3⟩, S, H⟩
  replace n1 := n1.hold H
  replace n2 := n2.hold H
  replace na := na.hold H
  replace nb := nb.hold H
  replace nz := nz.hold H
  clear H
  have c0_0 := S.c 0 0 rfl rfl
  have c0_1 := S.c 0 1 rfl rfl
  have c0_2 := S.c 0 2 rfl rfl
  have c1_0 := S.c 1 0 rfl rfl
  have c1_1 := S.c 1 1 rfl rfl
  have c1_2 := S.c 1 2 rfl rfl
  have c2_0 := S.c 2 0 rfl rfl
  have c2_1 := S.c 2 1 rfl rfl
  have c2_2 := S.c 2 2 rfl rfl
  have c3_0 := S.c 3 0 rfl rfl
  have c3_1 := S.c 3 1 rfl rfl
  have c4_0 := S.c 4 0 rfl rfl
  have c4_1 := S.c 4 1 rfl rfl
  have c5_0 := S.c 5 0 rfl rfl
  have c5_1 := S.c 5 1 rfl rfl
  have f2_0 := S.f 2 0 rfl
  have H := S.hset 2 0 (.bool b3) rfl rfl (by intro q n e; cases e)
  replace S := S.set 2 0 (.bool b3) rfl
  replace n1 := n1.hold H
  replace n2 := n2.hold H
  replace na := na.hold H
  replace nb := nb.hold H
  replace nz := nz.hold H
  replace n3 := n3.hold H
  clear H
  have f2_1 := S.f 2 1 rfl
  have H := S.hset 2 1 (.slice p3 l3 K3) rfl rfl (by intro q n e; cases e)
  replace S := S.set 2 1 (.slice p3 l3 K3) rfl
  replace n1 := n1.hold H
  replace n2 := n2.hold H
  replace na := na.hold H
  replace nb := nb.hold H
  replace nz := nz.hold H
  replace n3 := n3.hold H
  clear H
  have f2_2 := S.f 2 2 rfl
  have H := S.hset32 2 2 (.int .i64 e3) rfl rfl (by intro n e; cases e)
  replace S := S.set 2 2 (.int .i64 e3) rfl
  replace n1 := n1.hold32 H
  replace n2 := n2.hold32 H
  replace na := na.hold32 H
  replace nb := nb.hold32 H
  replace nz := nz.hold32 H
  replace n3 := n3.hold32 H
  clear H
  go_wp2_with fail
  have d2_0 := S.c 2 0 rfl rfl
  have d2_1 := S.c 2 1 rfl rfl
  have d2_2 := S.c 2 2 rfl rfl
  exact bodyPost_ret (v := .tuple #[.agg #[.bool b3, .slice p3 l3 K3, .int .i64 e3], .int .i64 0]) (by simp [results, Tryd.f13, go_sem, d2_0, d2_1, d2_2]) rfl (⟨⟨_, rfl, b3, p3, l3, K3, m3, e3, rfl, h3, n3, d3⟩, S.below⟩)

set_option maxRecDepth 100000 in
set_option maxHeartbeats 4000000 in
/-- The first one less the second one. -/
theorem dsub_any {va vb : Value} {x y : Rat} {w : World} {L H : Nat} (hT : Tab w) (ha : IsD w va x L H) (hb : IsD w vb y L H) (hLH : H + 1 + L ≤ 16384) (q : Rat) (hq : x - y = q) :
    Calls Tryd.prog 15 #[va, vb] w fun e w' => (∃ u, e = .returned (.tuple #[u, .int .i64 0]) ∧ IsD w' u q L (H + 1)) ∧ Below w.heap.size w w' := by
  obtain ⟨b1, p1, l1, K1, m1, e1, rfl, h1, n1, d1⟩ := ha
  obtain ⟨b2, p2, l2, K2, m2, e2, rfl, h2, n2, d2⟩ := hb
  have hq2 : x + -y = q := by rw [← hq, Rat.sub_eq_add_neg]
  have HD := Lib.hid (And.intro hT (And.intro hLH hq2))
  have HK := Lib.hid (show H + L ≤ 16384 by omega)
  clear hT hLH hq hq2
  have S := (((St.start w).alloc 27 [.bool b1, .slice p1 l1 K1, .int .i64 e1] (w.heap.size)).alloc 27 [.bool b2, .slice p2 l2 K2, .int .i64 e2] (w.heap.size + 1)).alloc 27 [.bool false, .slice none 0 0, .int .i64 0] (w.heap.size + 1 + 1)
  simp only [List.cons_append, List.nil_append] at S
  replace n1 := n1.hold S.hold
  replace n2 := n2.hold S.hold
  have c0_0 := S.c 0 0 rfl rfl
  have c0_1 := S.c 0 1 rfl rfl
  have c0_2 := S.c 0 2 rfl rfl
  have c1_0 := S.c 1 0 rfl rfl
  have c1_1 := S.c 1 1 rfl rfl
  have c1_2 := S.c 1 2 rfl rfl
  have c2_0 := S.c 2 0 rfl rfl
  have c2_1 := S.c 2 1 rfl rfl
  have c2_2 := S.c 2 2 rfl rfl
  go_enter Tryd.func15, Tryd.ntmps15
  go_upto_region 1 with fail
  clear c0_0 c0_1 c0_2 c1_0 c1_1 c1_2 c2_0 c2_1 c2_2
  generalize (((w.alloc (.cells #[.bool b1, .slice p1 l1 K1, .int .i64 e1] 27)).alloc (.cells #[.bool b2, .slice p2 l2 K2, .int .i64 e2] 27)).alloc (.cells #[.bool false, .slice none 0 0, .int .i64 0] 27)) = w1 at S n1 n2 ⊢
  have HH := (Hold.drew w1).to32
  replace n1 := n1.hold32 HH
  replace n2 := n2.hold32 HH
  replace S := S.drew
  refine wp_region_held_drew (S := fun W => W.cell? ⟨w.heap.size, 0, none⟩ = some (.bool b1) ∧ W.cell? ⟨w.heap.size, 1, none⟩ = some (.slice p1 l1 K1) ∧ W.cell? ⟨w.heap.size, 2, none⟩ = some (.int .i64 e1) ∧ W.cell? ⟨w.heap.size + 1, 0, none⟩ = some (.bool b2) ∧ W.cell? ⟨w.heap.size + 1, 1, none⟩ = some (.slice p2 l2 K2) ∧ W.cell? ⟨w.heap.size + 1, 2, none⟩ = some (.int .i64 e2)) (by kernel_rfl) ⟨S.c 0 0 rfl rfl, S.c 0 1 rfl rfl, S.c 0 2 rfl rfl, S.c 1 0 rfl rfl, S.c 1 1 rfl rfl, S.c 1 2 rfl rfl⟩ (fun hS => ?_)
  generalize w1.drew = w2 at S n1 n2 HH hS ⊢
  refine wpAnyH_take (i := 0) (v := ?_) ((List.getElem?_toArray ..).trans rfl) (by kernel_rfl) (by kernel_rfl) (by kernel_rfl) (fun _ _ _ h => h) (Or.inl ⟨rfl, fun W hW => ?_⟩) hS ?_
  rotate_left
  · obtain ⟨hW0, hW1, hW2, hW3, hW4, hW5⟩ := hW; go_simp; try first | rfl | (rw [if_neg (by first | omega | (simp only [ByteArray.size_append]; first | omega | (have h1 : (ByteArray.mk #[47]).size = 1 := rfl; omega)))]; try rfl) | kernel_rfl
  try simp only [Act.put, List.setIfInBounds_toArray, List.set_cons_zero, List.set_cons_succ]
  refine wpAnyH_take (i := 1) (v := ?_) ((List.getElem?_toArray ..).trans rfl) (by kernel_rfl) (by kernel_rfl) (by kernel_rfl) (fun _ _ _ h => h) (Or.inl ⟨rfl, fun W hW => ?_⟩) hS ?_
  rotate_left
  · obtain ⟨hW0, hW1, hW2, hW3, hW4, hW5⟩ := hW; go_simp; try first | rfl | (rw [if_neg (by first | omega | (simp only [ByteArray.size_append]; first | omega | (have h1 : (ByteArray.mk #[47]).size = 1 := rfl; omega)))]; try rfl) | kernel_rfl
  try simp only [Act.put, List.setIfInBounds_toArray, List.set_cons_zero, List.set_cons_succ]
  refine wpAnyH_ready (rs := [2]) (by kernel_rfl) (by simp) (AllReadyH.cons ((List.getElem?_toArray ..).trans rfl) (fun KK hKK => ?_) AllReadyH.nil)
  go_simp
  clear hS
  refine (S.call (dneg_any ⟨b2, p2, l2, K2, m2, e2, rfl, h2, n2, d2⟩ HK.out)).mono ?_
  clear S
  rintro e w3 ⟨⟨_, rfl, b4, p4, l4, K4, m4, e4, rfl, h4, n4, d4⟩, S, H⟩
  replace n1 := n1.hold H
  replace n2 := n2.hold H
  replace HH := HH.trans H.to32
  clear H
  go_wp2_with fail
  refine hKK.out _ _ ⟨S.c 0 0 rfl rfl, S.c 0 1 rfl rfl, S.c 0 2 rfl rfl, S.c 1 0 rfl rfl, S.c 1 1 rfl rfl, S.c 1 2 rfl rfl⟩ (fun hS => ?_)
  clear hKK KK
  try simp only [Act.put, List.setIfInBounds_toArray, List.set_cons_zero, List.set_cons_succ]
  refine wpAnyH_ready (rs := [3]) (by kernel_rfl) (by simp) (AllReadyH.cons ((List.getElem?_toArray ..).trans rfl) (fun KK hKK => ?_) AllReadyH.nil)
  go_simp
  clear hS
  refine (S.call (dadd_any (HD.out.1.below S.below) ⟨b1, p1, l1, K1, m1, e1, rfl, h1, n1, d1⟩ ⟨b4, p4, l4, K4, m4, e4, rfl, h4, n4, d4⟩ HD.out.2.1 q HD.out.2.2)).mono ?_
  clear S
  rintro e w4 ⟨⟨_, rfl, b3, p3, l3, K3, m3, e3, rfl, h3, n3, d3⟩, S, H⟩
  replace n1 := n1.hold H
  replace n2 := n2.hold H
  replace n4 := n4.hold H
  replace HH := HH.trans H.to32
  clear H
  go_wp2_with fail
  refine hKK.out _ _ ⟨S.c 0 0 rfl rfl, S.c 0 1 rfl rfl, S.c 0 2 rfl rfl, S.c 1 0 rfl rfl, S.c 1 1 rfl rfl, S.c 1 2 rfl rfl⟩ (fun hS => ?_)
  clear hKK KK
  try simp only [Act.put, List.setIfInBounds_toArray, List.set_cons_zero, List.set_cons_succ]
  refine wpAnyH_take (i := 4) (v := ?_) ((List.getElem?_toArray ..).trans rfl) (by kernel_rfl) (by kernel_rfl) (by kernel_rfl) (fun _ _ _ h => h) (Or.inl ⟨rfl, fun W hW => ?_⟩) hS ?_
  rotate_left
  · obtain ⟨hW0, hW1, hW2, hW3, hW4, hW5⟩ := hW; go_simp; try first | rfl | (rw [if_neg (by first | omega | (simp only [ByteArray.size_append]; first | omega | (have h1 : (ByteArray.mk #[47]).size = 1 := rfl; omega)))]; try rfl) | kernel_rfl
  try simp only [Act.put, List.setIfInBounds_toArray, List.set_cons_zero, List.set_cons_succ]
  refine wpAnyH_take (i := 5) (v := ?_) ((List.getElem?_toArray ..).trans rfl) (by kernel_rfl) (by kernel_rfl) (by kernel_rfl) (fun _ _ _ h => h) (Or.inl ⟨rfl, fun W hW => ?_⟩) hS ?_
  rotate_left
  · obtain ⟨hW0, hW1, hW2, hW3, hW4, hW5⟩ := hW; go_simp; try first | rfl | (rw [if_neg (by first | omega | (simp only [ByteArray.size_append]; first | omega | (have h1 : (ByteArray.mk #[47]).size = 1 := rfl; omega)))]; try rfl) | kernel_rfl
  try simp only [Act.put, List.setIfInBounds_toArray, List.set_cons_zero, List.set_cons_succ]
  refine wpAnyH_ready (rs := [6]) (by kernel_rfl) (by simp) (AllReadyH.cons ((List.getElem?_toArray ..).trans rfl) (fun KK hKK => ?_) AllReadyH.nil)
  have c0 := S.c 2 0 rfl rfl
  have f0 := S.f 2 0 rfl
  have c1 := S.c 2 1 rfl rfl
  have f1 := S.f 2 1 rfl
  have c2 := S.c 2 2 rfl rfl
  have f2 := S.f 2 2 rfl
  go_simp
  clear hS c0 f0 c1 f1 c2 f2
  have H := S.hset 2 0 (.bool b3) rfl rfl (by intro q n e; cases e)
  replace S := S.set 2 0 (.bool b3) rfl
  replace n1 := n1.hold H
  replace n2 := n2.hold H
  replace n4 := n4.hold H
  replace n3 := n3.hold H
  replace HH := HH.trans H.to32
  clear H
  have H := S.hset 2 1 (.slice p3 l3 K3) rfl rfl (by intro q n e; cases e)
  replace S := S.set 2 1 (.slice p3 l3 K3) rfl
  replace n1 := n1.hold H
  replace n2 := n2.hold H
  replace n4 := n4.hold H
  replace n3 := n3.hold H
  replace HH := HH.trans H.to32
  clear H
  have H := S.hset32 2 2 (.int .i64 e3) rfl rfl (by intro n e; cases e)
  replace S := S.set 2 2 (.int .i64 e3) rfl
  replace n1 := n1.hold32 H
  replace n2 := n2.hold32 H
  replace n4 := n4.hold32 H
  replace n3 := n3.hold32 H
  replace HH := HH.trans H
  clear H
  refine hKK.out _ _ ⟨S.c 0 0 rfl rfl, S.c 0 1 rfl rfl, S.c 0 2 rfl rfl, S.c 1 0 rfl rfl, S.c 1 1 rfl rfl, S.c 1 2 rfl rfl⟩ (fun hS => ?_)
  generalize (((w4.setCell ⟨w.heap.size + 1 + 1, 0, none⟩ (.bool b3)).setCell ⟨w.heap.size + 1 + 1, 1, none⟩ (.slice p3 l3 K3)).setCell ⟨w.heap.size + 1 + 1, 2, none⟩ (.int .i64 e3)) = w5 at S n1 n2 n4 n3 HH hS ⊢
  clear hKK KK
  try simp only [Act.put, List.setIfInBounds_toArray, List.set_cons_zero, List.set_cons_succ]
  refine wpAnyH_ready (rs := [7]) (by kernel_rfl) (by simp) (AllReadyH.cons ((List.getElem?_toArray ..).trans rfl) (fun KK hKK => ?_) AllReadyH.nil)
  go_simp
  refine hKK.out _ _ hS (fun hS => ?_)
  clear hKK KK
  try simp only [Act.put, List.setIfInBounds_toArray, List.set_cons_zero, List.set_cons_succ]
  refine wpAnyH_done (by kernel_rfl) ?_ _
  clear hS HH
  have c0_0 := S.c 0 0 rfl rfl
  have c0_1 := S.c 0 1 rfl rfl
  have c0_2 := S.c 0 2 rfl rfl
  have c1_0 := S.c 1 0 rfl rfl
  have c1_1 := S.c 1 1 rfl rfl
  have c1_2 := S.c 1 2 rfl rfl
  have c2_0 := S.c 2 0 rfl rfl
  have c2_1 := S.c 2 1 rfl rfl
  have c2_2 := S.c 2 2 rfl rfl
  go_wp2_with fail
  have d2_0 := S.c 2 0 rfl rfl
  have d2_1 := S.c 2 1 rfl rfl
  have d2_2 := S.c 2 2 rfl rfl
  exact bodyPost_ret (v := .tuple #[.agg #[.bool b3, .slice p3 l3 K3, .int .i64 e3], .int .i64 0]) (by simp [results, Tryd.f15, go_sem, d2_0, d2_1, d2_2]) rfl (⟨⟨_, rfl, b3, p3, l3, K3, m3, e3, rfl, h3, n3, d3⟩, S.below⟩)

set_option maxRecDepth 100000 in
set_option maxHeartbeats 4000000 in
/-- One times the other. -/
theorem dmul_any {va vb : Value} {x y : Rat} {w : World} {L H M I : Nat} (hT : Tab w) (ha : IsD w va x L H) (hb : IsD w vb y M I) (hLH : H + I + (L + M) ≤ 16384) (q : Rat) (hq : x * y = q) :
    Calls Tryd.prog 17 #[va, vb] w fun e w' => (∃ u, e = .returned (.tuple #[u, .int .i64 0]) ∧ IsD w' u q (L + M) (H + I)) ∧ Below w.heap.size w w' := by
  obtain ⟨b1, p1, l1, K1, m1, e1, rfl, h1, n1, d1⟩ := ha
  obtain ⟨b2, p2, l2, K2, m2, e2, rfl, h2, n2, d2⟩ := hb
  have g1 := d1.out.exp
  have g2 := d2.out.exp
  obtain ⟨Z, hZ⟩ : ∃ Z, m1 * m2 = Z := ⟨_, rfl⟩
  obtain ⟨f, hf⟩ : ∃ f, e1 + e2 = f := ⟨_, rfl⟩
  have hZb : ZF Z f (L + M) (H + I) := by rw [← hZ, ← hf]; exact d1.out.2.1.mul d2.out.2.1
  have hwr : IntKind.i64.wrap (e1 + e2) = f := by rw [wrap_int (by omega) (by omega), hf]
  have hq2 : dq Z f = q := by rw [← hq, ← d1.out.2.2, ← d2.out.2.2, dq_mul, hZ, hf]
  have HD := Lib.hid (And.intro hT (And.intro hZ (And.intro hZb (And.intro hq2 (And.intro hLH (And.intro (d1.out.max (by omega)) (d2.out.max (by omega))))))))
  clear hT hq g1 g2 hZ hZb hf hq2 hLH
  have S := (((St.start w).alloc 27 [.bool b1, .slice p1 l1 K1, .int .i64 e1] (w.heap.size)).alloc 27 [.bool b2, .slice p2 l2 K2, .int .i64 e2] (w.heap.size + 1)).alloc 27 [.bool false, .slice none 0 0, .int .i64 0] (w.heap.size + 1 + 1)
  simp only [List.cons_append, List.nil_append] at S
  replace n1 := n1.hold S.hold
  replace n2 := n2.hold S.hold
  have c0_0 := S.c 0 0 rfl rfl
  have c0_1 := S.c 0 1 rfl rfl
  have c0_2 := S.c 0 2 rfl rfl
  have c1_0 := S.c 1 0 rfl rfl
  have c1_1 := S.c 1 1 rfl rfl
  have c1_2 := S.c 1 2 rfl rfl
  have c2_0 := S.c 2 0 rfl rfl
  have c2_1 := S.c 2 1 rfl rfl
  have c2_2 := S.c 2 2 rfl rfl
  go_enter Tryd.func17, Tryd.ntmps17
  go_wp2_with fail
  clear c0_0 c0_1 c0_2 c1_0 c1_1 c1_2 c2_0 c2_1 c2_2
  refine (S.call (wmul_to ⟨_, _, _, by rw [h1.out], n1⟩ ⟨_, _, _, by rw [h2.out], n2⟩ HD.out.2.2.2.2.2.1 HD.out.2.2.2.2.2.2 Z HD.out.2.1 (HD.out.2.2.1.max HD.out.2.2.2.2.1))).mono ?_
  clear S
  rintro e w1 ⟨⟨_, rfl, pz, lz, Kz, rfl, nz⟩, S, H⟩
  replace n1 := n1.hold H
  replace n2 := n2.hold H
  clear H
  have c0_0 := S.c 0 0 rfl rfl
  have c0_1 := S.c 0 1 rfl rfl
  have c0_2 := S.c 0 2 rfl rfl
  have c1_0 := S.c 1 0 rfl rfl
  have c1_1 := S.c 1 1 rfl rfl
  have c1_2 := S.c 1 2 rfl rfl
  have c2_0 := S.c 2 0 rfl rfl
  have c2_1 := S.c 2 1 rfl rfl
  have c2_2 := S.c 2 2 rfl rfl
  have H := S.hnew 25 [.bool (negB Z), .slice pz lz Kz]
  replace S := S.alloc 25 [.bool (negB Z), .slice pz lz Kz] (w1.heap.size)
  simp only [List.cons_append, List.nil_append] at S
  replace n1 := n1.hold H
  replace n2 := n2.hold H
  replace nz := nz.hold H
  clear H
  clear c0_0 c0_1 c0_2 c1_0 c1_1 c1_2 c2_0 c2_1 c2_2
  have c0_0 := S.c 0 0 rfl rfl
  have c0_1 := S.c 0 1 rfl rfl
  have c0_2 := S.c 0 2 rfl rfl
  have c1_0 := S.c 1 0 rfl rfl
  have c1_1 := S.c 1 1 rfl rfl
  have c1_2 := S.c 1 2 rfl rfl
  have c2_0 := S.c 2 0 rfl rfl
  have c2_1 := S.c 2 1 rfl rfl
  have c2_2 := S.c 2 2 rfl rfl
  have c3_0 := S.c 3 0 rfl rfl
  have c3_1 := S.c 3 1 rfl rfl
  go_wp2_with fail
  clear c0_0 c0_1 c0_2 c1_0 c1_1 c1_2 c2_0 c2_1 c2_2 c3_0 c3_1
  refine (S.call (dtimes_any (HD.out.1.below S.below) ⟨_, _, _, rfl, nz⟩ HD.out.2.2.1 HD.out.2.2.2.2.1 q HD.out.2.2.2.1)).mono ?_
  clear S
  rintro e w2 ⟨⟨_, rfl, b3, p3, l3, K3, m3, e3, rfl, h3, n3, d3⟩, S, H⟩
  replace n1 := n1.hold H
  replace n2 := n2.hold H
  replace nz := nz.hold H
  clear H
  have c0_0 := S.c 0 0 rfl rfl
  have c0_1 := S.c 0 1 rfl rfl
  have c0_2 := S.c 0 2 rfl rfl
  have c1_0 := S.c 1 0 rfl rfl
  have c1_1 := S.c 1 1 rfl rfl
  have c1_2 := S.c 1 2 rfl rfl
  have c2_0 := S.c 2 0 rfl rfl
  have c2_1 := S.c 2 1 rfl rfl
  have c2_2 := S.c 2 2 rfl rfl
  have c3_0 := S.c 3 0 rfl rfl
  have c3_1 := S.c 3 1 rfl rfl
  have f2_0 := S.f 2 0 rfl
  have H := S.hset 2 0 (.bool b3) rfl rfl (by intro q n e; cases e)
  replace S := S.set 2 0 (.bool b3) rfl
  replace n1 := n1.hold H
  replace n2 := n2.hold H
  replace nz := nz.hold H
  replace n3 := n3.hold H
  clear H
  have f2_1 := S.f 2 1 rfl
  have H := S.hset 2 1 (.slice p3 l3 K3) rfl rfl (by intro q n e; cases e)
  replace S := S.set 2 1 (.slice p3 l3 K3) rfl
  replace n1 := n1.hold H
  replace n2 := n2.hold H
  replace nz := nz.hold H
  replace n3 := n3.hold H
  clear H
  have f2_2 := S.f 2 2 rfl
  have H := S.hset32 2 2 (.int .i64 e3) rfl rfl (by intro n e; cases e)
  replace S := S.set 2 2 (.int .i64 e3) rfl
  replace n1 := n1.hold32 H
  replace n2 := n2.hold32 H
  replace nz := nz.hold32 H
  replace n3 := n3.hold32 H
  clear H
  go_wp2_with fail
  have d2_0 := S.c 2 0 rfl rfl
  have d2_1 := S.c 2 1 rfl rfl
  have d2_2 := S.c 2 2 rfl rfl
  exact bodyPost_ret (v := .tuple #[.agg #[.bool b3, .slice p3 l3 K3, .int .i64 e3], .int .i64 0]) (by simp [results, Tryd.f17, go_sem, d2_0, d2_1, d2_2]) rfl (⟨⟨_, rfl, b3, p3, l3, K3, m3, e3, rfl, h3, n3, d3⟩, S.below⟩)

end Go.Proofs.YtnkmcikjeicpfaaDoor

namespace Go.Proofs.YtnkmcikjeicpfaaDoor
open Go.RowKit

theorem rb_dyad {m e : Int} {x : Rat} {L H k : Nat} (h : DyF m e x L H) (h1 : H + L ≤ 32 * k) (h2 : L + 1 ≤ 32 * k) : RB x k := by
  obtain ⟨hc, hz, hx⟩ := h
  subst hx
  have hsz := pb_nb hz.size h1
  by_cases he : 0 ≤ e
  · obtain ⟨s, hs⟩ : ∃ s : Nat, e = s := ⟨e.toNat, by omega⟩
    subst hs
    rw [dq_whole]
    have h3 : (m * ((2 ^ s : Nat) : Int)).natAbs < NB k := by
      refine pb_nb (n := H + L) ?_ h1
      rw [Int.natAbs_mul, Int.natAbs_natCast]
      refine Nat.lt_of_le_of_lt ?_ hz.2
      exact Nat.mul_le_mul_left _ (Nat.pow_le_pow_right (by decide) (by omega))
    exact ⟨h3, by show 1 < NB k; exact pb_nb (n := 1) (by rw [PB_is]; decide) (by omega)⟩
  · obtain ⟨s, hs⟩ : ∃ s : Nat, e = -(s : Int) := ⟨(-e).toNat, by omega⟩
    subst hs
    have hm : m % 2 = 1 := by rcases hc with ⟨_, h⟩ | h; omega; exact h
    obtain ⟨a, b⟩ := dq_stands hm s
    refine ⟨by rw [a]; exact hsz, ?_⟩
    rw [b]
    have h3 := hz.1
    exact pb_nb (n := s + 1) (by rw [PB_is]; exact Nat.pow_lt_pow_right (by decide) (by omega)) (by omega)

set_option maxRecDepth 100000 in
set_option maxHeartbeats 8000000 in
/-- A number as a ratio. -/
theorem dratio_any {va : Value} {x : Rat} {L H : Nat} {w : World} (ha : IsD w va x L H) (hLH : H + L + 1 ≤ 16384) :
    Calls Tryd.prog 20 #[va] w fun ev w' => (∃ u, ev = .returned (.tuple #[u, .int .i64 0]) ∧ IsRat w' u x) ∧ Below w.heap.size w w' := by
  obtain ⟨b, p, l, K, m, e, rfl, hb, nm, hd⟩ := ha
  have hmax := hd.out.max (by omega)
  by_cases he : 0 ≤ e
  · obtain ⟨s, hs⟩ : ∃ s : Nat, e = s := ⟨e.toNat, by omega⟩
    subst hs
    have hz := hd.out.2.1
    have h3 : m.natAbs * 2 ^ s < PB (H + L) := Nat.lt_of_le_of_lt (Nat.mul_le_mul_left _ (Nat.pow_le_pow_right (by decide) (by omega))) hz.2
    have hp : (2 : Int) ^ s = ((2 ^ s : Nat) : Int) := by simp
    obtain ⟨z, hz2⟩ : ∃ z, m * 2 ^ s = z := ⟨_, rfl⟩
    have hzm : z.natAbs < maxN := by rw [← hz2, hp, Int.natAbs_mul, Int.natAbs_natCast]; exact pb_max h3 (by omega)
    have hx : x = (z : Rat) := by rw [← hd.out.2.2, dq_whole, ← hz2, hp]
    have hex := hd.out.exp
    have HD := Lib.hid (And.intro hmax (And.intro hz2 (And.intro hzm (And.intro hx (And.intro (show s ≤ 9223372036854775807 by omega) (pb_max h3 (by omega)))))))
    clear hmax hz h3 hp hz2 hzm hx hLH hex
    have S := ((St.start w).alloc 27 [.bool b, .slice p l K, .int .i64 s] (w.heap.size)).alloc 45 [.bool false, .slice none 0 0, .slice none 0 0] (w.heap.size + 1)
    simp only [List.cons_append, List.nil_append] at S
    replace nm := nm.hold S.hold
    have c0_0 := S.c 0 0 rfl rfl
    have c0_1 := S.c 0 1 rfl rfl
    have c0_2 := S.c 0 2 rfl rfl
    have c1_0 := S.c 1 0 rfl rfl
    have c1_1 := S.c 1 1 rfl rfl
    have c1_2 := S.c 1 2 rfl rfl
    go_enter Tryd.func20, Tryd.ntmps20
    go_wp2_with fail
    clear c0_0 c0_1 c0_2 c1_0 c1_1 c1_2
    refine (S.call (wleft_any ⟨_, _, _, by rw [hb.out], nm⟩ HD.out.1 s HD.out.2.2.2.2.1 HD.out.2.2.2.2.2 z HD.out.2.1)).mono ?_
    clear S
    rintro e w1 ⟨⟨_, rfl, pz, lz, Kz, rfl, nz⟩, S, H⟩
    replace nm := nm.hold H
    clear H
    have c0_0 := S.c 0 0 rfl rfl
    have c0_1 := S.c 0 1 rfl rfl
    have c0_2 := S.c 0 2 rfl rfl
    have c1_0 := S.c 1 0 rfl rfl
    have c1_1 := S.c 1 1 rfl rfl
    have c1_2 := S.c 1 2 rfl rfl
    have H := S.hnew 25 [.bool (negB z), .slice pz lz Kz]
    replace S := S.alloc 25 [.bool (negB z), .slice pz lz Kz] (w1.heap.size)
    simp only [List.cons_append, List.nil_append] at S
    replace nm := nm.hold H
    replace nz := nz.hold H
    clear H
    clear c0_0 c0_1 c0_2 c1_0 c1_1 c1_2
    have c0_0 := S.c 0 0 rfl rfl
    have c0_1 := S.c 0 1 rfl rfl
    have c0_2 := S.c 0 2 rfl rfl
    have c1_0 := S.c 1 0 rfl rfl
    have c1_1 := S.c 1 1 rfl rfl
    have c1_2 := S.c 1 2 rfl rfl
    have c2_0 := S.c 2 0 rfl rfl
    have c2_1 := S.c 2 1 rfl rfl
    go_wp2_with fail
    clear c0_0 c0_1 c0_2 c1_0 c1_1 c1_2 c2_0 c2_1
    refine (S.call (rwhole_any ⟨_, _, _, rfl, nz⟩ HD.out.2.2.1 x HD.out.2.2.2.1)).mono ?_
    clear S
    rintro e w2 ⟨⟨_, rfl, b3, p3, l3, K3, q3, j3, J3, rfl, h3, n3, d3⟩, S, H⟩
    replace nm := nm.hold H
    replace nz := nz.hold H
    clear H
    have c0_0 := S.c 0 0 rfl rfl
    have c0_1 := S.c 0 1 rfl rfl
    have c0_2 := S.c 0 2 rfl rfl
    have c1_0 := S.c 1 0 rfl rfl
    have c1_1 := S.c 1 1 rfl rfl
    have c1_2 := S.c 1 2 rfl rfl
    have c2_0 := S.c 2 0 rfl rfl
    have c2_1 := S.c 2 1 rfl rfl
    have f1_0 := S.f 1 0 rfl
    have H := S.hset 1 0 (.bool b3) rfl rfl (by intro q n e; cases e)
    replace S := S.set 1 0 (.bool b3) rfl
    replace nm := nm.hold H
    replace nz := nz.hold H
    replace n3 := n3.hold H
    replace d3 := d3.hold H
    clear H
    have f1_1 := S.f 1 1 rfl
    have H := S.hset 1 1 (.slice p3 l3 K3) rfl rfl (by intro q n e; cases e)
    replace S := S.set 1 1 (.slice p3 l3 K3) rfl
    replace nm := nm.hold H
    replace nz := nz.hold H
    replace n3 := n3.hold H
    replace d3 := d3.hold H
    clear H
    have f1_2 := S.f 1 2 rfl
    have H := S.hset 1 2 (.slice q3 j3 J3) rfl rfl (by intro q n e; cases e)
    replace S := S.set 1 2 (.slice q3 j3 J3) rfl
    replace nm := nm.hold H
    replace nz := nz.hold H
    replace n3 := n3.hold H
    replace d3 := d3.hold H
    clear H
    go_wp2_with fail
    have d1_0 := S.c 1 0 rfl rfl
    have d1_1 := S.c 1 1 rfl rfl
    have d1_2 := S.c 1 2 rfl rfl
    exact bodyPost_ret (v := .tuple #[.agg #[.bool b3, .slice p3 l3 K3, .slice q3 j3 J3], .int .i64 0]) (by simp [results, Tryd.f20, go_sem, d1_0, d1_1, d1_2]) rfl (⟨⟨_, rfl, b3, p3, l3, K3, q3, j3, J3, rfl, h3, n3, d3⟩, S.below⟩)
  · obtain ⟨s, hs⟩ : ∃ s : Nat, -e = s := ⟨(-e).toNat, by omega⟩
    have hm : m % 2 = 1 := by rcases hd.out.1 with ⟨_, h⟩ | h; omega; exact h
    have hst := dq_stands hm s
    rw [show -(s : Int) = e by omega, hd.out.2.2] at hst
    have hex := hd.out.exp
    have hwr : IntKind.i64.wrap (-e) = (s : Int) := by rw [wrap_int (by omega) (by omega), hs]
    have h1s : 1 * 2 ^ s < maxN := by
      rw [Nat.one_mul]
      exact pb_max (n := s + 1) (by rw [PB_is]; exact Nat.pow_lt_pow_right (by decide) (by omega)) (by omega)
    have HD := Lib.hid (And.intro hmax (And.intro hst (And.intro (show s ≤ 9223372036854775807 by omega) h1s)))
    clear hmax hs hm hst hLH hex h1s
    have S := ((St.start w).alloc 27 [.bool b, .slice p l K, .int .i64 e] (w.heap.size)).alloc 45 [.bool false, .slice none 0 0, .slice none 0 0] (w.heap.size + 1)
    simp only [List.cons_append, List.nil_append] at S
    replace nm := nm.hold S.hold
    have c0_0 := S.c 0 0 rfl rfl
    have c0_1 := S.c 0 1 rfl rfl
    have c0_2 := S.c 0 2 rfl rfl
    have c1_0 := S.c 1 0 rfl rfl
    have c1_1 := S.c 1 1 rfl rfl
    have c1_2 := S.c 1 2 rfl rfl
    go_enter Tryd.func20, Tryd.ntmps20
    go_upto_region 4 with fail
    clear c0_0 c0_1 c0_2 c1_0 c1_1 c1_2
    replace nm := nm.hold (Hold.drew _)
    replace S := S.drew
    refine wp_region_held_drew (S := fun W => W.cell? ⟨w.heap.size, 1, none⟩ = some (.slice p l K) ∧ W.cell? ⟨w.heap.size, 2, none⟩ = some (.int .i64 e)) (by kernel_rfl) ⟨S.c 0 1 rfl rfl, S.c 0 2 rfl rfl⟩ (fun hS => ?_)
    refine wpAnyH_take (i := 1) (v := ?_) ((List.getElem?_toArray ..).trans rfl) (by kernel_rfl) (by kernel_rfl) (by kernel_rfl) (fun _ _ _ h => h) (Or.inl ⟨rfl, fun W hW => ?_⟩) hS ?_
    rotate_left
    · obtain ⟨hW0, hW1⟩ := hW; go_simp; try first | rfl | (rw [if_neg (by first | omega | (simp only [ByteArray.size_append]; first | omega | (have h1 : (ByteArray.mk #[47]).size = 1 := rfl; omega)))]; try rfl) | kernel_rfl
    try simp only [Act.put, List.setIfInBounds_toArray, List.set_cons_zero, List.set_cons_succ]
    refine wpAnyH_take (i := 2) (v := ?_) ((List.getElem?_toArray ..).trans rfl) (by kernel_rfl) (by kernel_rfl) (by kernel_rfl) (fun _ _ _ h => h) (Or.inl ⟨rfl, fun W hW => ?_⟩) hS ?_
    rotate_left
    · obtain ⟨hW0, hW1⟩ := hW; go_simp; try first | rfl | (rw [if_neg (by first | omega | (simp only [ByteArray.size_append]; first | omega | (have h1 : (ByteArray.mk #[47]).size = 1 := rfl; omega)))]; try rfl) | kernel_rfl
    try simp only [Act.put, List.setIfInBounds_toArray, List.set_cons_zero, List.set_cons_succ]
    refine wpAnyH_take (i := 3) (v := ?_) ((List.getElem?_toArray ..).trans rfl) (by kernel_rfl) (by kernel_rfl) (by kernel_rfl) (fun _ _ _ h => h) (Or.inl ⟨rfl, fun W hW => ?_⟩) hS ?_
    rotate_left
    · obtain ⟨hW0, hW1⟩ := hW; go_simp; try first | rfl | (rw [if_neg (by first | omega | (simp only [ByteArray.size_append]; first | omega | (have h1 : (ByteArray.mk #[47]).size = 1 := rfl; omega)))]; try rfl) | kernel_rfl
    try simp only [Act.put, List.setIfInBounds_toArray, List.set_cons_zero, List.set_cons_succ]
    refine wpAnyH_ready (rs := [0]) (by kernel_rfl) (by simp) (AllReadyH.cons ((List.getElem?_toArray ..).trans rfl) (fun KK hKK => ?_) AllReadyH.nil)
    go_simp
    refine (S.call (of_any 1 _ (by decide))).mono ?_; clear S; rintro e w1 ⟨⟨v1, rfl, n1⟩, S, H⟩; replace nm := nm.hold H; clear H
    go_wp2_with fail
    refine hKK.out _ _ ⟨S.c 0 1 rfl rfl, S.c 0 2 rfl rfl⟩ (fun hS => ?_)
    clear hKK KK
    try simp only [Act.put, List.setIfInBounds_toArray, List.set_cons_zero, List.set_cons_succ]
    refine wpAnyH_ready (rs := [4]) (by kernel_rfl) (by simp) (AllReadyH.cons ((List.getElem?_toArray ..).trans rfl) (fun KK hKK => ?_) AllReadyH.nil)
    go_simp
    refine (S.call (left_fit n1 (lt_maxN (by decide)) s HD.out.2.2.1 HD.out.2.2.2)).mono ?_; clear S; rintro e w2 ⟨⟨v, rfl, nv⟩, S, H⟩; replace nm := nm.hold H; replace n1 := n1.hold H; clear H
    go_wp2_with fail
    refine hKK.out _ _ ⟨S.c 0 1 rfl rfl, S.c 0 2 rfl rfl⟩ (fun hS => ?_)
    clear hKK KK
    try simp only [Act.put, List.setIfInBounds_toArray, List.set_cons_zero, List.set_cons_succ]
    refine wpAnyH_take (i := 5) (v := ?_) ((List.getElem?_toArray ..).trans rfl) (by kernel_rfl) (by kernel_rfl) (by kernel_rfl) (fun _ _ _ h => h) (Or.inl ⟨rfl, fun W hW => ?_⟩) hS ?_
    rotate_left
    · obtain ⟨hW0, hW1⟩ := hW; go_simp; try first | rfl | (rw [if_neg (by first | omega | (simp only [ByteArray.size_append]; first | omega | (have h1 : (ByteArray.mk #[47]).size = 1 := rfl; omega)))]; try rfl) | kernel_rfl
    try simp only [Act.put, List.setIfInBounds_toArray, List.set_cons_zero, List.set_cons_succ]
    refine wpAnyH_take (i := 6) (v := ?_) ((List.getElem?_toArray ..).trans rfl) (by kernel_rfl) (by kernel_rfl) (by kernel_rfl) (fun _ _ _ h => h) (Or.inl ⟨rfl, fun W hW => ?_⟩) hS ?_
    rotate_left
    · obtain ⟨hW0, hW1⟩ := hW; go_simp; try first | rfl | (rw [if_neg (by first | omega | (simp only [ByteArray.size_append]; first | omega | (have h1 : (ByteArray.mk #[47]).size = 1 := rfl; omega)))]; try rfl) | kernel_rfl
    try simp only [Act.put, List.setIfInBounds_toArray, List.set_cons_zero, List.set_cons_succ]
    refine wpAnyH_take (i := 7) (v := ?_) ((List.getElem?_toArray ..).trans rfl) (by kernel_rfl) (by kernel_rfl) (by kernel_rfl) (fun _ _ _ h => h) (Or.inl ⟨rfl, fun W hW => ?_⟩) hS ?_
    rotate_left
    · obtain ⟨hW0, hW1⟩ := hW; go_simp; try first | rfl | (rw [if_neg (by first | omega | (simp only [ByteArray.size_append]; first | omega | (have h1 : (ByteArray.mk #[47]).size = 1 := rfl; omega)))]; try rfl) | kernel_rfl
    try simp only [Act.put, List.setIfInBounds_toArray, List.set_cons_zero, List.set_cons_succ]
    refine wpAnyH_ready (rs := [8]) (by kernel_rfl) (by simp) (AllReadyH.cons ((List.getElem?_toArray ..).trans rfl) (fun KK hKK => ?_) AllReadyH.nil)
    go_simp
    refine hKK.out _ _ ⟨S.c 0 1 rfl rfl, S.c 0 2 rfl rfl⟩ (fun hS => ?_)
    clear hKK KK
    try simp only [Act.put, List.setIfInBounds_toArray, List.set_cons_zero, List.set_cons_succ]
    refine wpAnyH_ready (rs := [9]) (by kernel_rfl) (by simp) (AllReadyH.cons ((List.getElem?_toArray ..).trans rfl) (fun KK hKK => ?_) AllReadyH.nil)
    go_simp
    refine hKK.out _ _ ⟨S.c 0 1 rfl rfl, S.c 0 2 rfl rfl⟩ (fun hS => ?_)
    clear hKK KK
    try simp only [Act.put, List.setIfInBounds_toArray, List.set_cons_zero, List.set_cons_succ]
    refine wpAnyH_done (by kernel_rfl) ?_ _
    obtain ⟨pv, lv, Kv, rfl⟩ := nv.form
    have c0_0 := S.c 0 0 rfl rfl
    have c0_1 := S.c 0 1 rfl rfl
    have c0_2 := S.c 0 2 rfl rfl
    have c1_0 := S.c 1 0 rfl rfl
    have c1_1 := S.c 1 1 rfl rfl
    have c1_2 := S.c 1 2 rfl rfl
    go_upto_region 7 with fail
    clear c0_0 c0_1 c0_2 c1_0 c1_1 c1_2
    go_cut [8] (fun s8 wx => ∃ g8 pc lc Kc, s8 = .pointer (some ⟨g8, 0, none⟩) ∧ St w wx [(w.heap.size, 27, [.bool b, .slice p l K, .int .i64 e]), (w.heap.size + 1, 45, [.bool false, .slice none 0 0, .slice none 0 0]), (g8, 25, [.bool b, .slice pc lc Kc])] ∧ IsNat wx (.slice pc lc Kc) m.natAbs ∧ Hold w2 wx)
    case first =>
      have HH := Hold.drew w2
      replace nm := nm.hold HH
      replace n1 := n1.hold HH
      replace nv := nv.hold HH
      replace S := S.drew
      refine wp_region_held_drew (S := fun W => W.cell? ⟨w.heap.size, 0, none⟩ = some (.bool b) ∧ W.cell? ⟨w.heap.size, 1, none⟩ = some (.slice p l K)) (by kernel_rfl) ⟨S.c 0 0 rfl rfl, S.c 0 1 rfl rfl⟩ (fun hS => ?_)
      generalize w2.drew = w3 at S nm n1 nv HH hS ⊢
      refine wpAnyH_take (i := 0) (v := ?_) ((List.getElem?_toArray ..).trans rfl) (by kernel_rfl) (by kernel_rfl) (by kernel_rfl) (fun _ _ _ h => h) (Or.inl ⟨rfl, fun W hW => ?_⟩) hS ?_
      rotate_left
      · obtain ⟨hW0, hW1⟩ := hW; go_simp; try first | rfl | (rw [if_neg (by first | omega | (simp only [ByteArray.size_append]; first | omega | (have h1 : (ByteArray.mk #[47]).size = 1 := rfl; omega)))]; try rfl) | kernel_rfl
      try simp only [Act.put, List.setIfInBounds_toArray, List.set_cons_zero, List.set_cons_succ]
      refine wpAnyH_take (i := 1) (v := ?_) ((List.getElem?_toArray ..).trans rfl) (by kernel_rfl) (by kernel_rfl) (by kernel_rfl) (fun _ _ _ h => h) (Or.inl ⟨rfl, fun W hW => ?_⟩) hS ?_
      rotate_left
      · obtain ⟨hW0, hW1⟩ := hW; go_simp; try first | rfl | (rw [if_neg (by first | omega | (simp only [ByteArray.size_append]; first | omega | (have h1 : (ByteArray.mk #[47]).size = 1 := rfl; omega)))]; try rfl) | kernel_rfl
      try simp only [Act.put, List.setIfInBounds_toArray, List.set_cons_zero, List.set_cons_succ]
      refine wpAnyH_take (i := 2) (v := ?_) ((List.getElem?_toArray ..).trans rfl) (by kernel_rfl) (by kernel_rfl) (by kernel_rfl) (fun _ _ _ h => h) (Or.inl ⟨rfl, fun W hW => ?_⟩) hS ?_
      rotate_left
      · obtain ⟨hW0, hW1⟩ := hW; go_simp; try first | rfl | (rw [if_neg (by first | omega | (simp only [ByteArray.size_append]; first | omega | (have h1 : (ByteArray.mk #[47]).size = 1 := rfl; omega)))]; try rfl) | kernel_rfl
      try simp only [Act.put, List.setIfInBounds_toArray, List.set_cons_zero, List.set_cons_succ]
      refine wpAnyH_take (i := 3) (v := ?_) ((List.getElem?_toArray ..).trans rfl) (by kernel_rfl) (by kernel_rfl) (by kernel_rfl) (fun _ _ _ h => h) (Or.inl ⟨rfl, fun W hW => ?_⟩) hS ?_
      rotate_left
      · obtain ⟨hW0, hW1⟩ := hW; go_simp; try first | rfl | (rw [if_neg (by first | omega | (simp only [ByteArray.size_append]; first | omega | (have h1 : (ByteArray.mk #[47]).size = 1 := rfl; omega)))]; try rfl) | kernel_rfl
      try simp only [Act.put, List.setIfInBounds_toArray, List.set_cons_zero, List.set_cons_succ]
      refine wpAnyH_take (i := 4) (v := ?_) ((List.getElem?_toArray ..).trans rfl) (by kernel_rfl) (by kernel_rfl) (by kernel_rfl) (fun _ _ _ h => h) (Or.inl ⟨rfl, fun W hW => ?_⟩) hS ?_
      rotate_left
      · obtain ⟨hW0, hW1⟩ := hW; go_simp; try first | rfl | (rw [if_neg (by first | omega | (simp only [ByteArray.size_append]; first | omega | (have h1 : (ByteArray.mk #[47]).size = 1 := rfl; omega)))]; try rfl) | kernel_rfl
      try simp only [Act.put, List.setIfInBounds_toArray, List.set_cons_zero, List.set_cons_succ]
      refine wpAnyH_take (i := 5) (v := ?_) ((List.getElem?_toArray ..).trans rfl) (by kernel_rfl) (by kernel_rfl) (by kernel_rfl) (fun _ _ _ h => h) (Or.inl ⟨rfl, fun W hW => ?_⟩) hS ?_
      rotate_left
      · obtain ⟨hW0, hW1⟩ := hW; go_simp; try first | rfl | (rw [if_neg (by first | omega | (simp only [ByteArray.size_append]; first | omega | (have h1 : (ByteArray.mk #[47]).size = 1 := rfl; omega)))]; try rfl) | kernel_rfl
      try simp only [Act.put, List.setIfInBounds_toArray, List.set_cons_zero, List.set_cons_succ]
      refine wpAnyH_ready (rs := [6, 8]) (by kernel_rfl) (by simp) (AllReadyH.cons ((List.getElem?_toArray ..).trans rfl) (fun KK hKK => ?_) (AllReadyH.cons ((List.getElem?_toArray ..).trans rfl) (fun KK hKK => ?_) AllReadyH.nil))
      ·
        go_simp
        clear hS
        refine (S.call (clone_any nm HD.out.1)).mono ?_
        clear S
        rintro e w4 ⟨⟨_, rfl, nc⟩, S, H⟩
        replace nm := nm.hold H
        replace n1 := n1.hold H
        replace nv := nv.hold H
        replace HH := HH.trans H
        clear H
        obtain ⟨pc, lc, Kc, rfl⟩ := nc.form
        go_wp2_with fail
        refine hKK.out _ _ ⟨S.c 0 0 rfl rfl, S.c 0 1 rfl rfl⟩ (fun hS => ?_)
        clear hKK KK
        try simp only [Act.put, List.setIfInBounds_toArray, List.set_cons_zero, List.set_cons_succ]
        refine wpAnyH_take (i := 7) (v := ?_) ((List.getElem?_toArray ..).trans rfl) (by kernel_rfl) (by kernel_rfl) (by kernel_rfl) (fun _ _ _ h => h) (Or.inl ⟨rfl, fun W hW => ?_⟩) hS ?_
        rotate_left
        · obtain ⟨hW0, hW1⟩ := hW; go_simp; try first | rfl | (rw [if_neg (by first | omega | (simp only [ByteArray.size_append]; first | omega | (have h1 : (ByteArray.mk #[47]).size = 1 := rfl; omega)))]; try rfl) | kernel_rfl
        try simp only [Act.put, List.setIfInBounds_toArray, List.set_cons_zero, List.set_cons_succ]
        refine wpAnyH_ready (rs := [8]) (by kernel_rfl) (by simp) (AllReadyH.cons ((List.getElem?_toArray ..).trans rfl) (fun KK hKK => ?_) AllReadyH.nil)
        go_simp
        clear hS
        have H := S.hnew 25 [.bool false, .slice none 0 0]
        replace S := S.alloc 25 [.bool false, .slice none 0 0] (w4.heap.size)
        simp only [List.cons_append, List.nil_append] at S
        replace nm := nm.hold H
        replace n1 := n1.hold H
        replace nv := nv.hold H
        replace nc := nc.hold H
        replace HH := HH.trans H
        clear H
        refine hKK.out _ _ ⟨S.c 0 0 rfl rfl, S.c 0 1 rfl rfl⟩ (fun hS => ?_)
        generalize (w4.alloc (.cells #[.bool false, .slice none 0 0] 25)) = w5 at S nm n1 nv nc HH hS ⊢
        clear hKK KK
        try simp only [Act.put, List.setIfInBounds_toArray, List.set_cons_zero, List.set_cons_succ]
        refine wpAnyH_ready (rs := [9]) (by kernel_rfl) (by simp) (AllReadyH.cons ((List.getElem?_toArray ..).trans rfl) (fun KK hKK => ?_) AllReadyH.nil)
        have c0 := S.c 2 0 rfl rfl
        have f0 := S.f 2 0 rfl
        have c1 := S.c 2 1 rfl rfl
        have f1 := S.f 2 1 rfl
        go_simp
        clear hS c0 f0 c1 f1
        have H := S.hset 2 0 (.bool b) rfl rfl (by intro q n e; cases e)
        replace S := S.set 2 0 (.bool b) rfl
        replace nm := nm.hold H
        replace n1 := n1.hold H
        replace nv := nv.hold H
        replace nc := nc.hold H
        replace HH := HH.trans H
        clear H
        have H := S.hset 2 1 (.slice pc lc Kc) rfl rfl (by intro q n e; cases e)
        replace S := S.set 2 1 (.slice pc lc Kc) rfl
        replace nm := nm.hold H
        replace n1 := n1.hold H
        replace nv := nv.hold H
        replace nc := nc.hold H
        replace HH := HH.trans H
        clear H
        refine hKK.out _ _ ⟨S.c 0 0 rfl rfl, S.c 0 1 rfl rfl⟩ (fun hS => ?_)
        generalize ((w5.setCell ⟨w4.heap.size, 0, none⟩ (.bool b)).setCell ⟨w4.heap.size, 1, none⟩ (.slice pc lc Kc)) = w6 at S nm n1 nv nc HH hS ⊢
        clear hKK KK
        try simp only [Act.put, List.setIfInBounds_toArray, List.set_cons_zero, List.set_cons_succ]
        refine wpAnyH_done (by kernel_rfl) ?_ _
        go_wp2_with fail
        go_meet
        case rel => exact ⟨w4.heap.size, pc, lc, Kc, rfl, S, nc, HH⟩
      ·
        go_simp
        clear hS
        have H := S.hnew 25 [.bool false, .slice none 0 0]
        replace S := S.alloc 25 [.bool false, .slice none 0 0] (w3.heap.size)
        simp only [List.cons_append, List.nil_append] at S
        replace nm := nm.hold H
        replace n1 := n1.hold H
        replace nv := nv.hold H
        replace HH := HH.trans H
        clear H
        refine hKK.out _ _ ⟨S.c 0 0 rfl rfl, S.c 0 1 rfl rfl⟩ (fun hS => ?_)
        generalize (w3.alloc (.cells #[.bool false, .slice none 0 0] 25)) = w7 at S nm n1 nv HH hS ⊢
        clear hKK KK
        try simp only [Act.put, List.setIfInBounds_toArray, List.set_cons_zero, List.set_cons_succ]
        refine wpAnyH_ready (rs := [6]) (by kernel_rfl) (by simp) (AllReadyH.cons ((List.getElem?_toArray ..).trans rfl) (fun KK hKK => ?_) AllReadyH.nil)
        go_simp
        clear hS
        refine (S.call (clone_any nm HD.out.1)).mono ?_
        clear S
        rintro e w8 ⟨⟨_, rfl, nc⟩, S, H⟩
        replace nm := nm.hold H
        replace n1 := n1.hold H
        replace nv := nv.hold H
        replace HH := HH.trans H
        clear H
        obtain ⟨pc, lc, Kc, rfl⟩ := nc.form
        go_wp2_with fail
        refine hKK.out _ _ ⟨S.c 0 0 rfl rfl, S.c 0 1 rfl rfl⟩ (fun hS => ?_)
        clear hKK KK
        try simp only [Act.put, List.setIfInBounds_toArray, List.set_cons_zero, List.set_cons_succ]
        refine wpAnyH_take (i := 7) (v := ?_) ((List.getElem?_toArray ..).trans rfl) (by kernel_rfl) (by kernel_rfl) (by kernel_rfl) (fun _ _ _ h => h) (Or.inl ⟨rfl, fun W hW => ?_⟩) hS ?_
        rotate_left
        · obtain ⟨hW0, hW1⟩ := hW; go_simp; try first | rfl | (rw [if_neg (by first | omega | (simp only [ByteArray.size_append]; first | omega | (have h1 : (ByteArray.mk #[47]).size = 1 := rfl; omega)))]; try rfl) | kernel_rfl
        try simp only [Act.put, List.setIfInBounds_toArray, List.set_cons_zero, List.set_cons_succ]
        refine wpAnyH_ready (rs := [9]) (by kernel_rfl) (by simp) (AllReadyH.cons ((List.getElem?_toArray ..).trans rfl) (fun KK hKK => ?_) AllReadyH.nil)
        have c0 := S.c 2 0 rfl rfl
        have f0 := S.f 2 0 rfl
        have c1 := S.c 2 1 rfl rfl
        have f1 := S.f 2 1 rfl
        go_simp
        clear hS c0 f0 c1 f1
        have H := S.hset 2 0 (.bool b) rfl rfl (by intro q n e; cases e)
        replace S := S.set 2 0 (.bool b) rfl
        replace nm := nm.hold H
        replace n1 := n1.hold H
        replace nv := nv.hold H
        replace nc := nc.hold H
        replace HH := HH.trans H
        clear H
        have H := S.hset 2 1 (.slice pc lc Kc) rfl rfl (by intro q n e; cases e)
        replace S := S.set 2 1 (.slice pc lc Kc) rfl
        replace nm := nm.hold H
        replace n1 := n1.hold H
        replace nv := nv.hold H
        replace nc := nc.hold H
        replace HH := HH.trans H
        clear H
        refine hKK.out _ _ ⟨S.c 0 0 rfl rfl, S.c 0 1 rfl rfl⟩ (fun hS => ?_)
        generalize ((w8.setCell ⟨w3.heap.size, 0, none⟩ (.bool b)).setCell ⟨w3.heap.size, 1, none⟩ (.slice pc lc Kc)) = w9 at S nm n1 nv nc HH hS ⊢
        clear hKK KK
        try simp only [Act.put, List.setIfInBounds_toArray, List.set_cons_zero, List.set_cons_succ]
        refine wpAnyH_done (by kernel_rfl) ?_ _
        go_wp2_with fail
        go_meet
        case rel => exact ⟨w3.heap.size, pc, lc, Kc, rfl, S, nc, HH⟩
    case rest =>
      obtain ⟨g8, pc, lc, Kc, rfl, S, nc, HH⟩ := hcut
      obtain ⟨w10, rfl⟩ : ∃ W : World, W = wc := ⟨_, rfl⟩
      replace nm := nm.hold HH
      replace n1 := n1.hold HH
      replace nv := nv.hold HH
      clear HH
      have c0_0 := S.c 0 0 rfl rfl
      have c0_1 := S.c 0 1 rfl rfl
      have c0_2 := S.c 0 2 rfl rfl
      have c1_0 := S.c 1 0 rfl rfl
      have c1_1 := S.c 1 1 rfl rfl
      have c1_2 := S.c 1 2 rfl rfl
      have c2_0 := S.c 2 0 rfl rfl
      have c2_1 := S.c 2 1 rfl rfl
      have f1_0 := S.f 1 0 rfl
      have H := S.hset 1 0 (.bool b) rfl rfl (by intro q n e; cases e)
      replace S := S.set 1 0 (.bool b) rfl
      replace nm := nm.hold H
      replace n1 := n1.hold H
      replace nv := nv.hold H
      replace nc := nc.hold H
      clear H
      have f1_1 := S.f 1 1 rfl
      have H := S.hset 1 1 (.slice pc lc Kc) rfl rfl (by intro q n e; cases e)
      replace S := S.set 1 1 (.slice pc lc Kc) rfl
      replace nm := nm.hold H
      replace n1 := n1.hold H
      replace nv := nv.hold H
      replace nc := nc.hold H
      clear H
      have f1_2 := S.f 1 2 rfl
      have H := S.hset 1 2 (.slice pv lv Kv) rfl rfl (by intro q n e; cases e)
      replace S := S.set 1 2 (.slice pv lv Kv) rfl
      replace nm := nm.hold H
      replace n1 := n1.hold H
      replace nv := nv.hold H
      replace nc := nc.hold H
      clear H
      go_wp2_with fail
      have d1_0 := S.c 1 0 rfl rfl
      have d1_1 := S.c 1 1 rfl rfl
      have d1_2 := S.c 1 2 rfl rfl
      exact bodyPost_ret (v := .tuple #[.agg #[.bool b, .slice pc lc Kc, .slice pv lv Kv], .int .i64 0]) (by simp [results, Tryd.f20, go_sem, d1_0, d1_1, d1_2]) rfl (⟨⟨_, rfl, b, pc, lc, Kc, pv, lv, Kv, rfl, by rw [HD.out.2.1.1]; exact hb, by rw [HD.out.2.1.1]; exact nc, by rw [HD.out.2.1.2, ← Nat.one_mul (2 ^ s)]; exact nv⟩, S.below⟩)

set_option maxRecDepth 100000 in
set_option maxHeartbeats 4000000 in
/-- How a number stands to a ratio. -/
theorem dcmp_any {va vb : Value} {x y : Rat} {L H k1 k2 : Nat} {w : World} (ha : IsD w va x L H) (hb : IsRat w vb y) (hLH : H + L + 1 ≤ 16384) (hx : H + L + 1 ≤ 32 * k1) (hy : RB y k2) (hk : k1 + k2 ≤ 511) (c : Int) (hc : cmpR x y = c) :
    Calls Tryd.prog 21 #[va, vb] w fun ev w' => ev = .returned (.tuple #[.int .i64 c, .int .i64 0]) ∧ Below w.heap.size w w' := by
  obtain ⟨b, p, l, K, m, e, rfl, hb1, nm, hd⟩ := ha
  obtain ⟨b2, p2, l2, K2, q2, j2, J2, rfl, hb2, n2, d2⟩ := hb
  have HX := Lib.hid (And.intro hLH (And.intro (rb_dyad hd.out (k := k1) (by omega) (by omega)) (And.intro hy (And.intro hk hc))))
  clear hLH hx hy hk hc
  have S := ((St.start w).alloc 27 [.bool b, .slice p l K, .int .i64 e] (w.heap.size)).alloc 45 [.bool b2, .slice p2 l2 K2, .slice q2 j2 J2] (w.heap.size + 1)
  simp only [List.cons_append, List.nil_append] at S
  replace nm := nm.hold S.hold
  replace n2 := n2.hold S.hold
  replace d2 := d2.hold S.hold
  have c0_0 := S.c 0 0 rfl rfl
  have c0_1 := S.c 0 1 rfl rfl
  have c0_2 := S.c 0 2 rfl rfl
  have c1_0 := S.c 1 0 rfl rfl
  have c1_1 := S.c 1 1 rfl rfl
  have c1_2 := S.c 1 2 rfl rfl
  go_enter Tryd.func21, Tryd.ntmps21
  go_wp2_with fail
  clear c0_0 c0_1 c0_2 c1_0 c1_1 c1_2
  refine (S.call (dratio_any ⟨b, p, l, K, m, e, rfl, hb1, nm, hd⟩ HX.out.1)).mono ?_
  clear S
  rintro e w1 ⟨⟨_, rfl, b3, p3, l3, K3, q3, j3, J3, rfl, h3, n3, d3⟩, S, H⟩
  replace nm := nm.hold H
  replace n2 := n2.hold H
  replace d2 := d2.hold H
  clear H
  have c0_0 := S.c 0 0 rfl rfl
  have c0_1 := S.c 0 1 rfl rfl
  have c0_2 := S.c 0 2 rfl rfl
  have c1_0 := S.c 1 0 rfl rfl
  have c1_1 := S.c 1 1 rfl rfl
  have c1_2 := S.c 1 2 rfl rfl
  have H := S.hnew 45 [.bool b3, .slice p3 l3 K3, .slice q3 j3 J3]
  replace S := S.alloc 45 [.bool b3, .slice p3 l3 K3, .slice q3 j3 J3] (w1.heap.size)
  simp only [List.cons_append, List.nil_append] at S
  replace nm := nm.hold H
  replace n2 := n2.hold H
  replace d2 := d2.hold H
  replace n3 := n3.hold H
  replace d3 := d3.hold H
  clear H
  clear c0_0 c0_1 c0_2 c1_0 c1_1 c1_2
  have c0_0 := S.c 0 0 rfl rfl
  have c0_1 := S.c 0 1 rfl rfl
  have c0_2 := S.c 0 2 rfl rfl
  have c1_0 := S.c 1 0 rfl rfl
  have c1_1 := S.c 1 1 rfl rfl
  have c1_2 := S.c 1 2 rfl rfl
  have c2_0 := S.c 2 0 rfl rfl
  have c2_1 := S.c 2 1 rfl rfl
  have c2_2 := S.c 2 2 rfl rfl
  go_wp2_with fail
  clear c0_0 c0_1 c0_2 c1_0 c1_1 c1_2 c2_0 c2_1 c2_2
  refine (S.call (rcompare_any ⟨b3, p3, l3, K3, q3, j3, J3, rfl, h3, n3, d3⟩ ⟨b2, p2, l2, K2, q2, j2, J2, rfl, hb2, n2, d2⟩ HX.out.2.1 HX.out.2.2.1 HX.out.2.2.2.1 c HX.out.2.2.2.2)).mono ?_
  clear S
  rintro e w2 ⟨rfl, S, H⟩
  replace nm := nm.hold H
  replace n2 := n2.hold H
  replace d2 := d2.hold H
  replace n3 := n3.hold H
  replace d3 := d3.hold H
  clear H
  have c0_0 := S.c 0 0 rfl rfl
  have c0_1 := S.c 0 1 rfl rfl
  have c0_2 := S.c 0 2 rfl rfl
  have c1_0 := S.c 1 0 rfl rfl
  have c1_1 := S.c 1 1 rfl rfl
  have c1_2 := S.c 1 2 rfl rfl
  have c2_0 := S.c 2 0 rfl rfl
  have c2_1 := S.c 2 1 rfl rfl
  have c2_2 := S.c 2 2 rfl rfl
  go_wp2_with fail
  exact bodyPost_ret (v := .tuple #[.int .i64 c, .int .i64 0]) (by simp [results, Tryd.f21, go_sem]) rfl (⟨rfl, S.below⟩)

end Go.Proofs.YtnkmcikjeicpfaaDoor

namespace Go.Proofs.YtnkmcikjeicpfaaDoor
open Go.RowKit

theorem zf_small {n e : Int} (hn0 : -9223372036854775808 ≤ n) (hn1 : n ≤ 9223372036854775807) (he0 : -100 ≤ e) (he1 : e ≤ 100) : ZF n e 100 164 :=
  ZF.of (n := 64) (by rw [PB_is, show (2 : Nat) ^ 64 = 18446744073709551616 by decide]; omega) he0 (by omega)

set_option maxRecDepth 100000 in
set_option maxHeartbeats 4000000 in
theorem dof_any (n e : Int) (w : World) (hT : Tab w) (hn0 : -9223372036854775808 ≤ n) (hn1 : n ≤ 9223372036854775807) (he0 : -100 ≤ e) (he1 : e ≤ 100) (x : Rat) (hx : dq n e = x) :
    Calls Tryd.prog 16 #[.int .i64 n, .int .i64 e] w fun ev w' => (∃ u, ev = .returned u ∧ IsD w' u x 100 164) ∧ Below w.heap.size w w' := by
  have hmax : max e (-100) = e := by omega
  have hmin : min e 100 = e := by omega
  have HD := Lib.hid (And.intro hT (And.intro (zf_small hn0 hn1 he0 he1) (And.intro hx (And.intro hn0 hn1))))
  clear hT hx hn0 hn1 he0 he1
  have S := (St.start w).alloc 27 [.bool false, .slice none 0 0, .int .i64 0] (w.heap.size)
  simp only [List.nil_append] at S
  have c0_0 := S.c 0 0 rfl rfl
  have c0_1 := S.c 0 1 rfl rfl
  have c0_2 := S.c 0 2 rfl rfl
  go_enter Tryd.func16, Tryd.ntmps16
  go_wp2_with fail
  clear c0_0 c0_1 c0_2
  refine (S.call (wof_any n _ HD.out.2.2.2.1 HD.out.2.2.2.2)).mono ?_
  clear S
  rintro e w1 ⟨⟨_, rfl, p, l, K, rfl, nn⟩, S, H⟩
  clear H
  have c0_0 := S.c 0 0 rfl rfl
  have c0_1 := S.c 0 1 rfl rfl
  have c0_2 := S.c 0 2 rfl rfl
  go_wp2_with fail
  clear c0_0 c0_1 c0_2
  refine (S.call (dmake_any (HD.out.1.below S.below) ⟨_, _, _, rfl, nn⟩ HD.out.2.1 (by decide) x HD.out.2.2.1)).mono ?_
  clear S
  rintro e w2 ⟨⟨_, rfl, b3, p3, l3, K3, m3, e3, rfl, h3, n3, d3⟩, S, H⟩
  replace nn := nn.hold H
  clear H
  have c0_0 := S.c 0 0 rfl rfl
  have c0_1 := S.c 0 1 rfl rfl
  have c0_2 := S.c 0 2 rfl rfl
  have H := S.hnew 27 [.bool b3, .slice p3 l3 K3, .int .i64 e3]
  replace S := S.alloc 27 [.bool b3, .slice p3 l3 K3, .int .i64 e3] (w2.heap.size)
  simp only [List.cons_append, List.nil_append] at S
  replace nn := nn.hold H
  replace n3 := n3.hold H
  clear H
  clear c0_0 c0_1 c0_2
  have c0_0 := S.c 0 0 rfl rfl
  have c0_1 := S.c 0 1 rfl rfl
  have c0_2 := S.c 0 2 rfl rfl
  have c1_0 := S.c 1 0 rfl rfl
  have c1_1 := S.c 1 1 rfl rfl
  have c1_2 := S.c 1 2 rfl rfl
  have f0_0 := S.f 0 0 rfl
  have H := S.hset 0 0 (.bool b3) rfl rfl (by intro q n e; cases e)
  replace S := S.set 0 0 (.bool b3) rfl
  replace nn := nn.hold H
  replace n3 := n3.hold H
  clear H
  have f0_1 := S.f 0 1 rfl
  have H := S.hset 0 1 (.slice p3 l3 K3) rfl rfl (by intro q n e; cases e)
  replace S := S.set 0 1 (.slice p3 l3 K3) rfl
  replace nn := nn.hold H
  replace n3 := n3.hold H
  clear H
  have f0_2 := S.f 0 2 rfl
  have H := S.hset32 0 2 (.int .i64 e3) rfl rfl (by intro n e; cases e)
  replace S := S.set 0 2 (.int .i64 e3) rfl
  replace nn := nn.hold32 H
  replace n3 := n3.hold32 H
  clear H
  go_wp2_with fail
  have d0_0 := S.c 0 0 rfl rfl
  have d0_1 := S.c 0 1 rfl rfl
  have d0_2 := S.c 0 2 rfl rfl
  exact bodyPost_ret (v := .agg #[.bool b3, .slice p3 l3 K3, .int .i64 e3]) (by simp [results, Tryd.f16, go_sem, d0_0, d0_1, d0_2]) rfl (⟨⟨_, rfl, b3, p3, l3, K3, m3, e3, rfl, h3, n3, d3⟩, S.below⟩)

theorem tail_none {m : Int} {t : Nat} (hm : m % 2 = 1) (h : TailIs m.natAbs t) : t = 0 := by
  obtain ⟨o, h1, h2, _, _⟩ := tail_odd (by omega) h
  cases t with
  | zero => rfl
  | succ t =>
    rw [Nat.pow_succ, Int.natCast_mul, ← Int.mul_assoc] at h2
    omega

set_option maxRecDepth 100000 in
set_option maxHeartbeats 4000000 in
/-- Check of a number. -/
theorem dcheck_any {va : Value} {x : Rat} {L H : Nat} {w : World} (hT : Tab w) (ha : IsD w va x L H) (hLH : H + L ≤ 16384) :
    Calls Tryd.prog 8 #[va] w fun ev w' => ev = .returned (.int .i64 0) ∧ Below w.heap.size w w' := by
  obtain ⟨b, p, l, K, m, e, rfl, hb, nm, hd⟩ := ha
  have hex := hd.out.exp
  have HD := Lib.hid (And.intro hT (And.intro (hd.out.max hLH) (show -65536 ≤ e ∧ e ≤ 65536 by omega)))
  clear hT hLH hex
  rcases hd.out.1 with ⟨h0, he⟩ | h1
  · subst h0
    subst he
    clear hd
    have S := (St.start w).alloc 27 [.bool b, .slice p l K, .int .i64 0] (w.heap.size)
    simp only [List.nil_append] at S
    replace nm := nm.hold S.hold
    have c0_0 := S.c 0 0 rfl rfl
    have c0_1 := S.c 0 1 rfl rfl
    have c0_2 := S.c 0 2 rfl rfl
    go_enter Tryd.func8, Tryd.ntmps8
    go_wp2_with fail
    clear c0_0 c0_1 c0_2
    refine (S.call (wcheck_any ⟨_, _, _, by rw [hb.out], nm⟩ HD.out.2.1)).mono ?_
    clear S
    rintro e w1 ⟨rfl, S, H⟩
    replace nm := nm.hold H
    clear H
    have c0_0 := S.c 0 0 rfl rfl
    have c0_1 := S.c 0 1 rfl rfl
    have c0_2 := S.c 0 2 rfl rfl
    go_wp2_with fail
    clear c0_0 c0_1 c0_2
    refine (S.call (wsign_any (z := 0) (s := 0) ⟨_, _, _, by rw [hb.out], nm⟩ HD.out.2.1 rfl)).mono ?_
    clear S
    rintro e w2 ⟨rfl, S, H⟩
    replace nm := nm.hold H
    clear H
    have c0_0 := S.c 0 0 rfl rfl
    have c0_1 := S.c 0 1 rfl rfl
    have c0_2 := S.c 0 2 rfl rfl
    go_wp2_with fail
    clear c0_0 c0_1 c0_2
    refine (S.call (exp_in 0 _ (by decide) (by decide))).mono ?_
    clear S
    rintro e w3 ⟨rfl, S, H⟩
    replace nm := nm.hold H
    clear H
    have c0_0 := S.c 0 0 rfl rfl
    have c0_1 := S.c 0 1 rfl rfl
    have c0_2 := S.c 0 2 rfl rfl
    go_wp2_with fail
    exact bodyPost_ret (v := .int .i64 0) (by simp [results, Tryd.f8, go_sem]) rfl (⟨rfl, S.below⟩)
  · obtain ⟨s, hs⟩ : ∃ s, m.sign = s := ⟨_, rfl⟩
    have hs1 : (s == 0) = false := by
      rw [← hs]
      have hne : m ≠ 0 := by omega
      simpa using hne
    have HS := Lib.hid (And.intro hs h1)
    clear hs h1
    have S := (St.start w).alloc 27 [.bool b, .slice p l K, .int .i64 e] (w.heap.size)
    simp only [List.nil_append] at S
    replace nm := nm.hold S.hold
    have c0_0 := S.c 0 0 rfl rfl
    have c0_1 := S.c 0 1 rfl rfl
    have c0_2 := S.c 0 2 rfl rfl
    go_enter Tryd.func8, Tryd.ntmps8
    go_wp2_with fail
    clear c0_0 c0_1 c0_2
    refine (S.call (wcheck_any ⟨_, _, _, by rw [hb.out], nm⟩ HD.out.2.1)).mono ?_
    clear S
    rintro e w1 ⟨rfl, S, H⟩
    replace nm := nm.hold H
    clear H
    have c0_0 := S.c 0 0 rfl rfl
    have c0_1 := S.c 0 1 rfl rfl
    have c0_2 := S.c 0 2 rfl rfl
    go_wp2_with fail
    clear c0_0 c0_1 c0_2
    refine (S.call (wsign_any ⟨_, _, _, by rw [hb.out], nm⟩ HD.out.2.1 HS.out.1)).mono ?_
    clear S
    rintro e w2 ⟨rfl, S, H⟩
    replace nm := nm.hold H
    clear H
    have c0_0 := S.c 0 0 rfl rfl
    have c0_1 := S.c 0 1 rfl rfl
    have c0_2 := S.c 0 2 rfl rfl
    go_wp2_with fail
    clear c0_0 c0_1 c0_2
    refine (S.call (exp_in e _ HD.out.2.2.1 HD.out.2.2.2)).mono ?_
    clear S
    rintro e w3 ⟨rfl, S, H⟩
    replace nm := nm.hold H
    clear H
    have c0_0 := S.c 0 0 rfl rfl
    have c0_1 := S.c 0 1 rfl rfl
    have c0_2 := S.c 0 2 rfl rfl
    go_wp2_with fail
    clear c0_0 c0_1 c0_2
    refine (S.call (tail_nat' nm HD.out.2.1 (HD.out.1.below S.below))).mono ?_
    clear S
    rintro e w4 ⟨⟨t, rfl, ht⟩, S, H⟩
    replace nm := nm.hold H
    clear H
    have c0_0 := S.c 0 0 rfl rfl
    have c0_1 := S.c 0 1 rfl rfl
    have c0_2 := S.c 0 2 rfl rfl
    obtain rfl := tail_none HS.out.2 ht.out
    clear ht
    go_wp2_with fail
    exact bodyPost_ret (v := .int .i64 0) (by simp [results, Tryd.f8, go_sem]) rfl (⟨rfl, S.below⟩)

/-- What may be a number. -/
def ValidD (b : Bool) (ds : List Nat) (e : Int) : Prop := cut ds = ds ∧ (b = true → ds ≠ []) ∧ (-65536 ≤ e ∧ e ≤ 65536) ∧ ((val 4294967296 ds = 0 ∧ e = 0) ∨ val 4294967296 ds % 2 = 1)

set_option maxRecDepth 100000 in
set_option maxHeartbeats 4000000 in
/-- Check of whatever is handed in. -/
theorem dcheck_raw (b : Bool) (p : Option Addr) (K l : Nat) (ds : List Nat) (e : Int) (w : World) (hT : Tab w) (hat : At .u32 w p K ds) (hd : Dig 4294967296 ds) (hl : ds.length = l) (hl5 : l ≤ 512) :
    Calls Tryd.prog 8 #[.agg #[.bool b, .slice p l K, .int .i64 e]] w fun ev w' => (∃ c : Int, ev = .returned (.int .i64 c) ∧ Hid (c = 0 → ValidD b ds e)) ∧ Below w.heap.size w w' := by
  have HD := Lib.hid (And.intro hT (And.intro hd (And.intro hl hl5)))
  clear hT hd hl hl5
  have S := (St.start w).alloc 27 [.bool b, .slice p l K, .int .i64 e] (w.heap.size)
  simp only [List.nil_append] at S
  replace hat := hat.hold S.hold
  have c0_0 := S.c 0 0 rfl rfl
  have c0_1 := S.c 0 1 rfl rfl
  have c0_2 := S.c 0 2 rfl rfl
  go_enter Tryd.func8, Tryd.ntmps8
  go_wp2_with fail
  clear c0_0 c0_1 c0_2
  refine (S.call (wcheck_raw b p K l ds _ hat HD.out.2.1 HD.out.2.2.1 HD.out.2.2.2)).mono ?_
  clear S
  rintro e w1 ⟨⟨c, rfl, hc⟩, S, H⟩
  replace hat := hat.hold H
  clear H
  have c0_0 := S.c 0 0 rfl rfl
  have c0_1 := S.c 0 1 rfl rfl
  have c0_2 := S.c 0 2 rfl rfl
  by_cases h0 : c = 0
  · have h0' : (c != 0) = false := by rw [h0]; rfl
    have hv := hc.out h0
    have hn : IsNat w1 (.slice p l K) (val 4294967296 ds) := by rw [← HD.out.2.2.1]; exact ⟨ds, hat.nums, ⟨HD.out.2.1, hv.1⟩, rfl⟩
    have hm : val 4294967296 ds < maxN := Can.len_max ⟨HD.out.2.1, hv.1⟩ |>.1 (by rw [HD.out.2.2.1]; exact HD.out.2.2.2)
    obtain ⟨n, hnn⟩ : ∃ n, val 4294967296 ds = n := ⟨_, rfl⟩
    rw [hnn] at hn hm
    obtain ⟨z, hz1, hz2⟩ : ∃ z : Int, negB z = b ∧ z.natAbs = n := by
      cases b with
      | false => exact ⟨(n : Int), negB_neg (by omega), by omega⟩
      | true =>
        refine ⟨-(n : Int), negB_pos ?_, by omega⟩
        have : n ≠ 0 := fun e0 => hv.2 rfl ((show Can 4294967296 ds from ⟨HD.out.2.1, hv.1⟩).eq_nil (by decide) (by rw [hnn]; exact e0))
        omega
    have HV := Lib.hid (And.intro hv (And.intro hnn (And.intro hm (And.intro hz1 hz2))))
    subst hz2
    obtain ⟨s, hs⟩ : ∃ s, z.sign = s := ⟨_, rfl⟩
    have HS := Lib.hid hs
    clear hc hv hm hnn hz1 hs h0
    clear hat
    go_wp2_with fail
    clear c0_0 c0_1 c0_2
    refine (S.call (wsign_any ⟨_, _, _, by rw [HV.out.2.2.2.1], hn⟩ HV.out.2.2.1 HS.out)).mono ?_
    clear S
    rintro e w2 ⟨rfl, S, H⟩
    replace hn := hn.hold H
    clear H
    have c0_0 := S.c 0 0 rfl rfl
    have c0_1 := S.c 0 1 rfl rfl
    have c0_2 := S.c 0 2 rfl rfl
    by_cases hx : -65536 ≤ e ∧ e ≤ 65536
    · have HX := Lib.hid hx
      clear hx
      go_wp2_with fail
      clear c0_0 c0_1 c0_2
      refine (S.call (exp_in e _ HX.out.1 HX.out.2)).mono ?_
      clear S
      rintro e w3 ⟨rfl, S, H⟩
      replace hn := hn.hold H
      clear H
      have c0_0 := S.c 0 0 rfl rfl
      have c0_1 := S.c 0 1 rfl rfl
      have c0_2 := S.c 0 2 rfl rfl
      by_cases hz0 : z = 0
      · have hs0 : (s == 0) = true := by rw [← HS.out, hz0]; rfl
        by_cases he : e = 0
        · have he0 : (e != 0) = false := by rw [he]; rfl
          have HE := Lib.hid (And.intro hz0 he)
          clear hz0 he
          go_wp2_with fail
          exact bodyPost_ret (v := .int .i64 0) (by simp [results, Tryd.f8, go_sem]) rfl (⟨⟨0, rfl, fun _ => ⟨HV.out.1.1, HV.out.1.2, HX.out, .inl ⟨by rw [HV.out.2.1, HE.out.1]; rfl, HE.out.2⟩⟩⟩, S.below⟩)
        · have he0 : (e != 0) = true := by simpa using he
          clear hz0 he
          go_wp2_with fail
          exact bodyPost_ret (v := .int .i64 2) (by simp [results, Tryd.f8, go_sem]) rfl (⟨⟨2, rfl, fun h => by cases h⟩, S.below⟩)
      · have hs0 : (s == 0) = false := by rw [← HS.out]; simpa using fun h => hz0 (Int.sign_eq_zero_iff_zero.1 h)
        have HZ := Lib.hid hz0
        clear hz0
        go_wp2_with fail
        clear c0_0 c0_1 c0_2
        refine (S.call (tail_nat' hn HV.out.2.2.1 (HD.out.1.below S.below))).mono ?_
        clear S
        rintro e w4 ⟨⟨t, rfl, ht⟩, S, H⟩
        replace hn := hn.hold H
        clear H
        have c0_0 := S.c 0 0 rfl rfl
        have c0_1 := S.c 0 1 rfl rfl
        have c0_2 := S.c 0 2 rfl rfl
        by_cases ht0 : t = 0
        · subst ht0
          have HT := Lib.hid (show val 4294967296 ds % 2 = 1 by
            rw [HV.out.2.1]
            rcases ht.out with ⟨h, _⟩ | ⟨a, h⟩
            · have := HZ.out; omega
            · rw [Nat.pow_zero, Nat.one_mul] at h; omega)
          clear ht
          go_wp2_with fail
          exact bodyPost_ret (v := .int .i64 0) (by simp [results, Tryd.f8, go_sem]) rfl (⟨⟨0, rfl, fun _ => ⟨HV.out.1.1, HV.out.1.2, HX.out, .inr HT.out⟩⟩, S.below⟩)
        · have htp : 0 < t := by omega
          have htI : (0 : Int) < (t : Int) := by omega
          clear ht ht0
          go_wp2_with fail
          exact bodyPost_ret (v := .int .i64 2) (by simp [results, Tryd.f8, go_sem]) rfl (⟨⟨2, rfl, fun h => by cases h⟩, S.below⟩)
    · have HX := Lib.hid (show e < -65536 ∨ 65536 < e by omega)
      clear hx
      go_wp2_with fail
      clear c0_0 c0_1 c0_2
      refine (S.call (exp_out e _ HX.out)).mono ?_
      clear S
      rintro e w3 ⟨rfl, S, H⟩
      replace hn := hn.hold H
      clear H
      have c0_0 := S.c 0 0 rfl rfl
      have c0_1 := S.c 0 1 rfl rfl
      have c0_2 := S.c 0 2 rfl rfl
      go_wp2_with fail
      exact bodyPost_ret (v := .int .i64 1) (by simp [results, Tryd.f8, go_sem]) rfl (⟨⟨1, rfl, fun h => by cases h⟩, S.below⟩)
  · have h0' : (c != 0) = true := by simpa using h0
    have HC := Lib.hid h0
    clear h0 hc
    go_wp2_with fail
    exact bodyPost_ret (v := .int .i64 c) (by simp [results, Tryd.f8, go_sem]) rfl (⟨⟨c, rfl, fun h => absurd h HC.out⟩, S.below⟩)

end Go.Proofs.YtnkmcikjeicpfaaDoor

namespace Go.Proofs.YtnkmcikjeicpfaaDoor
open Go.RowKit

set_option maxRecDepth 100000 in
set_option maxHeartbeats 4000000 in
theorem rof_any (n d : Int) (w : World) (hn0 : -9223372036854775808 ≤ n) (hn1 : n ≤ 9223372036854775807) (hd0 : -9223372036854775808 ≤ d) (hd1 : d ≤ 9223372036854775807) (h0 : d ≠ 0) (q : Rat) (hq : q = Rat.divInt n d) :
    Calls Tryd.prog 19 #[.int .i64 n, .int .i64 d] w fun e w' => (∃ u, e = .returned u ∧ IsRat w' u q) ∧ Below w.heap.size w w' := by
  have HD := Lib.hid (And.intro hn0 (And.intro hn1 (And.intro hd0 (And.intro hd1 (And.intro h0 hq)))))
  have HB := Lib.hid (And.intro (show n.natAbs < maxN from lt_maxN (by omega)) (show d.natAbs < maxN from lt_maxN (by omega)))
  clear hn0 hn1 hd0 hd1 h0 hq
  have S := (St.start w).alloc 45 [.bool false, .slice none 0 0, .slice none 0 0] (w.heap.size)
  simp only [List.nil_append] at S
  have c0_0 := S.c 0 0 rfl rfl
  have c0_1 := S.c 0 1 rfl rfl
  have c0_2 := S.c 0 2 rfl rfl
  go_enter Tryd.func19, Tryd.ntmps19
  go_wp2_with fail
  clear c0_0 c0_1 c0_2
  refine (S.call (wof_any n _ HD.out.1 HD.out.2.1)).mono ?_
  clear S
  rintro e w1 ⟨⟨_, rfl, pn, ln, Kn, rfl, nn⟩, S, H⟩
  clear H
  have c0_0 := S.c 0 0 rfl rfl
  have c0_1 := S.c 0 1 rfl rfl
  have c0_2 := S.c 0 2 rfl rfl
  go_wp2_with fail
  clear c0_0 c0_1 c0_2
  refine (S.call (wof_any d _ HD.out.2.2.1 HD.out.2.2.2.1)).mono ?_
  clear S
  rintro e w2 ⟨⟨_, rfl, pd, ld, Kd, rfl, nd⟩, S, H⟩
  replace nn := nn.hold H
  clear H
  have c0_0 := S.c 0 0 rfl rfl
  have c0_1 := S.c 0 1 rfl rfl
  have c0_2 := S.c 0 2 rfl rfl
  go_wp2_with fail
  clear c0_0 c0_1 c0_2
  refine (S.call (rmake_any ⟨_, _, _, rfl, nn⟩ ⟨_, _, _, rfl, nd⟩ HB.out.1 HB.out.2 HD.out.2.2.2.2.1 q HD.out.2.2.2.2.2)).mono ?_
  clear S
  rintro e w3 ⟨⟨_, rfl, b, p, l, K, q', j, J, rfl, hb, n1, d1⟩, S, H⟩
  replace nn := nn.hold H
  replace nd := nd.hold H
  clear H
  have c0_0 := S.c 0 0 rfl rfl
  have c0_1 := S.c 0 1 rfl rfl
  have c0_2 := S.c 0 2 rfl rfl
  have H := S.hnew 45 [.bool b, .slice p l K, .slice q' j J]
  replace S := S.alloc 45 [.bool b, .slice p l K, .slice q' j J] (w3.heap.size)
  simp only [List.cons_append, List.nil_append] at S
  replace nn := nn.hold H
  replace nd := nd.hold H
  replace n1 := n1.hold H
  replace d1 := d1.hold H
  clear H
  clear c0_0 c0_1 c0_2
  have c0_0 := S.c 0 0 rfl rfl
  have c0_1 := S.c 0 1 rfl rfl
  have c0_2 := S.c 0 2 rfl rfl
  have c1_0 := S.c 1 0 rfl rfl
  have c1_1 := S.c 1 1 rfl rfl
  have c1_2 := S.c 1 2 rfl rfl
  have f0_0 := S.f 0 0 rfl
  have H := S.hset 0 0 (.bool b) rfl rfl (by intro q n e; cases e)
  replace S := S.set 0 0 (.bool b) rfl
  replace nn := nn.hold H
  replace nd := nd.hold H
  replace n1 := n1.hold H
  replace d1 := d1.hold H
  clear H
  have f0_1 := S.f 0 1 rfl
  have H := S.hset 0 1 (.slice p l K) rfl rfl (by intro q n e; cases e)
  replace S := S.set 0 1 (.slice p l K) rfl
  replace nn := nn.hold H
  replace nd := nd.hold H
  replace n1 := n1.hold H
  replace d1 := d1.hold H
  clear H
  have f0_2 := S.f 0 2 rfl
  have H := S.hset 0 2 (.slice q' j J) rfl rfl (by intro q n e; cases e)
  replace S := S.set 0 2 (.slice q' j J) rfl
  replace nn := nn.hold H
  replace nd := nd.hold H
  replace n1 := n1.hold H
  replace d1 := d1.hold H
  clear H
  go_wp2_with fail
  have d0_0 := S.c 0 0 rfl rfl
  have d0_1 := S.c 0 1 rfl rfl
  have d0_2 := S.c 0 2 rfl rfl
  exact bodyPost_ret (v := .agg #[.bool b, .slice p l K, .slice q' j J]) (by simp [results, Tryd.f19, go_sem, d0_0, d0_1, d0_2]) rfl (⟨⟨_, rfl, b, p, l, K, q', j, J, rfl, hb, n1, d1⟩, S.below⟩)

end Go.Proofs.YtnkmcikjeicpfaaDoor

namespace Go.Proofs.YtnkmcikjeicpfaaDoor
open Go.RowKit

set_option maxRecDepth 100000 in
set_option maxHeartbeats 4000000 in
theorem dis_yes {va : Value} {x : Rat} {w : World} (hT : Tab w) {L H k : Nat} (ha : IsD w va x L H) (n d : Int) (hn0 : -9223372036854775808 ≤ n) (hn1 : n ≤ 9223372036854775807) (hd0 : 0 < d) (hd1 : d ≤ 9223372036854775807) (hx : x = Rat.divInt n d) (hk : H + L + 1 ≤ 32 * k) (hk5 : k ≤ 500) (hb : RB x 1) :
    Calls Tryd.prog 22 #[va, .int .i64 n, .int .i64 d] w fun e w' => e = .returned (.bool true) ∧ Below w.heap.size w w' := by
  obtain ⟨b1, p1, l1, K1, m1, e1, rfl, h1, n1, d1⟩ := ha
  have HD := Lib.hid (And.intro hT (And.intro hn0 (And.intro hn1 (And.intro hd0 (And.intro hd1 (And.intro hx (And.intro hk (And.intro hk5 hb))))))))
  clear hT hn0 hn1 hd0 hd1 hx hk hk5 hb
  have S := (St.start w).alloc 27 [.bool b1, .slice p1 l1 K1, .int .i64 e1] (w.heap.size)
  try simp only [List.cons_append, List.nil_append] at S
  replace n1 := n1.hold S.hold
  have c0_0 := S.c 0 0 rfl rfl
  have c0_1 := S.c 0 1 rfl rfl
  have c0_2 := S.c 0 2 rfl rfl
  go_enter Tryd.func22, Tryd.ntmps22
  go_upto_region 1 with fail
  clear c0_0 c0_1 c0_2
  replace n1 := n1.hold (Hold.drew _)
  replace S := S.drew
  refine wp_region_held_drew (S := fun W => W.cell? ⟨w.heap.size, 0, none⟩ = some (.bool b1) ∧ W.cell? ⟨w.heap.size, 1, none⟩ = some (.slice p1 l1 K1) ∧ W.cell? ⟨w.heap.size, 2, none⟩ = some (.int .i64 e1)) (by kernel_rfl) ⟨S.c 0 0 rfl rfl, S.c 0 1 rfl rfl, S.c 0 2 rfl rfl⟩ (fun hS => ?_)
  refine wpAnyH_take (i := 0) (v := ?_) ((List.getElem?_toArray ..).trans rfl) (by kernel_rfl) (by kernel_rfl) (by kernel_rfl) (fun _ _ _ h => h) (Or.inl ⟨rfl, fun W hW => ?_⟩) hS ?_
  rotate_left
  · obtain ⟨hW0, hW1, hW2⟩ := hW; go_simp; try first | rfl | (rw [if_neg (by first | omega | (simp only [ByteArray.size_append]; first | omega | (have h1 : (ByteArray.mk #[47]).size = 1 := rfl; omega)))]; try rfl) | kernel_rfl
  try simp only [Act.put, List.setIfInBounds_toArray, List.set_cons_zero, List.set_cons_succ]
  refine wpAnyH_take (i := 1) (v := ?_) ((List.getElem?_toArray ..).trans rfl) (by kernel_rfl) (by kernel_rfl) (by kernel_rfl) (fun _ _ _ h => h) (Or.inl ⟨rfl, fun W hW => ?_⟩) hS ?_
  rotate_left
  · obtain ⟨hW0, hW1, hW2⟩ := hW; go_simp; try first | rfl | (rw [if_neg (by first | omega | (simp only [ByteArray.size_append]; first | omega | (have h1 : (ByteArray.mk #[47]).size = 1 := rfl; omega)))]; try rfl) | kernel_rfl
  try simp only [Act.put, List.setIfInBounds_toArray, List.set_cons_zero, List.set_cons_succ]
  refine wpAnyH_take (i := 2) (v := ?_) ((List.getElem?_toArray ..).trans rfl) (by kernel_rfl) (by kernel_rfl) (by kernel_rfl) (fun _ _ _ h => h) (Or.inl ⟨rfl, fun W hW => ?_⟩) hS ?_
  rotate_left
  · obtain ⟨hW0, hW1, hW2⟩ := hW; go_simp; try first | rfl | (rw [if_neg (by first | omega | (simp only [ByteArray.size_append]; first | omega | (have h1 : (ByteArray.mk #[47]).size = 1 := rfl; omega)))]; try rfl) | kernel_rfl
  try simp only [Act.put, List.setIfInBounds_toArray, List.set_cons_zero, List.set_cons_succ]
  refine wpAnyH_ready (rs := [3]) (by kernel_rfl) (by simp) (AllReadyH.cons ((List.getElem?_toArray ..).trans rfl) (fun KK hKK => ?_) AllReadyH.nil)
  go_simp
  refine (S.call (rof_any n d _ HD.out.2.1 HD.out.2.2.1 (by have := HD.out.2.2.2.1; omega) HD.out.2.2.2.2.1 (by have := HD.out.2.2.2.1; omega) x HD.out.2.2.2.2.2.1)).mono ?_; clear S; rintro e w1 ⟨⟨_, rfl, b2, p2, l2, K2, q2, j2, J2, rfl, h2, n2, d2⟩, S, H⟩; replace n1 := n1.hold H; clear H
  go_wp2_with fail
  refine hKK.out _ _ ⟨S.c 0 0 rfl rfl, S.c 0 1 rfl rfl, S.c 0 2 rfl rfl⟩ (fun hS => ?_)
  clear hKK KK
  try simp only [Act.put, List.setIfInBounds_toArray, List.set_cons_zero, List.set_cons_succ]
  refine wpAnyH_ready (rs := [4]) (by kernel_rfl) (by simp) (AllReadyH.cons ((List.getElem?_toArray ..).trans rfl) (fun KK hKK => ?_) AllReadyH.nil)
  go_simp
  refine (S.call (dcmp_any (k1 := k) (k2 := 1) ⟨b1, p1, l1, K1, m1, e1, rfl, h1, n1, d1⟩ ⟨b2, p2, l2, K2, q2, j2, J2, rfl, h2, n2, d2⟩ (by have := HD.out.2.2.2.2.2.2.1; have := HD.out.2.2.2.2.2.2.2.1; omega) HD.out.2.2.2.2.2.2.1 HD.out.2.2.2.2.2.2.2.2 (by have := HD.out.2.2.2.2.2.2.2.1; omega) 0 (cmpR_eq x))).mono ?_; clear S; rintro e w2 ⟨rfl, S, H⟩; replace n1 := n1.hold H; replace n2 := n2.hold H; replace d2 := d2.hold H; clear H
  go_wp2_with fail
  refine hKK.out _ _ ⟨S.c 0 0 rfl rfl, S.c 0 1 rfl rfl, S.c 0 2 rfl rfl⟩ (fun hS => ?_)
  clear hKK KK
  try simp only [Act.put, List.setIfInBounds_toArray, List.set_cons_zero, List.set_cons_succ]
  refine wpAnyH_take (i := 5) (v := ?_) ((List.getElem?_toArray ..).trans rfl) (by kernel_rfl) (by kernel_rfl) (by kernel_rfl) (fun _ _ _ h => h) (Or.inl ⟨rfl, fun W hW => ?_⟩) hS ?_
  rotate_left
  · obtain ⟨hW0, hW1, hW2⟩ := hW; go_simp; try first | rfl | (rw [if_neg (by first | omega | (simp only [ByteArray.size_append]; first | omega | (have h1 : (ByteArray.mk #[47]).size = 1 := rfl; omega)))]; try rfl) | kernel_rfl
  try simp only [Act.put, List.setIfInBounds_toArray, List.set_cons_zero, List.set_cons_succ]
  refine wpAnyH_take (i := 6) (v := ?_) ((List.getElem?_toArray ..).trans rfl) (by kernel_rfl) (by kernel_rfl) (by kernel_rfl) (fun _ _ _ h => h) (Or.inl ⟨rfl, fun W hW => ?_⟩) hS ?_
  rotate_left
  · obtain ⟨hW0, hW1, hW2⟩ := hW; go_simp; try first | rfl | (rw [if_neg (by first | omega | (simp only [ByteArray.size_append]; first | omega | (have h1 : (ByteArray.mk #[47]).size = 1 := rfl; omega)))]; try rfl) | kernel_rfl
  try simp only [Act.put, List.setIfInBounds_toArray, List.set_cons_zero, List.set_cons_succ]
  refine wpAnyH_take (i := 7) (v := ?_) ((List.getElem?_toArray ..).trans rfl) (by kernel_rfl) (by kernel_rfl) (by kernel_rfl) (fun _ _ _ h => h) (Or.inl ⟨rfl, fun W hW => ?_⟩) hS ?_
  rotate_left
  · obtain ⟨hW0, hW1, hW2⟩ := hW; go_simp; try first | rfl | (rw [if_neg (by first | omega | (simp only [ByteArray.size_append]; first | omega | (have h1 : (ByteArray.mk #[47]).size = 1 := rfl; omega)))]; try rfl) | kernel_rfl
  try simp only [Act.put, List.setIfInBounds_toArray, List.set_cons_zero, List.set_cons_succ]
  refine wpAnyH_ready (rs := [8]) (by kernel_rfl) (by simp) (AllReadyH.cons ((List.getElem?_toArray ..).trans rfl) (fun KK hKK => ?_) AllReadyH.nil)
  go_simp
  refine hKK.out _ _ ⟨S.c 0 0 rfl rfl, S.c 0 1 rfl rfl, S.c 0 2 rfl rfl⟩ (fun hS => ?_)
  clear hKK KK
  try simp only [Act.put, List.setIfInBounds_toArray, List.set_cons_zero, List.set_cons_succ]
  refine wpAnyH_ready (rs := [9]) (by kernel_rfl) (by simp) (AllReadyH.cons ((List.getElem?_toArray ..).trans rfl) (fun KK hKK => ?_) AllReadyH.nil)
  go_simp
  refine hKK.out _ _ ⟨S.c 0 0 rfl rfl, S.c 0 1 rfl rfl, S.c 0 2 rfl rfl⟩ (fun hS => ?_)
  clear hKK KK
  try simp only [Act.put, List.setIfInBounds_toArray, List.set_cons_zero, List.set_cons_succ]
  refine wpAnyH_done (by kernel_rfl) ?_ _
  have c0_0 := S.c 0 0 rfl rfl
  have c0_1 := S.c 0 1 rfl rfl
  have c0_2 := S.c 0 2 rfl rfl
  go_wp2_with fail
  clear c0_0 c0_1 c0_2
  refine (S.call (dcheck_any (HD.out.1.below S.below) ⟨b1, p1, l1, K1, m1, e1, rfl, h1, n1, d1⟩ (by have := HD.out.2.2.2.2.2.2.1; have := HD.out.2.2.2.2.2.2.2.1; omega))).mono ?_
  clear S
  rintro e w3 ⟨rfl, S, H⟩
  replace n1 := n1.hold H
  replace n2 := n2.hold H
  replace d2 := d2.hold H
  clear H
  have c0_0 := S.c 0 0 rfl rfl
  have c0_1 := S.c 0 1 rfl rfl
  have c0_2 := S.c 0 2 rfl rfl
  go_wp2_with fail
  exact bodyPost_ret (v := .bool true) (by simp [results, Tryd.f22, go_sem]) rfl (⟨rfl, S.below⟩)

set_option maxRecDepth 100000 in
set_option maxHeartbeats 4000000 in
theorem dcheck_form (w : World) :
    Calls Tryd.prog 8 #[.agg #[.bool false, .slice none 0 0, .int .i64 1]] w fun ev w' => ev = .returned (.int .i64 2) ∧ Below w.heap.size w w' := by
  have n0 : IsNat w (.slice none 0 0) (Int.natAbs 0) := IsNat.zero w
  have S := (St.start w).alloc 27 [.bool false, .slice none 0 0, .int .i64 1] (w.heap.size)
  try simp only [List.cons_append, List.nil_append] at S
  replace n0 := n0.hold S.hold
  have c0_0 := S.c 0 0 rfl rfl
  have c0_1 := S.c 0 1 rfl rfl
  have c0_2 := S.c 0 2 rfl rfl
  go_enter Tryd.func8, Tryd.ntmps8
  go_wp2_with fail
  clear c0_0 c0_1 c0_2
  refine (S.call (wcheck_any (x := 0) ⟨_, _, _, rfl, n0⟩ (lt_maxN (by decide)))).mono ?_
  clear S
  rintro e w1 ⟨rfl, S, H⟩
  replace n0 := n0.hold H
  clear H
  have c0_0 := S.c 0 0 rfl rfl
  have c0_1 := S.c 0 1 rfl rfl
  have c0_2 := S.c 0 2 rfl rfl
  go_wp2_with fail
  clear c0_0 c0_1 c0_2
  refine (S.call (wsign_any (z := 0) (s := 0) ⟨_, _, _, rfl, n0⟩ (lt_maxN (by decide)) rfl)).mono ?_
  clear S
  rintro e w2 ⟨rfl, S, H⟩
  replace n0 := n0.hold H
  clear H
  have c0_0 := S.c 0 0 rfl rfl
  have c0_1 := S.c 0 1 rfl rfl
  have c0_2 := S.c 0 2 rfl rfl
  go_wp2_with fail
  clear c0_0 c0_1 c0_2
  refine (S.call (exp_in 1 _ (by decide) (by decide))).mono ?_
  clear S
  rintro e w3 ⟨rfl, S, H⟩
  replace n0 := n0.hold H
  clear H
  have c0_0 := S.c 0 0 rfl rfl
  have c0_1 := S.c 0 1 rfl rfl
  have c0_2 := S.c 0 2 rfl rfl
  go_wp2_with fail
  exact bodyPost_ret (v := .int .i64 2) (by simp [results, Tryd.f8, go_sem]) rfl (⟨rfl, S.below⟩)

end Go.Proofs.YtnkmcikjeicpfaaDoor

namespace Go.Proofs.YtnkmcikjeicpfaaDoor
open Go.RowKit

/-- What is left of a number that is cut by v bits, one way or the other. -/
def rndI (m : Int) (v : Nat) (up : Bool) : Int := m / 2 ^ v + (if up = true then 1 else 0)
/-- A number rounded to n bits. -/
def rnd (m e : Int) (n : Nat) (up : Bool) : Rat := if nbits m.natAbs ≤ n then dq m e else dq (rndI m (nbits m.natAbs - n) up) (e + ((nbits m.natAbs - n : Nat) : Int))
theorem rndI_le (m : Int) (v : Nat) (up : Bool) : (rndI m v up).natAbs * 2 ^ v ≤ m.natAbs + 2 ^ v := by
  obtain ⟨d, hd⟩ : ∃ d : Nat, 2 ^ v = d := ⟨_, rfl⟩
  have hd0 : 0 < d := by rw [← hd]; exact Nat.two_pow_pos v
  have hdI : (2 : Int) ^ v = (d : Int) := by rw [← hd]; simp
  unfold rndI
  rw [hd, hdI]
  have h1 := Int.emod_add_mul_ediv m (d : Int)
  have h2 := Int.emod_nonneg m (show (d : Int) ≠ 0 by omega)
  have h3 := Int.emod_lt_of_pos m (show (0 : Int) < (d : Int) by omega)
  generalize m / (d : Int) = q at *
  generalize m % (d : Int) = r at *
  obtain ⟨u, hu⟩ : ∃ u : Int, (if up = true then 1 else 0) = u := ⟨_, rfl⟩
  rw [hu]
  have hu2 : u = 0 ∨ u = 1 := by rw [← hu]; split <;> simp
  have h4 : (q + u).natAbs * d = ((q + u) * (d : Int)).natAbs := by rw [Int.natAbs_mul, Int.natAbs_natCast]
  have h5 : (q + u) * (d : Int) = (d : Int) * q + u * d := by rw [Int.add_mul, Int.mul_comm q]
  rw [h4, h5]
  rcases hu2 with rfl | rfl <;> omega
theorem rnd_zf {m e : Int} {L H v : Nat} (up : Bool) (h : ZF m e L H) (hv : 2 ^ v ≤ m.natAbs) : ZF (rndI m v up) (e + v) L (H + 1) := by
  have h0 := h.1
  refine ⟨by omega, ?_⟩
  have h1 := rndI_le m v up
  rw [show (e + (v : Int) + L).toNat = v + (e + L).toNat by omega, Nat.pow_add, ← Nat.mul_assoc, show H + 1 + L = 1 + (H + L) by omega, PB_add, PB_is 1]
  have h2 := h.2
  have h3 : (rndI m v up).natAbs * 2 ^ v ≤ 2 * m.natAbs := by omega
  generalize 2 ^ (e + (L : Int)).toNat = s at *
  have h4 := Nat.mul_le_mul_right s h3
  have h5 : 2 * m.natAbs * s = 2 * (m.natAbs * s) := Nat.mul_assoc ..
  omega

set_option maxRecDepth 100000 in
set_option maxHeartbeats 8000000 in
theorem dround_any {b : Bool} {p : Option Addr} {l K : Nat} {m e : Int} {x : Rat} {L H : Nat} {w : World} (hT : Tab w) (hb : Hid (negB m = b)) (nm : IsNat w (.slice p l K) m.natAbs) (hd : Hid (DyF m e x L H)) (hLH : H + 1 + L ≤ 16384) (n : Nat) (h2 : 2 ≤ n) (h4 : n ≤ 4096) (up : Bool) (y : Rat) (hy : rnd m e n up = y) :
    Calls Tryd.prog 6 #[.agg #[.bool b, .slice p l K, .int .i64 e], .int .i64 n, .bool up] w fun ev w' => (∃ u, ev = .returned (.tuple #[u, .int .i64 0]) ∧ IsD w' u y L (H + 1)) ∧ Below w.heap.size w w' := by
  obtain ⟨t, ht⟩ : ∃ t, nbits m.natAbs = t := ⟨_, rfl⟩
  have hmax := hd.out.max (by omega)
  have HX := Lib.hid (show -65536 ≤ e ∧ e ≤ 65536 by have := hd.out.exp; omega)
  have HN := Lib.hid (And.intro (show (2 : Int) ≤ (n : Int) by omega) (show (n : Int) ≤ 4096 by omega))
  have HD := Lib.hid (And.intro hT (And.intro ht (And.intro hmax hLH)))
  by_cases htn : t ≤ n
  · have hy0 : x = y := by rw [← hy, ← hd.out.2.2]; unfold rnd; rw [if_pos (by rw [ht]; exact htn)]
    obtain ⟨o, ho⟩ : ∃ o : Int, (t : Int) - (n : Int) = o := ⟨_, rfl⟩
    have htl : t ≤ 16384 := by
      rcases Nat.eq_zero_or_pos m.natAbs with h | h
      · rw [← ht, h]; decide
      · have := nbits_pb (n := m.natAbs) (by omega) hd.out.2.1.size; omega
    have hwr : IntKind.i64.wrap ((t : Int) - (n : Int)) = o := by rw [wrap_int (by omega) (by omega), ho]
    have ho0 : o ≤ 0 := by omega
    have HY := Lib.hid hy0
    clear hT hy ht hmax htn ho htl h2 h4 hLH hy0
    have S := ((St.start w).alloc 27 [.bool b, .slice p l K, .int .i64 e] (w.heap.size)).alloc 27 [.bool false, .slice none 0 0, .int .i64 0] (w.heap.size + 1)
    simp only [List.cons_append, List.nil_append] at S
    replace nm := nm.hold S.hold
    have c0_0 := S.c 0 0 rfl rfl
    have c0_1 := S.c 0 1 rfl rfl
    have c0_2 := S.c 0 2 rfl rfl
    have c1_0 := S.c 1 0 rfl rfl
    have c1_1 := S.c 1 1 rfl rfl
    have c1_2 := S.c 1 2 rfl rfl
    go_enter Tryd.func6, Tryd.ntmps6
    go_wp2_with fail
    clear c0_0 c0_1 c0_2 c1_0 c1_1 c1_2
    refine (S.call (bits_in n _ HN.out.1 HN.out.2)).mono ?_
    clear S
    rintro e w1 ⟨rfl, S, H⟩
    replace nm := nm.hold H
    clear H
    have c0_0 := S.c 0 0 rfl rfl
    have c0_1 := S.c 0 1 rfl rfl
    have c0_2 := S.c 0 2 rfl rfl
    have c1_0 := S.c 1 0 rfl rfl
    have c1_1 := S.c 1 1 rfl rfl
    have c1_2 := S.c 1 2 rfl rfl
    go_wp2_with fail
    clear c0_0 c0_1 c0_2 c1_0 c1_1 c1_2
    refine (S.call (bits_nat nm HD.out.2.2.1 HD.out.2.1)).mono ?_
    clear S
    rintro e w2 ⟨rfl, S, H⟩
    replace nm := nm.hold H
    clear H
    have c0_0 := S.c 0 0 rfl rfl
    have c0_1 := S.c 0 1 rfl rfl
    have c0_2 := S.c 0 2 rfl rfl
    have c1_0 := S.c 1 0 rfl rfl
    have c1_1 := S.c 1 1 rfl rfl
    have c1_2 := S.c 1 2 rfl rfl
    go_wp2_with fail
    clear c0_0 c0_1 c0_2 c1_0 c1_1 c1_2
    refine (S.call (dcopied_any ⟨b, p, l, K, m, e, rfl, hb, nm, hd⟩ (by have := HD.out.2.2.2; omega))).mono ?_
    clear S
    rintro e w3 ⟨⟨_, rfl, b3, p3, l3, K3, m3, e3, rfl, h3, n3, d3⟩, S, H⟩
    replace nm := nm.hold H
    clear H
    have c0_0 := S.c 0 0 rfl rfl
    have c0_1 := S.c 0 1 rfl rfl
    have c0_2 := S.c 0 2 rfl rfl
    have c1_0 := S.c 1 0 rfl rfl
    have c1_1 := S.c 1 1 rfl rfl
    have c1_2 := S.c 1 2 rfl rfl
    have f1_0 := S.f 1 0 rfl
    have H := S.hset 1 0 (.bool b3) rfl rfl (by intro q n e; cases e)
    replace S := S.set 1 0 (.bool b3) rfl
    replace nm := nm.hold H
    replace n3 := n3.hold H
    clear H
    have f1_1 := S.f 1 1 rfl
    have H := S.hset 1 1 (.slice p3 l3 K3) rfl rfl (by intro q n e; cases e)
    replace S := S.set 1 1 (.slice p3 l3 K3) rfl
    replace nm := nm.hold H
    replace n3 := n3.hold H
    clear H
    have f1_2 := S.f 1 2 rfl
    have H := S.hset32 1 2 (.int .i64 e3) rfl rfl (by intro n e; cases e)
    replace S := S.set 1 2 (.int .i64 e3) rfl
    replace nm := nm.hold32 H
    replace n3 := n3.hold32 H
    clear H
    go_wp2_with fail
    have d1_0 := S.c 1 0 rfl rfl
    have d1_1 := S.c 1 1 rfl rfl
    have d1_2 := S.c 1 2 rfl rfl
    exact bodyPost_ret (v := .tuple #[.agg #[.bool b3, .slice p3 l3 K3, .int .i64 e3], .int .i64 0]) (by simp [results, Tryd.f6, go_sem, d1_0, d1_1, d1_2]) rfl (⟨⟨_, rfl, b3, p3, l3, K3, m3, e3, rfl, h3, n3, by rw [← HY.out]; exact d3.out.mono (Nat.le_refl _) (by omega)⟩, S.below⟩)
  · obtain ⟨v, hv⟩ : ∃ v : Nat, t - n = v := ⟨_, rfl⟩
    have hm0 : m.natAbs ≠ 0 := fun e0 => htn (by rw [← ht, e0]; simp [nbits])
    have htl : t ≤ 16384 := by have := nbits_pb (n := m.natAbs) hm0 hd.out.2.1.size; omega
    have hwr : IntKind.i64.wrap ((t : Int) - (n : Int)) = (v : Int) := by rw [wrap_int (by omega) (by omega)]; omega
    have hv0 : ¬ (v : Int) ≤ 0 := by omega
    obtain ⟨f, hf⟩ : ∃ f, e + (v : Int) = f := ⟨_, rfl⟩
    have hex := hd.out.exp
    have hwe : IntKind.i64.wrap (e + (v : Int)) = f := by rw [wrap_int (by omega) (by omega), hf]
    have h2v : 2 ^ v ≤ m.natAbs := by
      obtain ⟨a1, a2, _⟩ := nbits_spec hm0
      rw [ht] at a2
      exact Nat.le_trans (Nat.pow_le_pow_right (by decide) (by omega)) a2
    have hzf := rnd_zf up hd.out.2.1 h2v
    obtain ⟨z, hz⟩ : ∃ z, m / 2 ^ v = z := ⟨_, rfl⟩
    obtain ⟨z1, hz1⟩ : ∃ z1, rndI m v up = z1 := ⟨_, rfl⟩
    rw [hz1, hf] at hzf
    have hzf0 := rnd_zf false hd.out.2.1 h2v
    have hz0 : rndI m v false = z := by unfold rndI; rw [if_neg (by decide), Int.add_zero]; exact hz
    rw [hz0, hf] at hzf0
    have hy2 : dq z1 f = y := by rw [← hy]; unfold rnd; rw [if_neg (by rw [ht]; exact htn), ht, hv, hz1, hf]
    have HZ := Lib.hid (And.intro hz (And.intro hzf (And.intro hy2 (And.intro (show v ≤ 9223372036854775807 by omega) (And.intro (hzf0.max hLH) (hzf.max hLH))))))
    clear hT hy ht hmax htn hv hm0 htl hf hex h2v hz hzf hzf0 hz0 hy2 h2 h4 hLH
    cases up with
    | true =>
      have HU := Lib.hid (show z + 1 = z1 by rw [← hz1, ← HZ.out.1]; unfold rndI; rw [if_pos rfl])
      clear hz1
      have S := ((St.start w).alloc 27 [.bool b, .slice p l K, .int .i64 e] (w.heap.size)).alloc 27 [.bool false, .slice none 0 0, .int .i64 0] (w.heap.size + 1)
      simp only [List.cons_append, List.nil_append] at S
      replace nm := nm.hold S.hold
      have c0_0 := S.c 0 0 rfl rfl
      have c0_1 := S.c 0 1 rfl rfl
      have c0_2 := S.c 0 2 rfl rfl
      have c1_0 := S.c 1 0 rfl rfl
      have c1_1 := S.c 1 1 rfl rfl
      have c1_2 := S.c 1 2 rfl rfl
      go_enter Tryd.func6, Tryd.ntmps6
      go_wp2_with fail
      clear c0_0 c0_1 c0_2 c1_0 c1_1 c1_2
      refine (S.call (bits_in n _ HN.out.1 HN.out.2)).mono ?_
      clear S
      rintro e w1 ⟨rfl, S, H⟩
      replace nm := nm.hold H
      clear H
      have c0_0 := S.c 0 0 rfl rfl
      have c0_1 := S.c 0 1 rfl rfl
      have c0_2 := S.c 0 2 rfl rfl
      have c1_0 := S.c 1 0 rfl rfl
      have c1_1 := S.c 1 1 rfl rfl
      have c1_2 := S.c 1 2 rfl rfl
      go_wp2_with fail
      clear c0_0 c0_1 c0_2 c1_0 c1_1 c1_2
      refine (S.call (bits_nat nm HD.out.2.2.1 HD.out.2.1)).mono ?_
      clear S
      rintro e w2 ⟨rfl, S, H⟩
      replace nm := nm.hold H
      clear H
      have c0_0 := S.c 0 0 rfl rfl
      have c0_1 := S.c 0 1 rfl rfl
      have c0_2 := S.c 0 2 rfl rfl
      have c1_0 := S.c 1 0 rfl rfl
      have c1_1 := S.c 1 1 rfl rfl
      have c1_2 := S.c 1 2 rfl rfl
      clear c0_0 c0_1 c0_2 c1_0 c1_1 c1_2
      have c0_0 := S.c 0 0 rfl rfl
      have c0_1 := S.c 0 1 rfl rfl
      have c0_2 := S.c 0 2 rfl rfl
      have c1_0 := S.c 1 0 rfl rfl
      have c1_1 := S.c 1 1 rfl rfl
      have c1_2 := S.c 1 2 rfl rfl
      go_wp2_with fail
      clear c0_0 c0_1 c0_2 c1_0 c1_1 c1_2
      refine (S.call (wright_any (HD.out.1.below S.below) ⟨_, _, _, by rw [hb.out], nm⟩ HD.out.2.2.1 v HZ.out.2.2.2.1 z HZ.out.1)).mono ?_
      clear S
      rintro e w3 ⟨⟨_, rfl, pz, lz, Kz, rfl, nz⟩, S, H⟩
      replace nm := nm.hold H
      clear H
      have c0_0 := S.c 0 0 rfl rfl
      have c0_1 := S.c 0 1 rfl rfl
      have c0_2 := S.c 0 2 rfl rfl
      have c1_0 := S.c 1 0 rfl rfl
      have c1_1 := S.c 1 1 rfl rfl
      have c1_2 := S.c 1 2 rfl rfl
      have H := S.hnew 25 [.bool (negB z), .slice pz lz Kz]
      replace S := S.alloc 25 [.bool (negB z), .slice pz lz Kz] (w3.heap.size)
      simp only [List.cons_append, List.nil_append] at S
      replace nm := nm.hold H
      replace nz := nz.hold H
      clear H
      clear c0_0 c0_1 c0_2 c1_0 c1_1 c1_2
      have c0_0 := S.c 0 0 rfl rfl
      have c0_1 := S.c 0 1 rfl rfl
      have c0_2 := S.c 0 2 rfl rfl
      have c1_0 := S.c 1 0 rfl rfl
      have c1_1 := S.c 1 1 rfl rfl
      have c1_2 := S.c 1 2 rfl rfl
      have c2_0 := S.c 2 0 rfl rfl
      have c2_1 := S.c 2 1 rfl rfl
      go_upto_region 8 with fail
      clear c0_0 c0_1 c0_2 c1_0 c1_1 c1_2 c2_0 c2_1
      generalize (w3.alloc (.cells #[.bool (negB z), .slice pz lz Kz] 25)) = w4 at S nm nz ⊢
      go_cut [10] (fun s10 wx => ∃ py ly Ky, s10 = .int .i64 0 ∧ St w wx [(w.heap.size, 27, [.bool b, .slice p l K, .int .i64 e]), (w.heap.size + 1, 27, [.bool false, .slice none 0 0, .int .i64 0]), (w3.heap.size, 25, [.bool (negB z1), .slice py ly Ky])] ∧ IsNat wx (.slice py ly Ky) z1.natAbs ∧ Hold w4 wx)
      case first =>
        have HH := Hold.drew w4
        replace nm := nm.hold HH
        replace nz := nz.hold HH
        replace S := S.drew
        refine wp_region_held_drew (S := fun W => True) (by kernel_rfl) trivial (fun hS => ?_)
        generalize w4.drew = w5 at S nm nz HH hS ⊢
        refine wpAnyH_ready (rs := [0, 1]) (by kernel_rfl) (by simp) (AllReadyH.cons ((List.getElem?_toArray ..).trans rfl) (fun KK hKK => ?_) (AllReadyH.cons ((List.getElem?_toArray ..).trans rfl) (fun KK hKK => ?_) AllReadyH.nil))
        ·
          have c2_0 := S.c 2 0 rfl rfl
          have c2_1 := S.c 2 1 rfl rfl
          go_simp
          clear c2_0 c2_1
          refine hKK.out _ _ hS (fun hS => ?_)
          clear hKK KK
          try simp only [Act.put, List.setIfInBounds_toArray, List.set_cons_zero, List.set_cons_succ]
          refine wpAnyH_ready (rs := [1]) (by kernel_rfl) (by simp) (AllReadyH.cons ((List.getElem?_toArray ..).trans rfl) (fun KK hKK => ?_) AllReadyH.nil)
          go_simp
          clear hS
          refine (S.call (wof_any 1 _ (by decide) (by decide))).mono ?_
          clear S
          rintro e w6 ⟨⟨_, rfl, po, lo, Ko, rfl, no⟩, S, H⟩
          replace nm := nm.hold H
          replace nz := nz.hold H
          replace HH := HH.trans H
          clear H
          go_wp2_with fail
          refine hKK.out _ _ trivial (fun hS => ?_)
          clear hKK KK
          try simp only [Act.put, List.setIfInBounds_toArray, List.set_cons_zero, List.set_cons_succ]
          refine wpAnyH_ready (rs := [2]) (by kernel_rfl) (by simp) (AllReadyH.cons ((List.getElem?_toArray ..).trans rfl) (fun KK hKK => ?_) AllReadyH.nil)
          go_simp
          clear hS
          refine (S.call (wadd_to ⟨_, _, _, rfl, nz⟩ ⟨_, _, _, rfl, no⟩ HZ.out.2.2.2.2.1 (lt_maxN (by decide)) z1 HU.out HZ.out.2.2.2.2.2)).mono ?_
          clear S
          rintro e w7 ⟨⟨_, rfl, py, ly, Ky, rfl, ny⟩, S, H⟩
          replace nm := nm.hold H
          replace nz := nz.hold H
          replace no := no.hold H
          replace HH := HH.trans H
          clear H
          go_wp2_with fail
          refine hKK.out _ _ trivial (fun hS => ?_)
          clear hKK KK
          try simp only [Act.put, List.setIfInBounds_toArray, List.set_cons_zero, List.set_cons_succ]
          refine wpAnyH_take (i := 3) (v := ?_) ((List.getElem?_toArray ..).trans rfl) (by kernel_rfl) (by kernel_rfl) (by kernel_rfl) (fun _ _ _ h => h) (Or.inl ⟨rfl, fun W hW => ?_⟩) hS ?_
          rotate_left
          · obtain hW0 := hW; go_simp; try first | rfl | (rw [if_neg (by first | omega | (simp only [ByteArray.size_append]; first | omega | (have h1 : (ByteArray.mk #[47]).size = 1 := rfl; omega)))]; try rfl) | kernel_rfl
          try simp only [Act.put, List.setIfInBounds_toArray, List.set_cons_zero, List.set_cons_succ]
          refine wpAnyH_take (i := 4) (v := ?_) ((List.getElem?_toArray ..).trans rfl) (by kernel_rfl) (by kernel_rfl) (by kernel_rfl) (fun _ _ _ h => h) (Or.inl ⟨rfl, fun W hW => ?_⟩) hS ?_
          rotate_left
          · obtain hW0 := hW; go_simp; try first | rfl | (rw [if_neg (by first | omega | (simp only [ByteArray.size_append]; first | omega | (have h1 : (ByteArray.mk #[47]).size = 1 := rfl; omega)))]; try rfl) | kernel_rfl
          try simp only [Act.put, List.setIfInBounds_toArray, List.set_cons_zero, List.set_cons_succ]
          refine wpAnyH_take (i := 5) (v := ?_) ((List.getElem?_toArray ..).trans rfl) (by kernel_rfl) (by kernel_rfl) (by kernel_rfl) (fun _ _ _ h => h) (Or.inl ⟨rfl, fun W hW => ?_⟩) hS ?_
          rotate_left
          · obtain hW0 := hW; go_simp; try first | rfl | (rw [if_neg (by first | omega | (simp only [ByteArray.size_append]; first | omega | (have h1 : (ByteArray.mk #[47]).size = 1 := rfl; omega)))]; try rfl) | kernel_rfl
          try simp only [Act.put, List.setIfInBounds_toArray, List.set_cons_zero, List.set_cons_succ]
          refine wpAnyH_ready (rs := [6]) (by kernel_rfl) (by simp) (AllReadyH.cons ((List.getElem?_toArray ..).trans rfl) (fun KK hKK => ?_) AllReadyH.nil)
          have c0 := S.c 2 0 rfl rfl
          have f0 := S.f 2 0 rfl
          have c1 := S.c 2 1 rfl rfl
          have f1 := S.f 2 1 rfl
          go_simp
          clear hS c0 f0 c1 f1
          have H := S.hset 2 0 (.bool (negB z1)) rfl rfl (by intro q n e; cases e)
          replace S := S.set 2 0 (.bool (negB z1)) rfl
          replace nm := nm.hold H
          replace nz := nz.hold H
          replace no := no.hold H
          replace ny := ny.hold H
          replace HH := HH.trans H
          clear H
          have H := S.hset 2 1 (.slice py ly Ky) rfl rfl (by intro q n e; cases e)
          replace S := S.set 2 1 (.slice py ly Ky) rfl
          replace nm := nm.hold H
          replace nz := nz.hold H
          replace no := no.hold H
          replace ny := ny.hold H
          replace HH := HH.trans H
          clear H
          refine hKK.out _ _ trivial (fun hS => ?_)
          generalize ((w7.setCell ⟨w3.heap.size, 0, none⟩ (.bool (negB z1))).setCell ⟨w3.heap.size, 1, none⟩ (.slice py ly Ky)) = w8 at S nm nz no ny HH hS ⊢
          clear hKK KK
          try simp only [Act.put, List.setIfInBounds_toArray, List.set_cons_zero, List.set_cons_succ]
          refine wpAnyH_ready (rs := [7]) (by kernel_rfl) (by simp) (AllReadyH.cons ((List.getElem?_toArray ..).trans rfl) (fun KK hKK => ?_) AllReadyH.nil)
          go_simp
          refine hKK.out _ _ hS (fun hS => ?_)
          clear hKK KK
          try simp only [Act.put, List.setIfInBounds_toArray, List.set_cons_zero, List.set_cons_succ]
          refine wpAnyH_done (by kernel_rfl) ?_ _
          go_wp2_with fail
          go_meet
          case rel => exact ⟨py, ly, Ky, rfl, S, ny, HH⟩
        ·
          go_simp
          clear hS
          refine (S.call (wof_any 1 _ (by decide) (by decide))).mono ?_
          clear S
          rintro e w9 ⟨⟨_, rfl, po, lo, Ko, rfl, no⟩, S, H⟩
          replace nm := nm.hold H
          replace nz := nz.hold H
          replace HH := HH.trans H
          clear H
          go_wp2_with fail
          refine hKK.out _ _ trivial (fun hS => ?_)
          clear hKK KK
          try simp only [Act.put, List.setIfInBounds_toArray, List.set_cons_zero, List.set_cons_succ]
          refine wpAnyH_ready (rs := [0]) (by kernel_rfl) (by simp) (AllReadyH.cons ((List.getElem?_toArray ..).trans rfl) (fun KK hKK => ?_) AllReadyH.nil)
          have c2_0 := S.c 2 0 rfl rfl
          have c2_1 := S.c 2 1 rfl rfl
          go_simp
          clear c2_0 c2_1
          refine hKK.out _ _ hS (fun hS => ?_)
          clear hKK KK
          try simp only [Act.put, List.setIfInBounds_toArray, List.set_cons_zero, List.set_cons_succ]
          refine wpAnyH_ready (rs := [2]) (by kernel_rfl) (by simp) (AllReadyH.cons ((List.getElem?_toArray ..).trans rfl) (fun KK hKK => ?_) AllReadyH.nil)
          go_simp
          clear hS
          refine (S.call (wadd_to ⟨_, _, _, rfl, nz⟩ ⟨_, _, _, rfl, no⟩ HZ.out.2.2.2.2.1 (lt_maxN (by decide)) z1 HU.out HZ.out.2.2.2.2.2)).mono ?_
          clear S
          rintro e w10 ⟨⟨_, rfl, py, ly, Ky, rfl, ny⟩, S, H⟩
          replace nm := nm.hold H
          replace nz := nz.hold H
          replace no := no.hold H
          replace HH := HH.trans H
          clear H
          go_wp2_with fail
          refine hKK.out _ _ trivial (fun hS => ?_)
          clear hKK KK
          try simp only [Act.put, List.setIfInBounds_toArray, List.set_cons_zero, List.set_cons_succ]
          refine wpAnyH_take (i := 3) (v := ?_) ((List.getElem?_toArray ..).trans rfl) (by kernel_rfl) (by kernel_rfl) (by kernel_rfl) (fun _ _ _ h => h) (Or.inl ⟨rfl, fun W hW => ?_⟩) hS ?_
          rotate_left
          · obtain hW0 := hW; go_simp; try first | rfl | (rw [if_neg (by first | omega | (simp only [ByteArray.size_append]; first | omega | (have h1 : (ByteArray.mk #[47]).size = 1 := rfl; omega)))]; try rfl) | kernel_rfl
          try simp only [Act.put, List.setIfInBounds_toArray, List.set_cons_zero, List.set_cons_succ]
          refine wpAnyH_take (i := 4) (v := ?_) ((List.getElem?_toArray ..).trans rfl) (by kernel_rfl) (by kernel_rfl) (by kernel_rfl) (fun _ _ _ h => h) (Or.inl ⟨rfl, fun W hW => ?_⟩) hS ?_
          rotate_left
          · obtain hW0 := hW; go_simp; try first | rfl | (rw [if_neg (by first | omega | (simp only [ByteArray.size_append]; first | omega | (have h1 : (ByteArray.mk #[47]).size = 1 := rfl; omega)))]; try rfl) | kernel_rfl
          try simp only [Act.put, List.setIfInBounds_toArray, List.set_cons_zero, List.set_cons_succ]
          refine wpAnyH_take (i := 5) (v := ?_) ((List.getElem?_toArray ..).trans rfl) (by kernel_rfl) (by kernel_rfl) (by kernel_rfl) (fun _ _ _ h => h) (Or.inl ⟨rfl, fun W hW => ?_⟩) hS ?_
          rotate_left
          · obtain hW0 := hW; go_simp; try first | rfl | (rw [if_neg (by first | omega | (simp only [ByteArray.size_append]; first | omega | (have h1 : (ByteArray.mk #[47]).size = 1 := rfl; omega)))]; try rfl) | kernel_rfl
          try simp only [Act.put, List.setIfInBounds_toArray, List.set_cons_zero, List.set_cons_succ]
          refine wpAnyH_ready (rs := [6]) (by kernel_rfl) (by simp) (AllReadyH.cons ((List.getElem?_toArray ..).trans rfl) (fun KK hKK => ?_) AllReadyH.nil)
          have c0 := S.c 2 0 rfl rfl
          have f0 := S.f 2 0 rfl
          have c1 := S.c 2 1 rfl rfl
          have f1 := S.f 2 1 rfl
          go_simp
          clear hS c0 f0 c1 f1
          have H := S.hset 2 0 (.bool (negB z1)) rfl rfl (by intro q n e; cases e)
          replace S := S.set 2 0 (.bool (negB z1)) rfl
          replace nm := nm.hold H
          replace nz := nz.hold H
          replace no := no.hold H
          replace ny := ny.hold H
          replace HH := HH.trans H
          clear H
          have H := S.hset 2 1 (.slice py ly Ky) rfl rfl (by intro q n e; cases e)
          replace S := S.set 2 1 (.slice py ly Ky) rfl
          replace nm := nm.hold H
          replace nz := nz.hold H
          replace no := no.hold H
          replace ny := ny.hold H
          replace HH := HH.trans H
          clear H
          refine hKK.out _ _ trivial (fun hS => ?_)
          generalize ((w10.setCell ⟨w3.heap.size, 0, none⟩ (.bool (negB z1))).setCell ⟨w3.heap.size, 1, none⟩ (.slice py ly Ky)) = w11 at S nm nz no ny HH hS ⊢
          clear hKK KK
          try simp only [Act.put, List.setIfInBounds_toArray, List.set_cons_zero, List.set_cons_succ]
          refine wpAnyH_ready (rs := [7]) (by kernel_rfl) (by simp) (AllReadyH.cons ((List.getElem?_toArray ..).trans rfl) (fun KK hKK => ?_) AllReadyH.nil)
          go_simp
          refine hKK.out _ _ hS (fun hS => ?_)
          clear hKK KK
          try simp only [Act.put, List.setIfInBounds_toArray, List.set_cons_zero, List.set_cons_succ]
          refine wpAnyH_done (by kernel_rfl) ?_ _
          go_wp2_with fail
          go_meet
          case rel => exact ⟨py, ly, Ky, rfl, S, ny, HH⟩
      case rest =>
        obtain ⟨py, ly, Ky, rfl, S, ny, HH⟩ := hcut
        obtain ⟨w12, rfl⟩ : ∃ W : World, W = wc := ⟨_, rfl⟩
        replace nm := nm.hold HH
        replace nz := nz.hold HH
        clear HH
        have c0_0 := S.c 0 0 rfl rfl
        have c0_1 := S.c 0 1 rfl rfl
        have c0_2 := S.c 0 2 rfl rfl
        have c1_0 := S.c 1 0 rfl rfl
        have c1_1 := S.c 1 1 rfl rfl
        have c1_2 := S.c 1 2 rfl rfl
        have c2_0 := S.c 2 0 rfl rfl
        have c2_1 := S.c 2 1 rfl rfl
        go_wp2_with fail
        clear c0_0 c0_1 c0_2 c1_0 c1_1 c1_2 c2_0 c2_1
        refine (S.call (dtimes_any (HD.out.1.below S.below) ⟨_, _, _, rfl, ny⟩ HZ.out.2.1 HD.out.2.2.2 y HZ.out.2.2.1)).mono ?_
        clear S
        rintro e w13 ⟨⟨_, rfl, b3, p3, l3, K3, m3, e3, rfl, h3, n3, d3⟩, S, H⟩
        replace nm := nm.hold H
        replace nz := nz.hold H
        replace ny := ny.hold H
        clear H
        have c0_0 := S.c 0 0 rfl rfl
        have c0_1 := S.c 0 1 rfl rfl
        have c0_2 := S.c 0 2 rfl rfl
        have c1_0 := S.c 1 0 rfl rfl
        have c1_1 := S.c 1 1 rfl rfl
        have c1_2 := S.c 1 2 rfl rfl
        have c2_0 := S.c 2 0 rfl rfl
        have c2_1 := S.c 2 1 rfl rfl
        have f1_0 := S.f 1 0 rfl
        have H := S.hset 1 0 (.bool b3) rfl rfl (by intro q n e; cases e)
        replace S := S.set 1 0 (.bool b3) rfl
        replace nm := nm.hold H
        replace nz := nz.hold H
        replace ny := ny.hold H
        replace n3 := n3.hold H
        clear H
        have f1_1 := S.f 1 1 rfl
        have H := S.hset 1 1 (.slice p3 l3 K3) rfl rfl (by intro q n e; cases e)
        replace S := S.set 1 1 (.slice p3 l3 K3) rfl
        replace nm := nm.hold H
        replace nz := nz.hold H
        replace ny := ny.hold H
        replace n3 := n3.hold H
        clear H
        have f1_2 := S.f 1 2 rfl
        have H := S.hset32 1 2 (.int .i64 e3) rfl rfl (by intro n e; cases e)
        replace S := S.set 1 2 (.int .i64 e3) rfl
        replace nm := nm.hold32 H
        replace nz := nz.hold32 H
        replace ny := ny.hold32 H
        replace n3 := n3.hold32 H
        clear H
        go_wp2_with fail
        have d1_0 := S.c 1 0 rfl rfl
        have d1_1 := S.c 1 1 rfl rfl
        have d1_2 := S.c 1 2 rfl rfl
        exact bodyPost_ret (v := .tuple #[.agg #[.bool b3, .slice p3 l3 K3, .int .i64 e3], .int .i64 0]) (by simp [results, Tryd.f6, go_sem, d1_0, d1_1, d1_2]) rfl (⟨⟨_, rfl, b3, p3, l3, K3, m3, e3, rfl, h3, n3, d3⟩, S.below⟩)
    | false =>
      have HU := Lib.hid (show z = z1 by rw [← hz1, ← HZ.out.1]; unfold rndI; rw [if_neg (by decide), Int.add_zero])
      clear hz1
      have S := ((St.start w).alloc 27 [.bool b, .slice p l K, .int .i64 e] (w.heap.size)).alloc 27 [.bool false, .slice none 0 0, .int .i64 0] (w.heap.size + 1)
      simp only [List.cons_append, List.nil_append] at S
      replace nm := nm.hold S.hold
      have c0_0 := S.c 0 0 rfl rfl
      have c0_1 := S.c 0 1 rfl rfl
      have c0_2 := S.c 0 2 rfl rfl
      have c1_0 := S.c 1 0 rfl rfl
      have c1_1 := S.c 1 1 rfl rfl
      have c1_2 := S.c 1 2 rfl rfl
      go_enter Tryd.func6, Tryd.ntmps6
      go_wp2_with fail
      clear c0_0 c0_1 c0_2 c1_0 c1_1 c1_2
      refine (S.call (bits_in n _ HN.out.1 HN.out.2)).mono ?_
      clear S
      rintro e w1 ⟨rfl, S, H⟩
      replace nm := nm.hold H
      clear H
      have c0_0 := S.c 0 0 rfl rfl
      have c0_1 := S.c 0 1 rfl rfl
      have c0_2 := S.c 0 2 rfl rfl
      have c1_0 := S.c 1 0 rfl rfl
      have c1_1 := S.c 1 1 rfl rfl
      have c1_2 := S.c 1 2 rfl rfl
      go_wp2_with fail
      clear c0_0 c0_1 c0_2 c1_0 c1_1 c1_2
      refine (S.call (bits_nat nm HD.out.2.2.1 HD.out.2.1)).mono ?_
      clear S
      rintro e w2 ⟨rfl, S, H⟩
      replace nm := nm.hold H
      clear H
      have c0_0 := S.c 0 0 rfl rfl
      have c0_1 := S.c 0 1 rfl rfl
      have c0_2 := S.c 0 2 rfl rfl
      have c1_0 := S.c 1 0 rfl rfl
      have c1_1 := S.c 1 1 rfl rfl
      have c1_2 := S.c 1 2 rfl rfl
      clear c0_0 c0_1 c0_2 c1_0 c1_1 c1_2
      have c0_0 := S.c 0 0 rfl rfl
      have c0_1 := S.c 0 1 rfl rfl
      have c0_2 := S.c 0 2 rfl rfl
      have c1_0 := S.c 1 0 rfl rfl
      have c1_1 := S.c 1 1 rfl rfl
      have c1_2 := S.c 1 2 rfl rfl
      go_wp2_with fail
      clear c0_0 c0_1 c0_2 c1_0 c1_1 c1_2
      refine (S.call (wright_any (HD.out.1.below S.below) ⟨_, _, _, by rw [hb.out], nm⟩ HD.out.2.2.1 v HZ.out.2.2.2.1 z HZ.out.1)).mono ?_
      clear S
      rintro e w3 ⟨⟨_, rfl, pz, lz, Kz, rfl, nz⟩, S, H⟩
      replace nm := nm.hold H
      clear H
      have c0_0 := S.c 0 0 rfl rfl
      have c0_1 := S.c 0 1 rfl rfl
      have c0_2 := S.c 0 2 rfl rfl
      have c1_0 := S.c 1 0 rfl rfl
      have c1_1 := S.c 1 1 rfl rfl
      have c1_2 := S.c 1 2 rfl rfl
      have H := S.hnew 25 [.bool (negB z), .slice pz lz Kz]
      replace S := S.alloc 25 [.bool (negB z), .slice pz lz Kz] (w3.heap.size)
      simp only [List.cons_append, List.nil_append] at S
      replace nm := nm.hold H
      replace nz := nz.hold H
      clear H
      clear c0_0 c0_1 c0_2 c1_0 c1_1 c1_2
      have c0_0 := S.c 0 0 rfl rfl
      have c0_1 := S.c 0 1 rfl rfl
      have c0_2 := S.c 0 2 rfl rfl
      have c1_0 := S.c 1 0 rfl rfl
      have c1_1 := S.c 1 1 rfl rfl
      have c1_2 := S.c 1 2 rfl rfl
      have c2_0 := S.c 2 0 rfl rfl
      have c2_1 := S.c 2 1 rfl rfl
      go_wp2_with fail
      clear c0_0 c0_1 c0_2 c1_0 c1_1 c1_2 c2_0 c2_1
      refine (S.call (dtimes_any (HD.out.1.below S.below) ⟨_, _, _, rfl, nz⟩ (by rw [HU.out]; exact HZ.out.2.1) HD.out.2.2.2 y (by rw [HU.out]; exact HZ.out.2.2.1))).mono ?_
      clear S
      rintro e w4 ⟨⟨_, rfl, b3, p3, l3, K3, m3, e3, rfl, h3, n3, d3⟩, S, H⟩
      replace nm := nm.hold H
      replace nz := nz.hold H
      clear H
      have c0_0 := S.c 0 0 rfl rfl
      have c0_1 := S.c 0 1 rfl rfl
      have c0_2 := S.c 0 2 rfl rfl
      have c1_0 := S.c 1 0 rfl rfl
      have c1_1 := S.c 1 1 rfl rfl
      have c1_2 := S.c 1 2 rfl rfl
      have c2_0 := S.c 2 0 rfl rfl
      have c2_1 := S.c 2 1 rfl rfl
      have f1_0 := S.f 1 0 rfl
      have H := S.hset 1 0 (.bool b3) rfl rfl (by intro q n e; cases e)
      replace S := S.set 1 0 (.bool b3) rfl
      replace nm := nm.hold H
      replace nz := nz.hold H
      replace n3 := n3.hold H
      clear H
      have f1_1 := S.f 1 1 rfl
      have H := S.hset 1 1 (.slice p3 l3 K3) rfl rfl (by intro q n e; cases e)
      replace S := S.set 1 1 (.slice p3 l3 K3) rfl
      replace nm := nm.hold H
      replace nz := nz.hold H
      replace n3 := n3.hold H
      clear H
      have f1_2 := S.f 1 2 rfl
      have H := S.hset32 1 2 (.int .i64 e3) rfl rfl (by intro n e; cases e)
      replace S := S.set 1 2 (.int .i64 e3) rfl
      replace nm := nm.hold32 H
      replace nz := nz.hold32 H
      replace n3 := n3.hold32 H
      clear H
      go_wp2_with fail
      have d1_0 := S.c 1 0 rfl rfl
      have d1_1 := S.c 1 1 rfl rfl
      have d1_2 := S.c 1 2 rfl rfl
      exact bodyPost_ret (v := .tuple #[.agg #[.bool b3, .slice p3 l3 K3, .int .i64 e3], .int .i64 0]) (by simp [results, Tryd.f6, go_sem, d1_0, d1_1, d1_2]) rfl (⟨⟨_, rfl, b3, p3, l3, K3, m3, e3, rfl, h3, n3, d3⟩, S.below⟩)

set_option maxRecDepth 100000 in
theorem dround_bad {b : Bool} {p : Option Addr} {l K : Nat} {e : Int} {w : World} (n : Int) (hn : n < 2 ∨ 4096 < n) (up : Bool) :
    Calls Tryd.prog 6 #[.agg #[.bool b, .slice p l K, .int .i64 e], .int .i64 n, .bool up] w fun ev w' => ev = .returned (.tuple #[.agg #[.bool false, .slice none 0 0, .int .i64 0], .int .i64 1]) ∧ Below w.heap.size w w' := by
  have HN := Lib.hid hn
  clear hn
  have S := ((St.start w).alloc 27 [.bool b, .slice p l K, .int .i64 e] (w.heap.size)).alloc 27 [.bool false, .slice none 0 0, .int .i64 0] (w.heap.size + 1)
  simp only [List.cons_append, List.nil_append] at S
  have c0_0 := S.c 0 0 rfl rfl
  have c0_1 := S.c 0 1 rfl rfl
  have c0_2 := S.c 0 2 rfl rfl
  have c1_0 := S.c 1 0 rfl rfl
  have c1_1 := S.c 1 1 rfl rfl
  have c1_2 := S.c 1 2 rfl rfl
  go_enter Tryd.func6, Tryd.ntmps6
  go_wp2_with fail
  clear c0_0 c0_1 c0_2 c1_0 c1_1 c1_2
  refine (S.call (bits_out n _ HN.out)).mono ?_
  clear S
  rintro e w1 ⟨rfl, S, H⟩
  clear H
  have c0_0 := S.c 0 0 rfl rfl
  have c0_1 := S.c 0 1 rfl rfl
  have c0_2 := S.c 0 2 rfl rfl
  have c1_0 := S.c 1 0 rfl rfl
  have c1_1 := S.c 1 1 rfl rfl
  have c1_2 := S.c 1 2 rfl rfl
  have f1_0 := S.f 1 0 rfl
  have H := S.hset 1 0 (.bool false) rfl rfl (by intro q n e; cases e)
  replace S := S.set 1 0 (.bool false) rfl
  clear H
  have f1_1 := S.f 1 1 rfl
  have H := S.hset 1 1 (.slice none 0 0) rfl rfl (by intro q n e; cases e)
  replace S := S.set 1 1 (.slice none 0 0) rfl
  clear H
  have f1_2 := S.f 1 2 rfl
  have H := S.hset32 1 2 (.int .i64 0) rfl rfl (by intro n e; cases e)
  replace S := S.set 1 2 (.int .i64 0) rfl
  clear H
  go_wp2_with fail
  have d1_0 := S.c 1 0 rfl rfl
  have d1_1 := S.c 1 1 rfl rfl
  have d1_2 := S.c 1 2 rfl rfl
  exact bodyPost_ret (v := .tuple #[.agg #[.bool false, .slice none 0 0, .int .i64 0], .int .i64 1]) (by simp [results, Tryd.f6, go_sem, d1_0, d1_1, d1_2]) rfl (⟨rfl, S.below⟩)

end Go.Proofs.YtnkmcikjeicpfaaDoor

namespace Go.Proofs.YtnkmcikjeicpfaaDoor
open Go.RowKit

/-- One number divided by another one above nothing, rounded down, or up. -/
def divI (n d : Int) (up : Bool) : Int := if up = true ∧ 0 < n % d then n / d + 1 else n / d

set_option maxRecDepth 100000 in
set_option maxHeartbeats 8000000 in
theorem divided_pos {va vb : Value} {n d : Int} {w : World} (ha : IsInt w va n) (hb : IsInt w vb d) (hn : n.natAbs < maxN) (hd : d.natAbs < maxN) (s : Nat) (hs : s ≤ 100000) (N D : Int) (hN : n * 2 ^ s = N) (hD : d = D) (hfit : n.natAbs * 2 ^ s < maxN) (hNm : N.natAbs < maxN) (hDm : D.natAbs < maxN) (hD0 : 0 < D) (up : Bool) (z : Int) (hz : divI N D up = z) (hzm : z.natAbs < maxN) :
    Calls Tryd.prog 48 #[va, vb, .int .i64 (s : Int), .bool up] w fun ev w' => (∃ u, ev = .returned (.tuple #[u, .int .i64 0]) ∧ IsInt w' u z) ∧ Below w.heap.size w w' := by
  obtain ⟨p1, l1, K1, rfl, n1⟩ := ha
  obtain ⟨p2, l2, K2, rfl, n2⟩ := hb
  obtain ⟨b1, hb1⟩ : ∃ b1, negB n = b1 := ⟨_, rfl⟩
  obtain ⟨b2, hb2⟩ : ∃ b2, negB d = b2 := ⟨_, rfl⟩
  rw [hb1, hb2]
  have hsI : ¬ (s : Int) < 0 := by omega
  obtain ⟨q, hq⟩ : ∃ q, N / D = q := ⟨_, rfl⟩
  obtain ⟨r, hr⟩ : ∃ r, N % D = r := ⟨_, rfl⟩
  have hr0 : 0 ≤ r := by rw [← hr]; exact Int.emod_nonneg N (by omega)
  have hqm : q.natAbs < maxN := by rw [← hq]; exact Nat.lt_of_le_of_lt (Int.natAbs_ediv_le_natAbs _ _) hNm
  have hrm : r.natAbs < maxN := by have := Int.emod_lt_of_pos N hD0; omega
  have hzq : z = if up = true ∧ 0 < r then q + 1 else q := by rw [← hz]; unfold divI; rw [hq, hr]
  have HD := Lib.hid (And.intro hn (And.intro hd (And.intro (show s ≤ 9223372036854775807 by omega) (And.intro hN (And.intro hD (And.intro hfit (And.intro hb1 hb2)))))))
  have HQ := Lib.hid (And.intro hq (And.intro hr (And.intro hqm (And.intro hrm (And.intro hzm (And.intro hNm (And.intro hDm (show D ≠ 0 by omega))))))))
  clear hn hd hs hN hD hfit hb1 hb2 hq hr hqm hrm hzm hNm hDm hD0 hz
  obtain ⟨g, hg⟩ : ∃ g, r.sign = g := ⟨_, rfl⟩
  have HG := Lib.hid hg
  cases up with
  | false =>
    have HZ : z = q := by rw [hzq]; simp
    clear hzq hg
    have S := (((St.start w).alloc 25 [.bool b1, .slice p1 l1 K1] (w.heap.size)).alloc 25 [.bool b2, .slice p2 l2 K2] (w.heap.size + 1)).alloc 25 [.bool false, .slice none 0 0] (w.heap.size + 1 + 1)
    try simp only [List.cons_append, List.nil_append] at S
    replace n1 := n1.hold S.hold
    replace n2 := n2.hold S.hold
    have c0_0 := S.c 0 0 rfl rfl
    have c0_1 := S.c 0 1 rfl rfl
    have c1_0 := S.c 1 0 rfl rfl
    have c1_1 := S.c 1 1 rfl rfl
    have c2_0 := S.c 2 0 rfl rfl
    have c2_1 := S.c 2 1 rfl rfl
    go_enter Tryd.func48, Tryd.ntmps48
    go_wp2_with fail
    clear c0_0 c0_1 c1_0 c1_1 c2_0 c2_1
    refine (S.call (wleft_any ⟨_, _, _, by rw [HD.out.2.2.2.2.2.2.1], n1⟩ HD.out.1 s HD.out.2.2.1 HD.out.2.2.2.2.2.1 N HD.out.2.2.2.1)).mono ?_
    clear S
    rintro e w1 ⟨⟨_, rfl, pN, lN, KN, rfl, nN⟩, S, H⟩
    replace n1 := n1.hold H
    replace n2 := n2.hold H
    clear H
    have c0_0 := S.c 0 0 rfl rfl
    have c0_1 := S.c 0 1 rfl rfl
    have c1_0 := S.c 1 0 rfl rfl
    have c1_1 := S.c 1 1 rfl rfl
    have c2_0 := S.c 2 0 rfl rfl
    have c2_1 := S.c 2 1 rfl rfl
    have f0_0 := S.f 0 0 rfl
    have H := S.hset 0 0 (.bool (negB N)) rfl rfl (by intro q n e; cases e)
    replace S := S.set 0 0 (.bool (negB N)) rfl
    replace n1 := n1.hold H
    replace n2 := n2.hold H
    replace nN := nN.hold H
    clear H
    have f0_1 := S.f 0 1 rfl
    have H := S.hset 0 1 (.slice pN lN KN) rfl rfl (by intro q n e; cases e)
    replace S := S.set 0 1 (.slice pN lN KN) rfl
    replace n1 := n1.hold H
    replace n2 := n2.hold H
    replace nN := nN.hold H
    clear H
    have c0_0 := S.c 0 0 rfl rfl
    have c0_1 := S.c 0 1 rfl rfl
    have c1_0 := S.c 1 0 rfl rfl
    have c1_1 := S.c 1 1 rfl rfl
    go_wp2_with fail
    clear c0_0 c0_1 c1_0 c1_1 c2_0 c2_1 f0_0 f0_1
    clear c0_0 c0_1 c1_0 c1_1
    refine (S.call (wdiv_to ⟨_, _, _, rfl, nN⟩ ⟨_, _, _, by rw [← HD.out.2.2.2.2.1, HD.out.2.2.2.2.2.2.2], by rw [← HD.out.2.2.2.2.1]; exact n2⟩ HQ.out.2.2.2.2.2.1 HQ.out.2.2.2.2.2.2.1 q r HQ.out.2.2.2.2.2.2.2 HQ.out.1 HQ.out.2.1)).mono ?_
    clear S
    rintro e w2 ⟨⟨_, _, rfl, ⟨pq, lq, Kq, rfl, nq⟩, ⟨pr, lr, Kr, rfl, nr⟩⟩, S, H⟩
    replace n1 := n1.hold H
    replace n2 := n2.hold H
    replace nN := nN.hold H
    clear H
    have c0_0 := S.c 0 0 rfl rfl
    have c0_1 := S.c 0 1 rfl rfl
    have c1_0 := S.c 1 0 rfl rfl
    have c1_1 := S.c 1 1 rfl rfl
    have c2_0 := S.c 2 0 rfl rfl
    have c2_1 := S.c 2 1 rfl rfl
    have H := S.hnew 25 [.bool (negB q), .slice pq lq Kq]
    replace S := S.alloc 25 [.bool (negB q), .slice pq lq Kq] (w2.heap.size)
    try simp only [List.cons_append, List.nil_append] at S
    replace n1 := n1.hold H
    replace n2 := n2.hold H
    replace nN := nN.hold H
    replace nq := nq.hold H
    replace nr := nr.hold H
    clear H
    have H := S.hnew 25 [.bool (negB r), .slice pr lr Kr]
    replace S := S.alloc 25 [.bool (negB r), .slice pr lr Kr] (w2.heap.size + 1)
    try simp only [List.cons_append, List.nil_append] at S
    replace n1 := n1.hold H
    replace n2 := n2.hold H
    replace nN := nN.hold H
    replace nq := nq.hold H
    replace nr := nr.hold H
    clear H
    clear c0_0 c0_1 c1_0 c1_1 c2_0 c2_1
    have c0_0 := S.c 0 0 rfl rfl
    have c0_1 := S.c 0 1 rfl rfl
    have c1_0 := S.c 1 0 rfl rfl
    have c1_1 := S.c 1 1 rfl rfl
    have c2_0 := S.c 2 0 rfl rfl
    have c2_1 := S.c 2 1 rfl rfl
    have c3_0 := S.c 3 0 rfl rfl
    have c3_1 := S.c 3 1 rfl rfl
    have c4_0 := S.c 4 0 rfl rfl
    have c4_1 := S.c 4 1 rfl rfl
    subst HZ
    have f2_0 := S.f 2 0 rfl
    have H := S.hset 2 0 (.bool (negB z)) rfl rfl (by intro q n e; cases e)
    replace S := S.set 2 0 (.bool (negB z)) rfl
    replace n1 := n1.hold H
    replace n2 := n2.hold H
    replace nN := nN.hold H
    replace nq := nq.hold H
    replace nr := nr.hold H
    clear H
    have f2_1 := S.f 2 1 rfl
    have H := S.hset 2 1 (.slice pq lq Kq) rfl rfl (by intro q n e; cases e)
    replace S := S.set 2 1 (.slice pq lq Kq) rfl
    replace n1 := n1.hold H
    replace n2 := n2.hold H
    replace nN := nN.hold H
    replace nq := nq.hold H
    replace nr := nr.hold H
    clear H
    go_wp2_with fail
    have d2_0 := S.c 2 0 rfl rfl
    have d2_1 := S.c 2 1 rfl rfl
    exact bodyPost_ret (v := .tuple #[.agg #[.bool (negB z), .slice pq lq Kq], .int .i64 0]) (by simp [results, Tryd.f48, go_sem, d2_0, d2_1]) rfl (⟨⟨_, rfl, pq, lq, Kq, rfl, nq⟩, S.below⟩)
  | true =>
    by_cases h0 : 0 < r
    · have HZ := Lib.hid (show q + 1 = z by rw [hzq, if_pos ⟨rfl, h0⟩])
      have hg1 : g = 1 := by rw [← hg]; exact Int.sign_eq_one_of_pos h0
      subst hg1
      clear hzq hg h0 hr0
      have S := (((St.start w).alloc 25 [.bool b1, .slice p1 l1 K1] (w.heap.size)).alloc 25 [.bool b2, .slice p2 l2 K2] (w.heap.size + 1)).alloc 25 [.bool false, .slice none 0 0] (w.heap.size + 1 + 1)
      try simp only [List.cons_append, List.nil_append] at S
      replace n1 := n1.hold S.hold
      replace n2 := n2.hold S.hold
      have c0_0 := S.c 0 0 rfl rfl
      have c0_1 := S.c 0 1 rfl rfl
      have c1_0 := S.c 1 0 rfl rfl
      have c1_1 := S.c 1 1 rfl rfl
      have c2_0 := S.c 2 0 rfl rfl
      have c2_1 := S.c 2 1 rfl rfl
      go_enter Tryd.func48, Tryd.ntmps48
      go_wp2_with fail
      clear c0_0 c0_1 c1_0 c1_1 c2_0 c2_1
      refine (S.call (wleft_any ⟨_, _, _, by rw [HD.out.2.2.2.2.2.2.1], n1⟩ HD.out.1 s HD.out.2.2.1 HD.out.2.2.2.2.2.1 N HD.out.2.2.2.1)).mono ?_
      clear S
      rintro e w1 ⟨⟨_, rfl, pN, lN, KN, rfl, nN⟩, S, H⟩
      replace n1 := n1.hold H
      replace n2 := n2.hold H
      clear H
      have c0_0 := S.c 0 0 rfl rfl
      have c0_1 := S.c 0 1 rfl rfl
      have c1_0 := S.c 1 0 rfl rfl
      have c1_1 := S.c 1 1 rfl rfl
      have c2_0 := S.c 2 0 rfl rfl
      have c2_1 := S.c 2 1 rfl rfl
      have f0_0 := S.f 0 0 rfl
      have H := S.hset 0 0 (.bool (negB N)) rfl rfl (by intro q n e; cases e)
      replace S := S.set 0 0 (.bool (negB N)) rfl
      replace n1 := n1.hold H
      replace n2 := n2.hold H
      replace nN := nN.hold H
      clear H
      have f0_1 := S.f 0 1 rfl
      have H := S.hset 0 1 (.slice pN lN KN) rfl rfl (by intro q n e; cases e)
      replace S := S.set 0 1 (.slice pN lN KN) rfl
      replace n1 := n1.hold H
      replace n2 := n2.hold H
      replace nN := nN.hold H
      clear H
      have c0_0 := S.c 0 0 rfl rfl
      have c0_1 := S.c 0 1 rfl rfl
      have c1_0 := S.c 1 0 rfl rfl
      have c1_1 := S.c 1 1 rfl rfl
      go_wp2_with fail
      clear c0_0 c0_1 c1_0 c1_1 c2_0 c2_1 f0_0 f0_1
      clear c0_0 c0_1 c1_0 c1_1
      refine (S.call (wdiv_to ⟨_, _, _, rfl, nN⟩ ⟨_, _, _, by rw [← HD.out.2.2.2.2.1, HD.out.2.2.2.2.2.2.2], by rw [← HD.out.2.2.2.2.1]; exact n2⟩ HQ.out.2.2.2.2.2.1 HQ.out.2.2.2.2.2.2.1 q r HQ.out.2.2.2.2.2.2.2 HQ.out.1 HQ.out.2.1)).mono ?_
      clear S
      rintro e w2 ⟨⟨_, _, rfl, ⟨pq, lq, Kq, rfl, nq⟩, ⟨pr, lr, Kr, rfl, nr⟩⟩, S, H⟩
      replace n1 := n1.hold H
      replace n2 := n2.hold H
      replace nN := nN.hold H
      clear H
      have c0_0 := S.c 0 0 rfl rfl
      have c0_1 := S.c 0 1 rfl rfl
      have c1_0 := S.c 1 0 rfl rfl
      have c1_1 := S.c 1 1 rfl rfl
      have c2_0 := S.c 2 0 rfl rfl
      have c2_1 := S.c 2 1 rfl rfl
      have H := S.hnew 25 [.bool (negB q), .slice pq lq Kq]
      replace S := S.alloc 25 [.bool (negB q), .slice pq lq Kq] (w2.heap.size)
      try simp only [List.cons_append, List.nil_append] at S
      replace n1 := n1.hold H
      replace n2 := n2.hold H
      replace nN := nN.hold H
      replace nq := nq.hold H
      replace nr := nr.hold H
      clear H
      have H := S.hnew 25 [.bool (negB r), .slice pr lr Kr]
      replace S := S.alloc 25 [.bool (negB r), .slice pr lr Kr] (w2.heap.size + 1)
      try simp only [List.cons_append, List.nil_append] at S
      replace n1 := n1.hold H
      replace n2 := n2.hold H
      replace nN := nN.hold H
      replace nq := nq.hold H
      replace nr := nr.hold H
      clear H
      clear c0_0 c0_1 c1_0 c1_1 c2_0 c2_1
      have c0_0 := S.c 0 0 rfl rfl
      have c0_1 := S.c 0 1 rfl rfl
      have c1_0 := S.c 1 0 rfl rfl
      have c1_1 := S.c 1 1 rfl rfl
      have c2_0 := S.c 2 0 rfl rfl
      have c2_1 := S.c 2 1 rfl rfl
      have c3_0 := S.c 3 0 rfl rfl
      have c3_1 := S.c 3 1 rfl rfl
      have c4_0 := S.c 4 0 rfl rfl
      have c4_1 := S.c 4 1 rfl rfl
      go_wp2_with fail
      clear c0_0 c0_1 c1_0 c1_1 c2_0 c2_1 c3_0 c3_1 c4_0 c4_1
      refine (S.call (wsign_any ⟨_, _, _, rfl, nr⟩ HQ.out.2.2.2.1 HG.out)).mono ?_
      clear S
      rintro e w3 ⟨rfl, S, H⟩
      replace n1 := n1.hold H
      replace n2 := n2.hold H
      replace nN := nN.hold H
      replace nq := nq.hold H
      replace nr := nr.hold H
      clear H
      have c0_0 := S.c 0 0 rfl rfl
      have c0_1 := S.c 0 1 rfl rfl
      have c1_0 := S.c 1 0 rfl rfl
      have c1_1 := S.c 1 1 rfl rfl
      have c2_0 := S.c 2 0 rfl rfl
      have c2_1 := S.c 2 1 rfl rfl
      have c3_0 := S.c 3 0 rfl rfl
      have c3_1 := S.c 3 1 rfl rfl
      have c4_0 := S.c 4 0 rfl rfl
      have c4_1 := S.c 4 1 rfl rfl
      go_upto_region 9 with fail
      clear c0_0 c0_1 c1_0 c1_1 c2_0 c2_1 c3_0 c3_1 c4_0 c4_1
      go_cut [10] (fun s10 wx => ∃ py ly Ky, s10 = .int .i64 0 ∧ St w wx [(w.heap.size, 25, [.bool (negB N), .slice pN lN KN]), (w.heap.size + 1, 25, [.bool b2, .slice p2 l2 K2]), (w.heap.size + 1 + 1, 25, [.bool false, .slice none 0 0]), (w2.heap.size, 25, [.bool (negB z), .slice py ly Ky]), (w2.heap.size + 1, 25, [.bool (negB r), .slice pr lr Kr])] ∧ IsNat wx (.slice py ly Ky) z.natAbs ∧ Hold w3 wx)
      case first =>
        have HH := Hold.drew w3
        replace n1 := n1.hold HH
        replace n2 := n2.hold HH
        replace nN := nN.hold HH
        replace nq := nq.hold HH
        replace nr := nr.hold HH
        replace S := S.drew
        refine wp_region_held_drew (S := fun W => True) (by kernel_rfl) trivial (fun hS => ?_)
        generalize w3.drew = w4 at S n1 n2 nN nq nr HH hS ⊢
        refine wpAnyH_ready (rs := [0, 1]) (by kernel_rfl) (by simp) (AllReadyH.cons ((List.getElem?_toArray ..).trans rfl) (fun KK hKK => ?_) (AllReadyH.cons ((List.getElem?_toArray ..).trans rfl) (fun KK hKK => ?_) AllReadyH.nil))
        ·
          have c3_0 := S.c 3 0 rfl rfl
          have c3_1 := S.c 3 1 rfl rfl
          go_simp
          clear c3_0 c3_1
          refine hKK.out _ _ hS (fun hS => ?_)
          clear hKK KK
          try simp only [Act.put, List.setIfInBounds_toArray, List.set_cons_zero, List.set_cons_succ]
          refine wpAnyH_ready (rs := [1]) (by kernel_rfl) (by simp) (AllReadyH.cons ((List.getElem?_toArray ..).trans rfl) (fun KK hKK => ?_) AllReadyH.nil)
          go_simp
          clear hS
          refine (S.call (wof_any 1 _ (by decide) (by decide))).mono ?_
          clear S
          rintro e w5 ⟨⟨_, rfl, po, lo, Ko, rfl, no⟩, S, H⟩
          replace n1 := n1.hold H
          replace n2 := n2.hold H
          replace nN := nN.hold H
          replace nq := nq.hold H
          replace nr := nr.hold H
          replace HH := HH.trans H
          clear H
          go_wp2_with fail
          refine hKK.out _ _ trivial (fun hS => ?_)
          clear hKK KK
          try simp only [Act.put, List.setIfInBounds_toArray, List.set_cons_zero, List.set_cons_succ]
          refine wpAnyH_ready (rs := [2]) (by kernel_rfl) (by simp) (AllReadyH.cons ((List.getElem?_toArray ..).trans rfl) (fun KK hKK => ?_) AllReadyH.nil)
          go_simp
          clear hS
          refine (S.call (wadd_to ⟨_, _, _, rfl, nq⟩ ⟨_, _, _, rfl, no⟩ HQ.out.2.2.1 (lt_maxN (by decide)) z HZ.out HQ.out.2.2.2.2.1)).mono ?_
          clear S
          rintro e w6 ⟨⟨_, rfl, py, ly, Ky, rfl, ny⟩, S, H⟩
          replace n1 := n1.hold H
          replace n2 := n2.hold H
          replace nN := nN.hold H
          replace nq := nq.hold H
          replace nr := nr.hold H
          replace no := no.hold H
          replace HH := HH.trans H
          clear H
          go_wp2_with fail
          refine hKK.out _ _ trivial (fun hS => ?_)
          clear hKK KK
          try simp only [Act.put, List.setIfInBounds_toArray, List.set_cons_zero, List.set_cons_succ]
          refine wpAnyH_take (i := 3) (v := ?_) ((List.getElem?_toArray ..).trans rfl) (by kernel_rfl) (by kernel_rfl) (by kernel_rfl) (fun _ _ _ h => h) (Or.inl ⟨rfl, fun W hW => ?_⟩) hS ?_
          rotate_left
          · obtain hW0 := hW; go_simp; try first | rfl | (rw [if_neg (by first | omega | (simp only [ByteArray.size_append]; first | omega | (have h1 : (ByteArray.mk #[47]).size = 1 := rfl; omega)))]; try rfl) | kernel_rfl
          try simp only [Act.put, List.setIfInBounds_toArray, List.set_cons_zero, List.set_cons_succ]
          refine wpAnyH_take (i := 4) (v := ?_) ((List.getElem?_toArray ..).trans rfl) (by kernel_rfl) (by kernel_rfl) (by kernel_rfl) (fun _ _ _ h => h) (Or.inl ⟨rfl, fun W hW => ?_⟩) hS ?_
          rotate_left
          · obtain hW0 := hW; go_simp; try first | rfl | (rw [if_neg (by first | omega | (simp only [ByteArray.size_append]; first | omega | (have h1 : (ByteArray.mk #[47]).size = 1 := rfl; omega)))]; try rfl) | kernel_rfl
          try simp only [Act.put, List.setIfInBounds_toArray, List.set_cons_zero, List.set_cons_succ]
          refine wpAnyH_take (i := 5) (v := ?_) ((List.getElem?_toArray ..).trans rfl) (by kernel_rfl) (by kernel_rfl) (by kernel_rfl) (fun _ _ _ h => h) (Or.inl ⟨rfl, fun W hW => ?_⟩) hS ?_
          rotate_left
          · obtain hW0 := hW; go_simp; try first | rfl | (rw [if_neg (by first | omega | (simp only [ByteArray.size_append]; first | omega | (have h1 : (ByteArray.mk #[47]).size = 1 := rfl; omega)))]; try rfl) | kernel_rfl
          try simp only [Act.put, List.setIfInBounds_toArray, List.set_cons_zero, List.set_cons_succ]
          refine wpAnyH_ready (rs := [6]) (by kernel_rfl) (by simp) (AllReadyH.cons ((List.getElem?_toArray ..).trans rfl) (fun KK hKK => ?_) AllReadyH.nil)
          have c0 := S.c 3 0 rfl rfl
          have f0 := S.f 3 0 rfl
          have c1 := S.c 3 1 rfl rfl
          have f1 := S.f 3 1 rfl
          go_simp
          clear hS c0 f0 c1 f1
          have H := S.hset 3 0 (.bool (negB z)) rfl rfl (by intro q n e; cases e)
          replace S := S.set 3 0 (.bool (negB z)) rfl
          replace n1 := n1.hold H
          replace n2 := n2.hold H
          replace nN := nN.hold H
          replace nq := nq.hold H
          replace nr := nr.hold H
          replace no := no.hold H
          replace ny := ny.hold H
          replace HH := HH.trans H
          clear H
          have H := S.hset 3 1 (.slice py ly Ky) rfl rfl (by intro q n e; cases e)
          replace S := S.set 3 1 (.slice py ly Ky) rfl
          replace n1 := n1.hold H
          replace n2 := n2.hold H
          replace nN := nN.hold H
          replace nq := nq.hold H
          replace nr := nr.hold H
          replace no := no.hold H
          replace ny := ny.hold H
          replace HH := HH.trans H
          clear H
          refine hKK.out _ _ trivial (fun hS => ?_)
          generalize ((w6.setCell ⟨w2.heap.size, 0, none⟩ (.bool (negB z))).setCell ⟨w2.heap.size, 1, none⟩ (.slice py ly Ky)) = w7 at S n1 n2 nN nq nr no ny HH hS ⊢
          clear hKK KK
          try simp only [Act.put, List.setIfInBounds_toArray, List.set_cons_zero, List.set_cons_succ]
          refine wpAnyH_ready (rs := [7]) (by kernel_rfl) (by simp) (AllReadyH.cons ((List.getElem?_toArray ..).trans rfl) (fun KK hKK => ?_) AllReadyH.nil)
          go_simp
          refine hKK.out _ _ hS (fun hS => ?_)
          clear hKK KK
          try simp only [Act.put, List.setIfInBounds_toArray, List.set_cons_zero, List.set_cons_succ]
          refine wpAnyH_done (by kernel_rfl) ?_ _
          go_wp2_with fail
          go_meet
          case rel => exact ⟨py, ly, Ky, rfl, S, ny, HH⟩
        ·
          go_simp
          clear hS
          refine (S.call (wof_any 1 _ (by decide) (by decide))).mono ?_
          clear S
          rintro e w8 ⟨⟨_, rfl, po, lo, Ko, rfl, no⟩, S, H⟩
          replace n1 := n1.hold H
          replace n2 := n2.hold H
          replace nN := nN.hold H
          replace nq := nq.hold H
          replace nr := nr.hold H
          replace HH := HH.trans H
          clear H
          go_wp2_with fail
          refine hKK.out _ _ trivial (fun hS => ?_)
          clear hKK KK
          try simp only [Act.put, List.setIfInBounds_toArray, List.set_cons_zero, List.set_cons_succ]
          refine wpAnyH_ready (rs := [0]) (by kernel_rfl) (by simp) (AllReadyH.cons ((List.getElem?_toArray ..).trans rfl) (fun KK hKK => ?_) AllReadyH.nil)
          have c3_0 := S.c 3 0 rfl rfl
          have c3_1 := S.c 3 1 rfl rfl
          go_simp
          clear c3_0 c3_1
          refine hKK.out _ _ hS (fun hS => ?_)
          clear hKK KK
          try simp only [Act.put, List.setIfInBounds_toArray, List.set_cons_zero, List.set_cons_succ]
          refine wpAnyH_ready (rs := [2]) (by kernel_rfl) (by simp) (AllReadyH.cons ((List.getElem?_toArray ..).trans rfl) (fun KK hKK => ?_) AllReadyH.nil)
          go_simp
          clear hS
          refine (S.call (wadd_to ⟨_, _, _, rfl, nq⟩ ⟨_, _, _, rfl, no⟩ HQ.out.2.2.1 (lt_maxN (by decide)) z HZ.out HQ.out.2.2.2.2.1)).mono ?_
          clear S
          rintro e w9 ⟨⟨_, rfl, py, ly, Ky, rfl, ny⟩, S, H⟩
          replace n1 := n1.hold H
          replace n2 := n2.hold H
          replace nN := nN.hold H
          replace nq := nq.hold H
          replace nr := nr.hold H
          replace no := no.hold H
          replace HH := HH.trans H
          clear H
          go_wp2_with fail
          refine hKK.out _ _ trivial (fun hS => ?_)
          clear hKK KK
          try simp only [Act.put, List.setIfInBounds_toArray, List.set_cons_zero, List.set_cons_succ]
          refine wpAnyH_take (i := 3) (v := ?_) ((List.getElem?_toArray ..).trans rfl) (by kernel_rfl) (by kernel_rfl) (by kernel_rfl) (fun _ _ _ h => h) (Or.inl ⟨rfl, fun W hW => ?_⟩) hS ?_
          rotate_left
          · obtain hW0 := hW; go_simp; try first | rfl | (rw [if_neg (by first | omega | (simp only [ByteArray.size_append]; first | omega | (have h1 : (ByteArray.mk #[47]).size = 1 := rfl; omega)))]; try rfl) | kernel_rfl
          try simp only [Act.put, List.setIfInBounds_toArray, List.set_cons_zero, List.set_cons_succ]
          refine wpAnyH_take (i := 4) (v := ?_) ((List.getElem?_toArray ..).trans rfl) (by kernel_rfl) (by kernel_rfl) (by kernel_rfl) (fun _ _ _ h => h) (Or.inl ⟨rfl, fun W hW => ?_⟩) hS ?_
          rotate_left
          · obtain hW0 := hW; go_simp; try first | rfl | (rw [if_neg (by first | omega | (simp only [ByteArray.size_append]; first | omega | (have h1 : (ByteArray.mk #[47]).size = 1 := rfl; omega)))]; try rfl) | kernel_rfl
          try simp only [Act.put, List.setIfInBounds_toArray, List.set_cons_zero, List.set_cons_succ]
          refine wpAnyH_take (i := 5) (v := ?_) ((List.getElem?_toArray ..).trans rfl) (by kernel_rfl) (by kernel_rfl) (by kernel_rfl) (fun _ _ _ h => h) (Or.inl ⟨rfl, fun W hW => ?_⟩) hS ?_
          rotate_left
          · obtain hW0 := hW; go_simp; try first | rfl | (rw [if_neg (by first | omega | (simp only [ByteArray.size_append]; first | omega | (have h1 : (ByteArray.mk #[47]).size = 1 := rfl; omega)))]; try rfl) | kernel_rfl
          try simp only [Act.put, List.setIfInBounds_toArray, List.set_cons_zero, List.set_cons_succ]
          refine wpAnyH_ready (rs := [6]) (by kernel_rfl) (by simp) (AllReadyH.cons ((List.getElem?_toArray ..).trans rfl) (fun KK hKK => ?_) AllReadyH.nil)
          have c0 := S.c 3 0 rfl rfl
          have f0 := S.f 3 0 rfl
          have c1 := S.c 3 1 rfl rfl
          have f1 := S.f 3 1 rfl
          go_simp
          clear hS c0 f0 c1 f1
          have H := S.hset 3 0 (.bool (negB z)) rfl rfl (by intro q n e; cases e)
          replace S := S.set 3 0 (.bool (negB z)) rfl
          replace n1 := n1.hold H
          replace n2 := n2.hold H
          replace nN := nN.hold H
          replace nq := nq.hold H
          replace nr := nr.hold H
          replace no := no.hold H
          replace ny := ny.hold H
          replace HH := HH.trans H
          clear H
          have H := S.hset 3 1 (.slice py ly Ky) rfl rfl (by intro q n e; cases e)
          replace S := S.set 3 1 (.slice py ly Ky) rfl
          replace n1 := n1.hold H
          replace n2 := n2.hold H
          replace nN := nN.hold H
          replace nq := nq.hold H
          replace nr := nr.hold H
          replace no := no.hold H
          replace ny := ny.hold H
          replace HH := HH.trans H
          clear H
          refine hKK.out _ _ trivial (fun hS => ?_)
          generalize ((w9.setCell ⟨w2.heap.size, 0, none⟩ (.bool (negB z))).setCell ⟨w2.heap.size, 1, none⟩ (.slice py ly Ky)) = w10 at S n1 n2 nN nq nr no ny HH hS ⊢
          clear hKK KK
          try simp only [Act.put, List.setIfInBounds_toArray, List.set_cons_zero, List.set_cons_succ]
          refine wpAnyH_ready (rs := [7]) (by kernel_rfl) (by simp) (AllReadyH.cons ((List.getElem?_toArray ..).trans rfl) (fun KK hKK => ?_) AllReadyH.nil)
          go_simp
          refine hKK.out _ _ hS (fun hS => ?_)
          clear hKK KK
          try simp only [Act.put, List.setIfInBounds_toArray, List.set_cons_zero, List.set_cons_succ]
          refine wpAnyH_done (by kernel_rfl) ?_ _
          go_wp2_with fail
          go_meet
          case rel => exact ⟨py, ly, Ky, rfl, S, ny, HH⟩
      case rest =>
        obtain ⟨py, ly, Ky, rfl, S, ny, HH⟩ := hcut
        obtain ⟨w11, rfl⟩ : ∃ W : World, W = wc := ⟨_, rfl⟩
        replace n1 := n1.hold HH
        replace n2 := n2.hold HH
        replace nN := nN.hold HH
        replace nq := nq.hold HH
        replace nr := nr.hold HH
        clear HH
        have c0_0 := S.c 0 0 rfl rfl
        have c0_1 := S.c 0 1 rfl rfl
        have c1_0 := S.c 1 0 rfl rfl
        have c1_1 := S.c 1 1 rfl rfl
        have c2_0 := S.c 2 0 rfl rfl
        have c2_1 := S.c 2 1 rfl rfl
        have c3_0 := S.c 3 0 rfl rfl
        have c3_1 := S.c 3 1 rfl rfl
        have c4_0 := S.c 4 0 rfl rfl
        have c4_1 := S.c 4 1 rfl rfl
        have f2_0 := S.f 2 0 rfl
        have H := S.hset 2 0 (.bool (negB z)) rfl rfl (by intro q n e; cases e)
        replace S := S.set 2 0 (.bool (negB z)) rfl
        replace n1 := n1.hold H
        replace n2 := n2.hold H
        replace nN := nN.hold H
        replace nq := nq.hold H
        replace nr := nr.hold H
        replace ny := ny.hold H
        clear H
        have f2_1 := S.f 2 1 rfl
        have H := S.hset 2 1 (.slice py ly Ky) rfl rfl (by intro q n e; cases e)
        replace S := S.set 2 1 (.slice py ly Ky) rfl
        replace n1 := n1.hold H
        replace n2 := n2.hold H
        replace nN := nN.hold H
        replace nq := nq.hold H
        replace nr := nr.hold H
        replace ny := ny.hold H
        clear H
        go_wp2_with fail
        have d2_0 := S.c 2 0 rfl rfl
        have d2_1 := S.c 2 1 rfl rfl
        exact bodyPost_ret (v := .tuple #[.agg #[.bool (negB z), .slice py ly Ky], .int .i64 0]) (by simp [results, Tryd.f48, go_sem, d2_0, d2_1]) rfl (⟨⟨_, rfl, py, ly, Ky, rfl, ny⟩, S.below⟩)
    · have HZ : z = q := by rw [hzq, if_neg (by rintro ⟨_, h⟩; exact h0 h)]
      have hg1 : g = 0 := by rw [← hg, show r = 0 by omega]; rfl
      subst hg1
      clear hzq hg h0 hr0
      have S := (((St.start w).alloc 25 [.bool b1, .slice p1 l1 K1] (w.heap.size)).alloc 25 [.bool b2, .slice p2 l2 K2] (w.heap.size + 1)).alloc 25 [.bool false, .slice none 0 0] (w.heap.size + 1 + 1)
      try simp only [List.cons_append, List.nil_append] at S
      replace n1 := n1.hold S.hold
      replace n2 := n2.hold S.hold
      have c0_0 := S.c 0 0 rfl rfl
      have c0_1 := S.c 0 1 rfl rfl
      have c1_0 := S.c 1 0 rfl rfl
      have c1_1 := S.c 1 1 rfl rfl
      have c2_0 := S.c 2 0 rfl rfl
      have c2_1 := S.c 2 1 rfl rfl
      go_enter Tryd.func48, Tryd.ntmps48
      go_wp2_with fail
      clear c0_0 c0_1 c1_0 c1_1 c2_0 c2_1
      refine (S.call (wleft_any ⟨_, _, _, by rw [HD.out.2.2.2.2.2.2.1], n1⟩ HD.out.1 s HD.out.2.2.1 HD.out.2.2.2.2.2.1 N HD.out.2.2.2.1)).mono ?_
      clear S
      rintro e w1 ⟨⟨_, rfl, pN, lN, KN, rfl, nN⟩, S, H⟩
      replace n1 := n1.hold H
      replace n2 := n2.hold H
      clear H
      have c0_0 := S.c 0 0 rfl rfl
      have c0_1 := S.c 0 1 rfl rfl
      have c1_0 := S.c 1 0 rfl rfl
      have c1_1 := S.c 1 1 rfl rfl
      have c2_0 := S.c 2 0 rfl rfl
      have c2_1 := S.c 2 1 rfl rfl
      have f0_0 := S.f 0 0 rfl
      have H := S.hset 0 0 (.bool (negB N)) rfl rfl (by intro q n e; cases e)
      replace S := S.set 0 0 (.bool (negB N)) rfl
      replace n1 := n1.hold H
      replace n2 := n2.hold H
      replace nN := nN.hold H
      clear H
      have f0_1 := S.f 0 1 rfl
      have H := S.hset 0 1 (.slice pN lN KN) rfl rfl (by intro q n e; cases e)
      replace S := S.set 0 1 (.slice pN lN KN) rfl
      replace n1 := n1.hold H
      replace n2 := n2.hold H
      replace nN := nN.hold H
      clear H
      have c0_0 := S.c 0 0 rfl rfl
      have c0_1 := S.c 0 1 rfl rfl
      have c1_0 := S.c 1 0 rfl rfl
      have c1_1 := S.c 1 1 rfl rfl
      go_wp2_with fail
      clear c0_0 c0_1 c1_0 c1_1 c2_0 c2_1 f0_0 f0_1
      clear c0_0 c0_1 c1_0 c1_1
      refine (S.call (wdiv_to ⟨_, _, _, rfl, nN⟩ ⟨_, _, _, by rw [← HD.out.2.2.2.2.1, HD.out.2.2.2.2.2.2.2], by rw [← HD.out.2.2.2.2.1]; exact n2⟩ HQ.out.2.2.2.2.2.1 HQ.out.2.2.2.2.2.2.1 q r HQ.out.2.2.2.2.2.2.2 HQ.out.1 HQ.out.2.1)).mono ?_
      clear S
      rintro e w2 ⟨⟨_, _, rfl, ⟨pq, lq, Kq, rfl, nq⟩, ⟨pr, lr, Kr, rfl, nr⟩⟩, S, H⟩
      replace n1 := n1.hold H
      replace n2 := n2.hold H
      replace nN := nN.hold H
      clear H
      have c0_0 := S.c 0 0 rfl rfl
      have c0_1 := S.c 0 1 rfl rfl
      have c1_0 := S.c 1 0 rfl rfl
      have c1_1 := S.c 1 1 rfl rfl
      have c2_0 := S.c 2 0 rfl rfl
      have c2_1 := S.c 2 1 rfl rfl
      have H := S.hnew 25 [.bool (negB q), .slice pq lq Kq]
      replace S := S.alloc 25 [.bool (negB q), .slice pq lq Kq] (w2.heap.size)
      try simp only [List.cons_append, List.nil_append] at S
      replace n1 := n1.hold H
      replace n2 := n2.hold H
      replace nN := nN.hold H
      replace nq := nq.hold H
      replace nr := nr.hold H
      clear H
      have H := S.hnew 25 [.bool (negB r), .slice pr lr Kr]
      replace S := S.alloc 25 [.bool (negB r), .slice pr lr Kr] (w2.heap.size + 1)
      try simp only [List.cons_append, List.nil_append] at S
      replace n1 := n1.hold H
      replace n2 := n2.hold H
      replace nN := nN.hold H
      replace nq := nq.hold H
      replace nr := nr.hold H
      clear H
      clear c0_0 c0_1 c1_0 c1_1 c2_0 c2_1
      have c0_0 := S.c 0 0 rfl rfl
      have c0_1 := S.c 0 1 rfl rfl
      have c1_0 := S.c 1 0 rfl rfl
      have c1_1 := S.c 1 1 rfl rfl
      have c2_0 := S.c 2 0 rfl rfl
      have c2_1 := S.c 2 1 rfl rfl
      have c3_0 := S.c 3 0 rfl rfl
      have c3_1 := S.c 3 1 rfl rfl
      have c4_0 := S.c 4 0 rfl rfl
      have c4_1 := S.c 4 1 rfl rfl
      go_wp2_with fail
      clear c0_0 c0_1 c1_0 c1_1 c2_0 c2_1 c3_0 c3_1 c4_0 c4_1
      refine (S.call (wsign_any ⟨_, _, _, rfl, nr⟩ HQ.out.2.2.2.1 HG.out)).mono ?_
      clear S
      rintro e w3 ⟨rfl, S, H⟩
      replace n1 := n1.hold H
      replace n2 := n2.hold H
      replace nN := nN.hold H
      replace nq := nq.hold H
      replace nr := nr.hold H
      clear H
      have c0_0 := S.c 0 0 rfl rfl
      have c0_1 := S.c 0 1 rfl rfl
      have c1_0 := S.c 1 0 rfl rfl
      have c1_1 := S.c 1 1 rfl rfl
      have c2_0 := S.c 2 0 rfl rfl
      have c2_1 := S.c 2 1 rfl rfl
      have c3_0 := S.c 3 0 rfl rfl
      have c3_1 := S.c 3 1 rfl rfl
      have c4_0 := S.c 4 0 rfl rfl
      have c4_1 := S.c 4 1 rfl rfl
      subst HZ
      have f2_0 := S.f 2 0 rfl
      have H := S.hset 2 0 (.bool (negB z)) rfl rfl (by intro q n e; cases e)
      replace S := S.set 2 0 (.bool (negB z)) rfl
      replace n1 := n1.hold H
      replace n2 := n2.hold H
      replace nN := nN.hold H
      replace nq := nq.hold H
      replace nr := nr.hold H
      clear H
      have f2_1 := S.f 2 1 rfl
      have H := S.hset 2 1 (.slice pq lq Kq) rfl rfl (by intro q n e; cases e)
      replace S := S.set 2 1 (.slice pq lq Kq) rfl
      replace n1 := n1.hold H
      replace n2 := n2.hold H
      replace nN := nN.hold H
      replace nq := nq.hold H
      replace nr := nr.hold H
      clear H
      go_wp2_with fail
      have d2_0 := S.c 2 0 rfl rfl
      have d2_1 := S.c 2 1 rfl rfl
      exact bodyPost_ret (v := .tuple #[.agg #[.bool (negB z), .slice pq lq Kq], .int .i64 0]) (by simp [results, Tryd.f48, go_sem, d2_0, d2_1]) rfl (⟨⟨_, rfl, pq, lq, Kq, rfl, nq⟩, S.below⟩)

set_option maxRecDepth 100000 in
set_option maxHeartbeats 8000000 in
theorem divided_neg {va vb : Value} {n d : Int} {w : World} (ha : IsInt w va n) (hb : IsInt w vb d) (hn : n.natAbs < maxN) (hd : d.natAbs < maxN) (s : Nat) (hs : s ≤ 100000) (hs1 : 1 ≤ s) (N D : Int) (hN : n = N) (hD : d * 2 ^ s = D) (hfit : d.natAbs * 2 ^ s < maxN) (hNm : N.natAbs < maxN) (hDm : D.natAbs < maxN) (hD0 : 0 < D) (up : Bool) (z : Int) (hz : divI N D up = z) (hzm : z.natAbs < maxN) :
    Calls Tryd.prog 48 #[va, vb, .int .i64 (-(s : Int)), .bool up] w fun ev w' => (∃ u, ev = .returned (.tuple #[u, .int .i64 0]) ∧ IsInt w' u z) ∧ Below w.heap.size w w' := by
  obtain ⟨p1, l1, K1, rfl, n1⟩ := ha
  obtain ⟨p2, l2, K2, rfl, n2⟩ := hb
  obtain ⟨b1, hb1⟩ : ∃ b1, negB n = b1 := ⟨_, rfl⟩
  obtain ⟨b2, hb2⟩ : ∃ b2, negB d = b2 := ⟨_, rfl⟩
  rw [hb1, hb2]
  have hsI : (-(s : Int)) < 0 := by omega
  have hwr : IntKind.i64.wrap (-(-(s : Int))) = (s : Int) := by rw [wrap_int (by omega) (by omega)]; omega
  have hwr2 : IntKind.i64.wrap (s : Int) = (s : Int) := wrap_int (by omega) (by omega)
  obtain ⟨q, hq⟩ : ∃ q, N / D = q := ⟨_, rfl⟩
  obtain ⟨r, hr⟩ : ∃ r, N % D = r := ⟨_, rfl⟩
  have hr0 : 0 ≤ r := by rw [← hr]; exact Int.emod_nonneg N (by omega)
  have hqm : q.natAbs < maxN := by rw [← hq]; exact Nat.lt_of_le_of_lt (Int.natAbs_ediv_le_natAbs _ _) hNm
  have hrm : r.natAbs < maxN := by have := Int.emod_lt_of_pos N hD0; omega
  have hzq : z = if up = true ∧ 0 < r then q + 1 else q := by rw [← hz]; unfold divI; rw [hq, hr]
  have HD := Lib.hid (And.intro hn (And.intro hd (And.intro (show s ≤ 9223372036854775807 by omega) (And.intro hN (And.intro hD (And.intro hfit (And.intro hb1 hb2)))))))
  have HQ := Lib.hid (And.intro hq (And.intro hr (And.intro hqm (And.intro hrm (And.intro hzm (And.intro hNm (And.intro hDm (show D ≠ 0 by omega))))))))
  clear hn hd hs hN hD hfit hb1 hb2 hq hr hqm hrm hzm hNm hDm hD0 hz hs1
  obtain ⟨g, hg⟩ : ∃ g, r.sign = g := ⟨_, rfl⟩
  have HG := Lib.hid hg
  cases up with
  | false =>
    have HZ : z = q := by rw [hzq]; simp
    clear hzq hg
    have S := (((St.start w).alloc 25 [.bool b1, .slice p1 l1 K1] (w.heap.size)).alloc 25 [.bool b2, .slice p2 l2 K2] (w.heap.size + 1)).alloc 25 [.bool false, .slice none 0 0] (w.heap.size + 1 + 1)
    try simp only [List.cons_append, List.nil_append] at S
    replace n1 := n1.hold S.hold
    replace n2 := n2.hold S.hold
    have c0_0 := S.c 0 0 rfl rfl
    have c0_1 := S.c 0 1 rfl rfl
    have c1_0 := S.c 1 0 rfl rfl
    have c1_1 := S.c 1 1 rfl rfl
    have c2_0 := S.c 2 0 rfl rfl
    have c2_1 := S.c 2 1 rfl rfl
    go_enter Tryd.func48, Tryd.ntmps48
    go_wp2_with fail
    clear c0_0 c0_1 c1_0 c1_1 c2_0 c2_1
    refine (S.call (wleft_any ⟨_, _, _, by rw [HD.out.2.2.2.2.2.2.2], n2⟩ HD.out.2.1 s HD.out.2.2.1 HD.out.2.2.2.2.2.1 D HD.out.2.2.2.2.1)).mono ?_
    clear S
    rintro e w1 ⟨⟨_, rfl, pD, lD, KD, rfl, nD⟩, S, H⟩
    replace n1 := n1.hold H
    replace n2 := n2.hold H
    clear H
    have c0_0 := S.c 0 0 rfl rfl
    have c0_1 := S.c 0 1 rfl rfl
    have c1_0 := S.c 1 0 rfl rfl
    have c1_1 := S.c 1 1 rfl rfl
    have c2_0 := S.c 2 0 rfl rfl
    have c2_1 := S.c 2 1 rfl rfl
    have f1_0 := S.f 1 0 rfl
    have H := S.hset 1 0 (.bool (negB D)) rfl rfl (by intro q n e; cases e)
    replace S := S.set 1 0 (.bool (negB D)) rfl
    replace n1 := n1.hold H
    replace n2 := n2.hold H
    replace nD := nD.hold H
    clear H
    have f1_1 := S.f 1 1 rfl
    have H := S.hset 1 1 (.slice pD lD KD) rfl rfl (by intro q n e; cases e)
    replace S := S.set 1 1 (.slice pD lD KD) rfl
    replace n1 := n1.hold H
    replace n2 := n2.hold H
    replace nD := nD.hold H
    clear H
    have c0_0 := S.c 0 0 rfl rfl
    have c0_1 := S.c 0 1 rfl rfl
    have c1_0 := S.c 1 0 rfl rfl
    have c1_1 := S.c 1 1 rfl rfl
    go_wp2_with fail
    clear c0_0 c0_1 c1_0 c1_1 c2_0 c2_1 f1_0 f1_1
    clear c0_0 c0_1 c1_0 c1_1
    refine (S.call (wdiv_to ⟨_, _, _, by rw [← HD.out.2.2.2.1, HD.out.2.2.2.2.2.2.1], by rw [← HD.out.2.2.2.1]; exact n1⟩ ⟨_, _, _, rfl, nD⟩ HQ.out.2.2.2.2.2.1 HQ.out.2.2.2.2.2.2.1 q r HQ.out.2.2.2.2.2.2.2 HQ.out.1 HQ.out.2.1)).mono ?_
    clear S
    rintro e w2 ⟨⟨_, _, rfl, ⟨pq, lq, Kq, rfl, nq⟩, ⟨pr, lr, Kr, rfl, nr⟩⟩, S, H⟩
    replace n1 := n1.hold H
    replace n2 := n2.hold H
    replace nD := nD.hold H
    clear H
    have c0_0 := S.c 0 0 rfl rfl
    have c0_1 := S.c 0 1 rfl rfl
    have c1_0 := S.c 1 0 rfl rfl
    have c1_1 := S.c 1 1 rfl rfl
    have c2_0 := S.c 2 0 rfl rfl
    have c2_1 := S.c 2 1 rfl rfl
    have H := S.hnew 25 [.bool (negB q), .slice pq lq Kq]
    replace S := S.alloc 25 [.bool (negB q), .slice pq lq Kq] (w2.heap.size)
    try simp only [List.cons_append, List.nil_append] at S
    replace n1 := n1.hold H
    replace n2 := n2.hold H
    replace nD := nD.hold H
    replace nq := nq.hold H
    replace nr := nr.hold H
    clear H
    have H := S.hnew 25 [.bool (negB r), .slice pr lr Kr]
    replace S := S.alloc 25 [.bool (negB r), .slice pr lr Kr] (w2.heap.size + 1)
    try simp only [List.cons_append, List.nil_append] at S
    replace n1 := n1.hold H
    replace n2 := n2.hold H
    replace nD := nD.hold H
    replace nq := nq.hold H
    replace nr := nr.hold H
    clear H
    clear c0_0 c0_1 c1_0 c1_1 c2_0 c2_1
    have c0_0 := S.c 0 0 rfl rfl
    have c0_1 := S.c 0 1 rfl rfl
    have c1_0 := S.c 1 0 rfl rfl
    have c1_1 := S.c 1 1 rfl rfl
    have c2_0 := S.c 2 0 rfl rfl
    have c2_1 := S.c 2 1 rfl rfl
    have c3_0 := S.c 3 0 rfl rfl
    have c3_1 := S.c 3 1 rfl rfl
    have c4_0 := S.c 4 0 rfl rfl
    have c4_1 := S.c 4 1 rfl rfl
    subst HZ
    have f2_0 := S.f 2 0 rfl
    have H := S.hset 2 0 (.bool (negB z)) rfl rfl (by intro q n e; cases e)
    replace S := S.set 2 0 (.bool (negB z)) rfl
    replace n1 := n1.hold H
    replace n2 := n2.hold H
    replace nD := nD.hold H
    replace nq := nq.hold H
    replace nr := nr.hold H
    clear H
    have f2_1 := S.f 2 1 rfl
    have H := S.hset 2 1 (.slice pq lq Kq) rfl rfl (by intro q n e; cases e)
    replace S := S.set 2 1 (.slice pq lq Kq) rfl
    replace n1 := n1.hold H
    replace n2 := n2.hold H
    replace nD := nD.hold H
    replace nq := nq.hold H
    replace nr := nr.hold H
    clear H
    go_wp2_with fail
    have d2_0 := S.c 2 0 rfl rfl
    have d2_1 := S.c 2 1 rfl rfl
    exact bodyPost_ret (v := .tuple #[.agg #[.bool (negB z), .slice pq lq Kq], .int .i64 0]) (by simp [results, Tryd.f48, go_sem, d2_0, d2_1]) rfl (⟨⟨_, rfl, pq, lq, Kq, rfl, nq⟩, S.below⟩)
  | true =>
    by_cases h0 : 0 < r
    · have HZ := Lib.hid (show q + 1 = z by rw [hzq, if_pos ⟨rfl, h0⟩])
      have hg1 : g = 1 := by rw [← hg]; exact Int.sign_eq_one_of_pos h0
      subst hg1
      clear hzq hg h0 hr0
      have S := (((St.start w).alloc 25 [.bool b1, .slice p1 l1 K1] (w.heap.size)).alloc 25 [.bool b2, .slice p2 l2 K2] (w.heap.size + 1)).alloc 25 [.bool false, .slice none 0 0] (w.heap.size + 1 + 1)
      try simp only [List.cons_append, List.nil_append] at S
      replace n1 := n1.hold S.hold
      replace n2 := n2.hold S.hold
      have c0_0 := S.c 0 0 rfl rfl
      have c0_1 := S.c 0 1 rfl rfl
      have c1_0 := S.c 1 0 rfl rfl
      have c1_1 := S.c 1 1 rfl rfl
      have c2_0 := S.c 2 0 rfl rfl
      have c2_1 := S.c 2 1 rfl rfl
      go_enter Tryd.func48, Tryd.ntmps48
      go_wp2_with fail
      clear c0_0 c0_1 c1_0 c1_1 c2_0 c2_1
      refine (S.call (wleft_any ⟨_, _, _, by rw [HD.out.2.2.2.2.2.2.2], n2⟩ HD.out.2.1 s HD.out.2.2.1 HD.out.2.2.2.2.2.1 D HD.out.2.2.2.2.1)).mono ?_
      clear S
      rintro e w1 ⟨⟨_, rfl, pD, lD, KD, rfl, nD⟩, S, H⟩
      replace n1 := n1.hold H
      replace n2 := n2.hold H
      clear H
      have c0_0 := S.c 0 0 rfl rfl
      have c0_1 := S.c 0 1 rfl rfl
      have c1_0 := S.c 1 0 rfl rfl
      have c1_1 := S.c 1 1 rfl rfl
      have c2_0 := S.c 2 0 rfl rfl
      have c2_1 := S.c 2 1 rfl rfl
      have f1_0 := S.f 1 0 rfl
      have H := S.hset 1 0 (.bool (negB D)) rfl rfl (by intro q n e; cases e)
      replace S := S.set 1 0 (.bool (negB D)) rfl
      replace n1 := n1.hold H
      replace n2 := n2.hold H
      replace nD := nD.hold H
      clear H
      have f1_1 := S.f 1 1 rfl
      have H := S.hset 1 1 (.slice pD lD KD) rfl rfl (by intro q n e; cases e)
      replace S := S.set 1 1 (.slice pD lD KD) rfl
      replace n1 := n1.hold H
      replace n2 := n2.hold H
      replace nD := nD.hold H
      clear H
      have c0_0 := S.c 0 0 rfl rfl
      have c0_1 := S.c 0 1 rfl rfl
      have c1_0 := S.c 1 0 rfl rfl
      have c1_1 := S.c 1 1 rfl rfl
      go_wp2_with fail
      clear c0_0 c0_1 c1_0 c1_1 c2_0 c2_1 f1_0 f1_1
      clear c0_0 c0_1 c1_0 c1_1
      refine (S.call (wdiv_to ⟨_, _, _, by rw [← HD.out.2.2.2.1, HD.out.2.2.2.2.2.2.1], by rw [← HD.out.2.2.2.1]; exact n1⟩ ⟨_, _, _, rfl, nD⟩ HQ.out.2.2.2.2.2.1 HQ.out.2.2.2.2.2.2.1 q r HQ.out.2.2.2.2.2.2.2 HQ.out.1 HQ.out.2.1)).mono ?_
      clear S
      rintro e w2 ⟨⟨_, _, rfl, ⟨pq, lq, Kq, rfl, nq⟩, ⟨pr, lr, Kr, rfl, nr⟩⟩, S, H⟩
      replace n1 := n1.hold H
      replace n2 := n2.hold H
      replace nD := nD.hold H
      clear H
      have c0_0 := S.c 0 0 rfl rfl
      have c0_1 := S.c 0 1 rfl rfl
      have c1_0 := S.c 1 0 rfl rfl
      have c1_1 := S.c 1 1 rfl rfl
      have c2_0 := S.c 2 0 rfl rfl
      have c2_1 := S.c 2 1 rfl rfl
      have H := S.hnew 25 [.bool (negB q), .slice pq lq Kq]
      replace S := S.alloc 25 [.bool (negB q), .slice pq lq Kq] (w2.heap.size)
      try simp only [List.cons_append, List.nil_append] at S
      replace n1 := n1.hold H
      replace n2 := n2.hold H
      replace nD := nD.hold H
      replace nq := nq.hold H
      replace nr := nr.hold H
      clear H
      have H := S.hnew 25 [.bool (negB r), .slice pr lr Kr]
      replace S := S.alloc 25 [.bool (negB r), .slice pr lr Kr] (w2.heap.size + 1)
      try simp only [List.cons_append, List.nil_append] at S
      replace n1 := n1.hold H
      replace n2 := n2.hold H
      replace nD := nD.hold H
      replace nq := nq.hold H
      replace nr := nr.hold H
      clear H
      clear c0_0 c0_1 c1_0 c1_1 c2_0 c2_1
      have c0_0 := S.c 0 0 rfl rfl
      have c0_1 := S.c 0 1 rfl rfl
      have c1_0 := S.c 1 0 rfl rfl
      have c1_1 := S.c 1 1 rfl rfl
      have c2_0 := S.c 2 0 rfl rfl
      have c2_1 := S.c 2 1 rfl rfl
      have c3_0 := S.c 3 0 rfl rfl
      have c3_1 := S.c 3 1 rfl rfl
      have c4_0 := S.c 4 0 rfl rfl
      have c4_1 := S.c 4 1 rfl rfl
      go_wp2_with fail
      clear c0_0 c0_1 c1_0 c1_1 c2_0 c2_1 c3_0 c3_1 c4_0 c4_1
      refine (S.call (wsign_any ⟨_, _, _, rfl, nr⟩ HQ.out.2.2.2.1 HG.out)).mono ?_
      clear S
      rintro e w3 ⟨rfl, S, H⟩
      replace n1 := n1.hold H
      replace n2 := n2.hold H
      replace nD := nD.hold H
      replace nq := nq.hold H
      replace nr := nr.hold H
      clear H
      have c0_0 := S.c 0 0 rfl rfl
      have c0_1 := S.c 0 1 rfl rfl
      have c1_0 := S.c 1 0 rfl rfl
      have c1_1 := S.c 1 1 rfl rfl
      have c2_0 := S.c 2 0 rfl rfl
      have c2_1 := S.c 2 1 rfl rfl
      have c3_0 := S.c 3 0 rfl rfl
      have c3_1 := S.c 3 1 rfl rfl
      have c4_0 := S.c 4 0 rfl rfl
      have c4_1 := S.c 4 1 rfl rfl
      go_upto_region 9 with fail
      clear c0_0 c0_1 c1_0 c1_1 c2_0 c2_1 c3_0 c3_1 c4_0 c4_1
      go_cut [10] (fun s10 wx => ∃ py ly Ky, s10 = .int .i64 0 ∧ St w wx [(w.heap.size, 25, [.bool b1, .slice p1 l1 K1]), (w.heap.size + 1, 25, [.bool (negB D), .slice pD lD KD]), (w.heap.size + 1 + 1, 25, [.bool false, .slice none 0 0]), (w2.heap.size, 25, [.bool (negB z), .slice py ly Ky]), (w2.heap.size + 1, 25, [.bool (negB r), .slice pr lr Kr])] ∧ IsNat wx (.slice py ly Ky) z.natAbs ∧ Hold w3 wx)
      case first =>
        have HH := Hold.drew w3
        replace n1 := n1.hold HH
        replace n2 := n2.hold HH
        replace nD := nD.hold HH
        replace nq := nq.hold HH
        replace nr := nr.hold HH
        replace S := S.drew
        refine wp_region_held_drew (S := fun W => True) (by kernel_rfl) trivial (fun hS => ?_)
        generalize w3.drew = w4 at S n1 n2 nD nq nr HH hS ⊢
        refine wpAnyH_ready (rs := [0, 1]) (by kernel_rfl) (by simp) (AllReadyH.cons ((List.getElem?_toArray ..).trans rfl) (fun KK hKK => ?_) (AllReadyH.cons ((List.getElem?_toArray ..).trans rfl) (fun KK hKK => ?_) AllReadyH.nil))
        ·
          have c3_0 := S.c 3 0 rfl rfl
          have c3_1 := S.c 3 1 rfl rfl
          go_simp
          clear c3_0 c3_1
          refine hKK.out _ _ hS (fun hS => ?_)
          clear hKK KK
          try simp only [Act.put, List.setIfInBounds_toArray, List.set_cons_zero, List.set_cons_succ]
          refine wpAnyH_ready (rs := [1]) (by kernel_rfl) (by simp) (AllReadyH.cons ((List.getElem?_toArray ..).trans rfl) (fun KK hKK => ?_) AllReadyH.nil)
          go_simp
          clear hS
          refine (S.call (wof_any 1 _ (by decide) (by decide))).mono ?_
          clear S
          rintro e w5 ⟨⟨_, rfl, po, lo, Ko, rfl, no⟩, S, H⟩
          replace n1 := n1.hold H
          replace n2 := n2.hold H
          replace nD := nD.hold H
          replace nq := nq.hold H
          replace nr := nr.hold H
          replace HH := HH.trans H
          clear H
          go_wp2_with fail
          refine hKK.out _ _ trivial (fun hS => ?_)
          clear hKK KK
          try simp only [Act.put, List.setIfInBounds_toArray, List.set_cons_zero, List.set_cons_succ]
          refine wpAnyH_ready (rs := [2]) (by kernel_rfl) (by simp) (AllReadyH.cons ((List.getElem?_toArray ..).trans rfl) (fun KK hKK => ?_) AllReadyH.nil)
          go_simp
          clear hS
          refine (S.call (wadd_to ⟨_, _, _, rfl, nq⟩ ⟨_, _, _, rfl, no⟩ HQ.out.2.2.1 (lt_maxN (by decide)) z HZ.out HQ.out.2.2.2.2.1)).mono ?_
          clear S
          rintro e w6 ⟨⟨_, rfl, py, ly, Ky, rfl, ny⟩, S, H⟩
          replace n1 := n1.hold H
          replace n2 := n2.hold H
          replace nD := nD.hold H
          replace nq := nq.hold H
          replace nr := nr.hold H
          replace no := no.hold H
          replace HH := HH.trans H
          clear H
          go_wp2_with fail
          refine hKK.out _ _ trivial (fun hS => ?_)
          clear hKK KK
          try simp only [Act.put, List.setIfInBounds_toArray, List.set_cons_zero, List.set_cons_succ]
          refine wpAnyH_take (i := 3) (v := ?_) ((List.getElem?_toArray ..).trans rfl) (by kernel_rfl) (by kernel_rfl) (by kernel_rfl) (fun _ _ _ h => h) (Or.inl ⟨rfl, fun W hW => ?_⟩) hS ?_
          rotate_left
          · obtain hW0 := hW; go_simp; try first | rfl | (rw [if_neg (by first | omega | (simp only [ByteArray.size_append]; first | omega | (have h1 : (ByteArray.mk #[47]).size = 1 := rfl; omega)))]; try rfl) | kernel_rfl
          try simp only [Act.put, List.setIfInBounds_toArray, List.set_cons_zero, List.set_cons_succ]
          refine wpAnyH_take (i := 4) (v := ?_) ((List.getElem?_toArray ..).trans rfl) (by kernel_rfl) (by kernel_rfl) (by kernel_rfl) (fun _ _ _ h => h) (Or.inl ⟨rfl, fun W hW => ?_⟩) hS ?_
          rotate_left
          · obtain hW0 := hW; go_simp; try first | rfl | (rw [if_neg (by first | omega | (simp only [ByteArray.size_append]; first | omega | (have h1 : (ByteArray.mk #[47]).size = 1 := rfl; omega)))]; try rfl) | kernel_rfl
          try simp only [Act.put, List.setIfInBounds_toArray, List.set_cons_zero, List.set_cons_succ]
          refine wpAnyH_take (i := 5) (v := ?_) ((List.getElem?_toArray ..).trans rfl) (by kernel_rfl) (by kernel_rfl) (by kernel_rfl) (fun _ _ _ h => h) (Or.inl ⟨rfl, fun W hW => ?_⟩) hS ?_
          rotate_left
          · obtain hW0 := hW; go_simp; try first | rfl | (rw [if_neg (by first | omega | (simp only [ByteArray.size_append]; first | omega | (have h1 : (ByteArray.mk #[47]).size = 1 := rfl; omega)))]; try rfl) | kernel_rfl
          try simp only [Act.put, List.setIfInBounds_toArray, List.set_cons_zero, List.set_cons_succ]
          refine wpAnyH_ready (rs := [6]) (by kernel_rfl) (by simp) (AllReadyH.cons ((List.getElem?_toArray ..).trans rfl) (fun KK hKK => ?_) AllReadyH.nil)
          have c0 := S.c 3 0 rfl rfl
          have f0 := S.f 3 0 rfl
          have c1 := S.c 3 1 rfl rfl
          have f1 := S.f 3 1 rfl
          go_simp
          clear hS c0 f0 c1 f1
          have H := S.hset 3 0 (.bool (negB z)) rfl rfl (by intro q n e; cases e)
          replace S := S.set 3 0 (.bool (negB z)) rfl
          replace n1 := n1.hold H
          replace n2 := n2.hold H
          replace nD := nD.hold H
          replace nq := nq.hold H
          replace nr := nr.hold H
          replace no := no.hold H
          replace ny := ny.hold H
          replace HH := HH.trans H
          clear H
          have H := S.hset 3 1 (.slice py ly Ky) rfl rfl (by intro q n e; cases e)
          replace S := S.set 3 1 (.slice py ly Ky) rfl
          replace n1 := n1.hold H
          replace n2 := n2.hold H
          replace nD := nD.hold H
          replace nq := nq.hold H
          replace nr := nr.hold H
          replace no := no.hold H
          replace ny := ny.hold H
          replace HH := HH.trans H
          clear H
          refine hKK.out _ _ trivial (fun hS => ?_)
          generalize ((w6.setCell ⟨w2.heap.size, 0, none⟩ (.bool (negB z))).setCell ⟨w2.heap.size, 1, none⟩ (.slice py ly Ky)) = w7 at S n1 n2 nD nq nr no ny HH hS ⊢
          clear hKK KK
          try simp only [Act.put, List.setIfInBounds_toArray, List.set_cons_zero, List.set_cons_succ]
          refine wpAnyH_ready (rs := [7]) (by kernel_rfl) (by simp) (AllReadyH.cons ((List.getElem?_toArray ..).trans rfl) (fun KK hKK => ?_) AllReadyH.nil)
          go_simp
          refine hKK.out _ _ hS (fun hS => ?_)
          clear hKK KK
          try simp only [Act.put, List.setIfInBounds_toArray, List.set_cons_zero, List.set_cons_succ]
          refine wpAnyH_done (by kernel_rfl) ?_ _
          go_wp2_with fail
          go_meet
          case rel => exact ⟨py, ly, Ky, rfl, S, ny, HH⟩
        ·
          go_simp
          clear hS
          refine (S.call (wof_any 1 _ (by decide) (by decide))).mono ?_
          clear S
          rintro e w8 ⟨⟨_, rfl, po, lo, Ko, rfl, no⟩, S, H⟩
          replace n1 := n1.hold H
          replace n2 := n2.hold H
          replace nD := nD.hold H
          replace nq := nq.hold H
          replace nr := nr.hold H
          replace HH := HH.trans H
          clear H
          go_wp2_with fail
          refine hKK.out _ _ trivial (fun hS => ?_)
          clear hKK KK
          try simp only [Act.put, List.setIfInBounds_toArray, List.set_cons_zero, List.set_cons_succ]
          refine wpAnyH_ready (rs := [0]) (by kernel_rfl) (by simp) (AllReadyH.cons ((List.getElem?_toArray ..).trans rfl) (fun KK hKK => ?_) AllReadyH.nil)
          have c3_0 := S.c 3 0 rfl rfl
          have c3_1 := S.c 3 1 rfl rfl
          go_simp
          clear c3_0 c3_1
          refine hKK.out _ _ hS (fun hS => ?_)
          clear hKK KK
          try simp only [Act.put, List.setIfInBounds_toArray, List.set_cons_zero, List.set_cons_succ]
          refine wpAnyH_ready (rs := [2]) (by kernel_rfl) (by simp) (AllReadyH.cons ((List.getElem?_toArray ..).trans rfl) (fun KK hKK => ?_) AllReadyH.nil)
          go_simp
          clear hS
          refine (S.call (wadd_to ⟨_, _, _, rfl, nq⟩ ⟨_, _, _, rfl, no⟩ HQ.out.2.2.1 (lt_maxN (by decide)) z HZ.out HQ.out.2.2.2.2.1)).mono ?_
          clear S
          rintro e w9 ⟨⟨_, rfl, py, ly, Ky, rfl, ny⟩, S, H⟩
          replace n1 := n1.hold H
          replace n2 := n2.hold H
          replace nD := nD.hold H
          replace nq := nq.hold H
          replace nr := nr.hold H
          replace no := no.hold H
          replace HH := HH.trans H
          clear H
          go_wp2_with fail
          refine hKK.out _ _ trivial (fun hS => ?_)
          clear hKK KK
          try simp only [Act.put, List.setIfInBounds_toArray, List.set_cons_zero, List.set_cons_succ]
          refine wpAnyH_take (i := 3) (v := ?_) ((List.getElem?_toArray ..).trans rfl) (by kernel_rfl) (by kernel_rfl) (by kernel_rfl) (fun _ _ _ h => h) (Or.inl ⟨rfl, fun W hW => ?_⟩) hS ?_
          rotate_left
          · obtain hW0 := hW; go_simp; try first | rfl | (rw [if_neg (by first | omega | (simp only [ByteArray.size_append]; first | omega | (have h1 : (ByteArray.mk #[47]).size = 1 := rfl; omega)))]; try rfl) | kernel_rfl
          try simp only [Act.put, List.setIfInBounds_toArray, List.set_cons_zero, List.set_cons_succ]
          refine wpAnyH_take (i := 4) (v := ?_) ((List.getElem?_toArray ..).trans rfl) (by kernel_rfl) (by kernel_rfl) (by kernel_rfl) (fun _ _ _ h => h) (Or.inl ⟨rfl, fun W hW => ?_⟩) hS ?_
          rotate_left
          · obtain hW0 := hW; go_simp; try first | rfl | (rw [if_neg (by first | omega | (simp only [ByteArray.size_append]; first | omega | (have h1 : (ByteArray.mk #[47]).size = 1 := rfl; omega)))]; try rfl) | kernel_rfl
          try simp only [Act.put, List.setIfInBounds_toArray, List.set_cons_zero, List.set_cons_succ]
          refine wpAnyH_take (i := 5) (v := ?_) ((List.getElem?_toArray ..).trans rfl) (by kernel_rfl) (by kernel_rfl) (by kernel_rfl) (fun _ _ _ h => h) (Or.inl ⟨rfl, fun W hW => ?_⟩) hS ?_
          rotate_left
          · obtain hW0 := hW; go_simp; try first | rfl | (rw [if_neg (by first | omega | (simp only [ByteArray.size_append]; first | omega | (have h1 : (ByteArray.mk #[47]).size = 1 := rfl; omega)))]; try rfl) | kernel_rfl
          try simp only [Act.put, List.setIfInBounds_toArray, List.set_cons_zero, List.set_cons_succ]
          refine wpAnyH_ready (rs := [6]) (by kernel_rfl) (by simp) (AllReadyH.cons ((List.getElem?_toArray ..).trans rfl) (fun KK hKK => ?_) AllReadyH.nil)
          have c0 := S.c 3 0 rfl rfl
          have f0 := S.f 3 0 rfl
          have c1 := S.c 3 1 rfl rfl
          have f1 := S.f 3 1 rfl
          go_simp
          clear hS c0 f0 c1 f1
          have H := S.hset 3 0 (.bool (negB z)) rfl rfl (by intro q n e; cases e)
          replace S := S.set 3 0 (.bool (negB z)) rfl
          replace n1 := n1.hold H
          replace n2 := n2.hold H
          replace nD := nD.hold H
          replace nq := nq.hold H
          replace nr := nr.hold H
          replace no := no.hold H
          replace ny := ny.hold H
          replace HH := HH.trans H
          clear H
          have H := S.hset 3 1 (.slice py ly Ky) rfl rfl (by intro q n e; cases e)
          replace S := S.set 3 1 (.slice py ly Ky) rfl
          replace n1 := n1.hold H
          replace n2 := n2.hold H
          replace nD := nD.hold H
          replace nq := nq.hold H
          replace nr := nr.hold H
          replace no := no.hold H
          replace ny := ny.hold H
          replace HH := HH.trans H
          clear H
          refine hKK.out _ _ trivial (fun hS => ?_)
          generalize ((w9.setCell ⟨w2.heap.size, 0, none⟩ (.bool (negB z))).setCell ⟨w2.heap.size, 1, none⟩ (.slice py ly Ky)) = w10 at S n1 n2 nD nq nr no ny HH hS ⊢
          clear hKK KK
          try simp only [Act.put, List.setIfInBounds_toArray, List.set_cons_zero, List.set_cons_succ]
          refine wpAnyH_ready (rs := [7]) (by kernel_rfl) (by simp) (AllReadyH.cons ((List.getElem?_toArray ..).trans rfl) (fun KK hKK => ?_) AllReadyH.nil)
          go_simp
          refine hKK.out _ _ hS (fun hS => ?_)
          clear hKK KK
          try simp only [Act.put, List.setIfInBounds_toArray, List.set_cons_zero, List.set_cons_succ]
          refine wpAnyH_done (by kernel_rfl) ?_ _
          go_wp2_with fail
          go_meet
          case rel => exact ⟨py, ly, Ky, rfl, S, ny, HH⟩
      case rest =>
        obtain ⟨py, ly, Ky, rfl, S, ny, HH⟩ := hcut
        obtain ⟨w11, rfl⟩ : ∃ W : World, W = wc := ⟨_, rfl⟩
        replace n1 := n1.hold HH
        replace n2 := n2.hold HH
        replace nD := nD.hold HH
        replace nq := nq.hold HH
        replace nr := nr.hold HH
        clear HH
        have c0_0 := S.c 0 0 rfl rfl
        have c0_1 := S.c 0 1 rfl rfl
        have c1_0 := S.c 1 0 rfl rfl
        have c1_1 := S.c 1 1 rfl rfl
        have c2_0 := S.c 2 0 rfl rfl
        have c2_1 := S.c 2 1 rfl rfl
        have c3_0 := S.c 3 0 rfl rfl
        have c3_1 := S.c 3 1 rfl rfl
        have c4_0 := S.c 4 0 rfl rfl
        have c4_1 := S.c 4 1 rfl rfl
        have f2_0 := S.f 2 0 rfl
        have H := S.hset 2 0 (.bool (negB z)) rfl rfl (by intro q n e; cases e)
        replace S := S.set 2 0 (.bool (negB z)) rfl
        replace n1 := n1.hold H
        replace n2 := n2.hold H
        replace nD := nD.hold H
        replace nq := nq.hold H
        replace nr := nr.hold H
        replace ny := ny.hold H
        clear H
        have f2_1 := S.f 2 1 rfl
        have H := S.hset 2 1 (.slice py ly Ky) rfl rfl (by intro q n e; cases e)
        replace S := S.set 2 1 (.slice py ly Ky) rfl
        replace n1 := n1.hold H
        replace n2 := n2.hold H
        replace nD := nD.hold H
        replace nq := nq.hold H
        replace nr := nr.hold H
        replace ny := ny.hold H
        clear H
        go_wp2_with fail
        have d2_0 := S.c 2 0 rfl rfl
        have d2_1 := S.c 2 1 rfl rfl
        exact bodyPost_ret (v := .tuple #[.agg #[.bool (negB z), .slice py ly Ky], .int .i64 0]) (by simp [results, Tryd.f48, go_sem, d2_0, d2_1]) rfl (⟨⟨_, rfl, py, ly, Ky, rfl, ny⟩, S.below⟩)
    · have HZ : z = q := by rw [hzq, if_neg (by rintro ⟨_, h⟩; exact h0 h)]
      have hg1 : g = 0 := by rw [← hg, show r = 0 by omega]; rfl
      subst hg1
      clear hzq hg h0 hr0
      have S := (((St.start w).alloc 25 [.bool b1, .slice p1 l1 K1] (w.heap.size)).alloc 25 [.bool b2, .slice p2 l2 K2] (w.heap.size + 1)).alloc 25 [.bool false, .slice none 0 0] (w.heap.size + 1 + 1)
      try simp only [List.cons_append, List.nil_append] at S
      replace n1 := n1.hold S.hold
      replace n2 := n2.hold S.hold
      have c0_0 := S.c 0 0 rfl rfl
      have c0_1 := S.c 0 1 rfl rfl
      have c1_0 := S.c 1 0 rfl rfl
      have c1_1 := S.c 1 1 rfl rfl
      have c2_0 := S.c 2 0 rfl rfl
      have c2_1 := S.c 2 1 rfl rfl
      go_enter Tryd.func48, Tryd.ntmps48
      go_wp2_with fail
      clear c0_0 c0_1 c1_0 c1_1 c2_0 c2_1
      refine (S.call (wleft_any ⟨_, _, _, by rw [HD.out.2.2.2.2.2.2.2], n2⟩ HD.out.2.1 s HD.out.2.2.1 HD.out.2.2.2.2.2.1 D HD.out.2.2.2.2.1)).mono ?_
      clear S
      rintro e w1 ⟨⟨_, rfl, pD, lD, KD, rfl, nD⟩, S, H⟩
      replace n1 := n1.hold H
      replace n2 := n2.hold H
      clear H
      have c0_0 := S.c 0 0 rfl rfl
      have c0_1 := S.c 0 1 rfl rfl
      have c1_0 := S.c 1 0 rfl rfl
      have c1_1 := S.c 1 1 rfl rfl
      have c2_0 := S.c 2 0 rfl rfl
      have c2_1 := S.c 2 1 rfl rfl
      have f1_0 := S.f 1 0 rfl
      have H := S.hset 1 0 (.bool (negB D)) rfl rfl (by intro q n e; cases e)
      replace S := S.set 1 0 (.bool (negB D)) rfl
      replace n1 := n1.hold H
      replace n2 := n2.hold H
      replace nD := nD.hold H
      clear H
      have f1_1 := S.f 1 1 rfl
      have H := S.hset 1 1 (.slice pD lD KD) rfl rfl (by intro q n e; cases e)
      replace S := S.set 1 1 (.slice pD lD KD) rfl
      replace n1 := n1.hold H
      replace n2 := n2.hold H
      replace nD := nD.hold H
      clear H
      have c0_0 := S.c 0 0 rfl rfl
      have c0_1 := S.c 0 1 rfl rfl
      have c1_0 := S.c 1 0 rfl rfl
      have c1_1 := S.c 1 1 rfl rfl
      go_wp2_with fail
      clear c0_0 c0_1 c1_0 c1_1 c2_0 c2_1 f1_0 f1_1
      clear c0_0 c0_1 c1_0 c1_1
      refine (S.call (wdiv_to ⟨_, _, _, by rw [← HD.out.2.2.2.1, HD.out.2.2.2.2.2.2.1], by rw [← HD.out.2.2.2.1]; exact n1⟩ ⟨_, _, _, rfl, nD⟩ HQ.out.2.2.2.2.2.1 HQ.out.2.2.2.2.2.2.1 q r HQ.out.2.2.2.2.2.2.2 HQ.out.1 HQ.out.2.1)).mono ?_
      clear S
      rintro e w2 ⟨⟨_, _, rfl, ⟨pq, lq, Kq, rfl, nq⟩, ⟨pr, lr, Kr, rfl, nr⟩⟩, S, H⟩
      replace n1 := n1.hold H
      replace n2 := n2.hold H
      replace nD := nD.hold H
      clear H
      have c0_0 := S.c 0 0 rfl rfl
      have c0_1 := S.c 0 1 rfl rfl
      have c1_0 := S.c 1 0 rfl rfl
      have c1_1 := S.c 1 1 rfl rfl
      have c2_0 := S.c 2 0 rfl rfl
      have c2_1 := S.c 2 1 rfl rfl
      have H := S.hnew 25 [.bool (negB q), .slice pq lq Kq]
      replace S := S.alloc 25 [.bool (negB q), .slice pq lq Kq] (w2.heap.size)
      try simp only [List.cons_append, List.nil_append] at S
      replace n1 := n1.hold H
      replace n2 := n2.hold H
      replace nD := nD.hold H
      replace nq := nq.hold H
      replace nr := nr.hold H
      clear H
      have H := S.hnew 25 [.bool (negB r), .slice pr lr Kr]
      replace S := S.alloc 25 [.bool (negB r), .slice pr lr Kr] (w2.heap.size + 1)
      try simp only [List.cons_append, List.nil_append] at S
      replace n1 := n1.hold H
      replace n2 := n2.hold H
      replace nD := nD.hold H
      replace nq := nq.hold H
      replace nr := nr.hold H
      clear H
      clear c0_0 c0_1 c1_0 c1_1 c2_0 c2_1
      have c0_0 := S.c 0 0 rfl rfl
      have c0_1 := S.c 0 1 rfl rfl
      have c1_0 := S.c 1 0 rfl rfl
      have c1_1 := S.c 1 1 rfl rfl
      have c2_0 := S.c 2 0 rfl rfl
      have c2_1 := S.c 2 1 rfl rfl
      have c3_0 := S.c 3 0 rfl rfl
      have c3_1 := S.c 3 1 rfl rfl
      have c4_0 := S.c 4 0 rfl rfl
      have c4_1 := S.c 4 1 rfl rfl
      go_wp2_with fail
      clear c0_0 c0_1 c1_0 c1_1 c2_0 c2_1 c3_0 c3_1 c4_0 c4_1
      refine (S.call (wsign_any ⟨_, _, _, rfl, nr⟩ HQ.out.2.2.2.1 HG.out)).mono ?_
      clear S
      rintro e w3 ⟨rfl, S, H⟩
      replace n1 := n1.hold H
      replace n2 := n2.hold H
      replace nD := nD.hold H
      replace nq := nq.hold H
      replace nr := nr.hold H
      clear H
      have c0_0 := S.c 0 0 rfl rfl
      have c0_1 := S.c 0 1 rfl rfl
      have c1_0 := S.c 1 0 rfl rfl
      have c1_1 := S.c 1 1 rfl rfl
      have c2_0 := S.c 2 0 rfl rfl
      have c2_1 := S.c 2 1 rfl rfl
      have c3_0 := S.c 3 0 rfl rfl
      have c3_1 := S.c 3 1 rfl rfl
      have c4_0 := S.c 4 0 rfl rfl
      have c4_1 := S.c 4 1 rfl rfl
      subst HZ
      have f2_0 := S.f 2 0 rfl
      have H := S.hset 2 0 (.bool (negB z)) rfl rfl (by intro q n e; cases e)
      replace S := S.set 2 0 (.bool (negB z)) rfl
      replace n1 := n1.hold H
      replace n2 := n2.hold H
      replace nD := nD.hold H
      replace nq := nq.hold H
      replace nr := nr.hold H
      clear H
      have f2_1 := S.f 2 1 rfl
      have H := S.hset 2 1 (.slice pq lq Kq) rfl rfl (by intro q n e; cases e)
      replace S := S.set 2 1 (.slice pq lq Kq) rfl
      replace n1 := n1.hold H
      replace n2 := n2.hold H
      replace nD := nD.hold H
      replace nq := nq.hold H
      replace nr := nr.hold H
      clear H
      go_wp2_with fail
      have d2_0 := S.c 2 0 rfl rfl
      have d2_1 := S.c 2 1 rfl rfl
      exact bodyPost_ret (v := .tuple #[.agg #[.bool (negB z), .slice pq lq Kq], .int .i64 0]) (by simp [results, Tryd.f48, go_sem, d2_0, d2_1]) rfl (⟨⟨_, rfl, pq, lq, Kq, rfl, nq⟩, S.below⟩)

end Go.Proofs.YtnkmcikjeicpfaaDoor

namespace Go.Proofs.YtnkmcikjeicpfaaDoor
open Go.RowKit

theorem divI_le (n : Int) {d : Nat} (hd0 : 0 < d) (up : Bool) : (divI n (d : Int) up).natAbs * d ≤ n.natAbs + d := by
  have h1 := Int.emod_add_mul_ediv n (d : Int)
  have h2 := Int.emod_nonneg n (show (d : Int) ≠ 0 by omega)
  have h3 := Int.emod_lt_of_pos n (show (0 : Int) < (d : Int) by omega)
  unfold divI
  generalize n / (d : Int) = q at *
  generalize n % (d : Int) = r at *
  have h4 : ∀ z : Int, z.natAbs * d = (z * (d : Int)).natAbs := fun z => by rw [Int.natAbs_mul, Int.natAbs_natCast]
  rw [h4]
  split
  · rw [Int.add_mul, Int.mul_comm q]; omega
  · rw [Int.mul_comm q]; omega
theorem divI_bits {n : Int} {d k : Nat} (hd0 : 0 < d) (up : Bool) (h : n.natAbs < d * 2 ^ k) : (divI n (d : Int) up).natAbs ≤ 2 ^ k := by
  have h1 := divI_le n hd0 up
  have h2 : (divI n (d : Int) up).natAbs * d < (2 ^ k + 1) * d := by rw [Nat.add_mul, Nat.one_mul, Nat.mul_comm (2 ^ k)]; omega
  have := Nat.lt_of_mul_lt_mul_right h2
  omega
/-- A whole number times a power of 2, rounded to n bits. -/
def rndZ (z f : Int) (n : Nat) (up : Bool) : Rat := if nbits z.natAbs ≤ n then dq z f else dq (divI z ((2 ^ (nbits z.natAbs - n) : Nat) : Int) up) (f + ((nbits z.natAbs - n : Nat) : Int))
theorem rnd_canon {m e z f : Int} (hc : DyC m e) (h : dq m e = dq z f) (n : Nat) (up : Bool) : rnd m e n up = rndZ z f n up := by
  rcases hc with ⟨h1, h2⟩ | hm
  · subst h1
    rw [dq_zero] at h
    have hz : z = 0 := ((dq_eq 0 z f).1 (by rw [dq_zero]; exact h)).symm
    subst hz
    have h0 : nbits (Int.natAbs 0) = 0 := rfl
    unfold rnd rndZ
    rw [h0, if_pos (Nat.zero_le n), if_pos (Nat.zero_le n), dq_zero, dq_zero]
  · obtain ⟨t, hz, he⟩ := dq_odd hm h
    have hm0 : m.natAbs ≠ 0 := by omega
    have hnb : nbits z.natAbs = nbits m.natAbs + t := by
      rw [hz, Int.natAbs_mul, Int.natAbs_natCast, nbits_shl t hm0]
    unfold rnd rndZ
    rw [hnb]
    obtain ⟨b, hb⟩ : ∃ b, nbits m.natAbs = b := ⟨_, rfl⟩
    rw [hb]
    by_cases h1 : b + t ≤ n
    · rw [if_pos (by omega), if_pos h1, h]
    · rw [if_neg h1]
      by_cases h2 : b ≤ n
      · rw [if_pos h2]
        obtain ⟨v, hv⟩ : ∃ v, b + t - n = v := ⟨_, rfl⟩
        rw [hv]
        obtain ⟨u, hu⟩ : ∃ u, t = u + v := ⟨t - v, by omega⟩
        have hp : (2 ^ t : Nat) = 2 ^ u * 2 ^ v := by rw [hu, Nat.pow_add]
        have h2v := Nat.two_pow_pos v
        have hzv : z = (m * ((2 ^ u : Nat) : Int)) * ((2 ^ v : Nat) : Int) := by rw [hz, hp, Int.natCast_mul, Int.mul_assoc]
        have e1 : divI z ((2 ^ v : Nat) : Int) up = m * ((2 ^ u : Nat) : Int) := by
          unfold divI
          rw [hzv, Int.mul_emod_left, if_neg (by omega)]
          exact Int.mul_ediv_cancel _ (by omega)
        rw [e1, dq_shift, he, hu]
        congr 1; omega
      · rw [if_neg h2]
        obtain ⟨v, hv⟩ : ∃ v, b - n = v + 1 := ⟨b - n - 1, by omega⟩
        rw [hv, show b + t - n = (v + 1) + t by omega]
        have h2t := Nat.two_pow_pos t
        have h2v := Nat.two_pow_pos (v + 1)
        have hpI : (2 : Int) ^ (v + 1) = ((2 ^ (v + 1) : Nat) : Int) := by simp
        have e2 : m % ((2 ^ (v + 1) : Nat) : Int) ≠ 0 := by
          intro e0
          have := Int.dvd_of_emod_eq_zero e0
          rw [Nat.pow_succ, Int.natCast_mul] at this
          have h3 : ((2 : Nat) : Int) ∣ m := Int.dvd_trans (Int.dvd_mul_left _ _) this
          omega
        have e3 := Int.emod_nonneg m (show ((2 ^ (v + 1) : Nat) : Int) ≠ 0 by omega)
        have e4 : z % ((2 ^ (v + 1 + t) : Nat) : Int) = (m % ((2 ^ (v + 1) : Nat) : Int)) * ((2 ^ t : Nat) : Int) := by
          rw [hz, Nat.pow_add, Int.natCast_mul, Int.mul_comm m, Int.mul_comm ((2 ^ (v + 1) : Nat) : Int), Int.mul_emod_mul_of_pos _ _ (by omega), Int.mul_comm]
        have e5 : z / ((2 ^ (v + 1 + t) : Nat) : Int) = m / ((2 ^ (v + 1) : Nat) : Int) := by
          rw [hz, Nat.pow_add, Int.natCast_mul, Int.mul_ediv_mul_of_pos_left _ _ (by omega)]
        have e6 : divI z ((2 ^ (v + 1 + t) : Nat) : Int) up = rndI m (v + 1) up := by
          unfold divI rndI
          rw [e4, e5, hpI]
          have h7 : 0 < m % ((2 ^ (v + 1) : Nat) : Int) * ((2 ^ t : Nat) : Int) := Int.mul_pos (by omega) (by omega)
          cases up
          · rw [if_neg (by rintro ⟨h, _⟩; cases h), if_neg (by decide), Int.add_zero]
          · rw [if_pos ⟨rfl, h7⟩, if_pos rfl]
        rw [e6, he]
        congr 1; omega
/-- What a ratio is near to: num over d times 2 to the t-th, by n bits. -/
def nearV (num : Int) (d t n : Nat) (up : Bool) : Rat :=
  rndZ (divI (num * ((2 ^ ((n : Int) + nbits d - nbits num.natAbs).toNat : Nat) : Int)) ((d : Int) * ((2 ^ (-((n : Int) + nbits d - nbits num.natAbs)).toNat : Nat) : Int)) up) (-((n : Int) + nbits d - nbits num.natAbs) - t) n up

end Go.Proofs.YtnkmcikjeicpfaaDoor

namespace Go.Proofs.YtnkmcikjeicpfaaDoor
open Go.RowKit

theorem tail_uniq {n s t : Nat} (h0 : n ≠ 0) (h : TailIs n s) (g : TailIs n t) : s = t := by
  rcases h with ⟨h, _⟩ | ⟨a, h⟩
  · exact absurd h h0
  rcases g with ⟨g, _⟩ | ⟨b, g⟩
  · exact absurd g h0
  have hi : TailIs n s := .inr ⟨a, h⟩
  have gi : TailIs n t := .inr ⟨b, g⟩
  have h1 := (tail_cut (n := s) h0 gi).1 (by rw [h]; exact Nat.mul_mod_right _ _)
  have h2 := (tail_cut (n := t) h0 hi).1 (by rw [g]; exact Nat.mul_mod_right _ _)
  omega
theorem tail_ex : ∀ (n : Nat), n ≠ 0 → ∃ t, TailIs n t := by
  intro n
  induction n using Nat.strongRecOn with
  | _ n ih =>
    intro h0
    rcases Nat.mod_two_eq_zero_or_one n with h | h
    · obtain ⟨t, ht⟩ := ih (n / 2) (by omega) (by omega)
      rcases ht with ⟨h1, _⟩ | ⟨m, hm⟩
      · omega
      · exact ⟨t + 1, .inr ⟨m, by rw [Nat.pow_succ, Nat.mul_right_comm, ← hm]; omega⟩⟩
    · exact ⟨0, .inr ⟨n / 2, by rw [Nat.pow_zero]; omega⟩⟩

end Go.Proofs.YtnkmcikjeicpfaaDoor
