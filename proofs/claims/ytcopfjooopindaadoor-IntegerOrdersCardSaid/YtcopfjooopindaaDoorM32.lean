/-
  girdlelaw03.IntegerOrders, as a walk: whatever the two numbers, it returns true.
-/
import Derived.Test.YtcopfjooopindaaDoorM23

namespace Go.Proofs.YtcopfjooopindaaDoor
open Go.RowKit

theorem three_orders (x y : Int) : ∃ (c d : Int) (e : Bool), ((c = -1 ∧ d = 1 ∧ e = false) ∨ (c = 0 ∧ d = 0 ∧ e = true) ∨ (c = 1 ∧ d = -1 ∧ e = false)) ∧ cmpI x y = c ∧ cmpI y x = d ∧ cmpI (-y) (-x) = c ∧ (x - y).sign = c ∧ (cmpI x y == 0) = e := by
  rcases Int.lt_trichotomy x y with h | h | h
  · have e1 : cmpI x y = -1 := by unfold cmpI; rw [if_pos h]
    refine ⟨-1, 1, false, .inl ⟨rfl, rfl, rfl⟩, e1, ?_, ?_, Int.sign_eq_neg_one_of_neg (by omega), by rw [e1]; rfl⟩
    · unfold cmpI; rw [if_neg (by omega), if_pos (by omega)]
    · unfold cmpI; rw [if_pos (by omega)]
  · subst h
    have e1 : cmpI x x = 0 := by unfold cmpI; rw [if_neg (by omega), if_neg (by omega)]
    refine ⟨0, 0, true, .inr (.inl ⟨rfl, rfl, rfl⟩), e1, e1, ?_, by rw [Int.sub_self]; rfl, by rw [e1]; rfl⟩
    unfold cmpI; rw [if_neg (by omega), if_neg (by omega)]
  · have e1 : cmpI x y = 1 := by unfold cmpI; rw [if_neg (by omega), if_pos (by omega)]
    refine ⟨1, -1, false, .inr (.inr ⟨rfl, rfl, rfl⟩), e1, ?_, ?_, Int.sign_eq_one_of_pos (by omega), by rw [e1]; rfl⟩
    · unfold cmpI; rw [if_pos (by omega)]
    · unfold cmpI; rw [if_neg (by omega), if_pos (by omega)]

set_option maxRecDepth 100000 in
set_option maxHeartbeats 8000000 in
theorem integerOrders_any (b1 b2 : Bool) (p1 p2 : Option Addr) (K1 K2 : Nat) (ds1 ds2 : List Nat) (w : World) (hT : Tab w) (at1 : At .u32 w p1 K1 ds1) (at2 : At .u32 w p2 K2 ds2) (d1 : Dig 4294967296 ds1) (d2 : Dig 4294967296 ds2) :
    Calls Tryd.prog 7 #[.agg #[.bool b1, .slice p1 ds1.length K1], .agg #[.bool b2, .slice p2 ds2.length K2]] w fun e w' => e = .returned (.bool true) ∧ Below w.heap.size w w' := by
  have HT := Lib.hid hT
  have HD := Lib.hid (And.intro d1 d2)
  obtain ⟨l1, hl1⟩ : ∃ l, ds1.length = l := ⟨_, rfl⟩
  obtain ⟨l2, hl2⟩ : ∃ l, ds2.length = l := ⟨_, rfl⟩
  have HL := Lib.hid (And.intro hl1 hl2)
  rw [hl1, hl2]
  clear hT d1 d2 hl1 hl2
  have S := ((St.start w).alloc 25 [.bool b1, .slice p1 l1 K1] (w.heap.size)).alloc 25 [.bool b2, .slice p2 l2 K2] (w.heap.size + 1)
  replace at1 := at1.hold S.hold
  replace at2 := at2.hold S.hold
  have c0_0 := S.c 0 0 rfl rfl
  have c0_1 := S.c 0 1 rfl rfl
  have c1_0 := S.c 1 0 rfl rfl
  have c1_1 := S.c 1 1 rfl rfl
  go_enter Tryd.func7, Tryd.ntmps7
  go_wp2_with fail
  clear c0_0 c0_1 c1_0 c1_1
  refine (S.call (counts_any _ (HT.out.below S.below))).mono ?_
  clear S
  rintro e w1 ⟨rfl, S, H⟩
  replace at1 := at1.hold H
  replace at2 := at2.hold H
  clear H
  have c0_0 := S.c 0 0 rfl rfl
  have c0_1 := S.c 0 1 rfl rfl
  have c1_0 := S.c 1 0 rfl rfl
  have c1_1 := S.c 1 1 rfl rfl
  have H := S.hnew 25 [.bool b1, .slice p1 l1 K1, .bool b2, .slice p2 l2 K2]
  replace S := S.alloc 25 [.bool b1, .slice p1 l1 K1, .bool b2, .slice p2 l2 K2] (w1.heap.size)
  replace at1 := at1.hold H
  replace at2 := at2.hold H
  clear H
  go_wp2_with fail
  clear c0_0 c0_1 c1_0 c1_1
  refine (S.call (wfit_any _ 2 _ _ _ _ _ (S.lt 2 rfl) (by decide) (raws2 S 2 rfl HL.out.1 HL.out.2 at1 at2 HD.out.1 HD.out.2))).mono ?_
  clear S
  rintro e w2 ⟨⟨b, rfl, hb⟩, S, H⟩
  replace at1 := at1.hold H
  replace at2 := at2.hold H
  clear H
  have c0_0 := S.c 0 0 rfl rfl
  have c0_1 := S.c 0 1 rfl rfl
  have c1_0 := S.c 1 0 rfl rfl
  have c1_1 := S.c 1 1 rfl rfl
  cases b with
  | false =>
    go_wp2_with fail
    exact bodyPost_ret (v := .bool true) (by simp [results, Tryd.f7, go_sem]) rfl (⟨rfl, S.below⟩)
  | true =>
    have t := hb.out rfl
    have T1 : Tried3 30 b1 ds1 := t 0 (by decide)
    have T2 : Tried3 30 b2 ds2 := t 1 (by decide)
    obtain ⟨z1, hz1, hm1, N1⟩ := tried_int T1 HD.out.1 HL.out.1 at1
    obtain ⟨z2, hz2, hm2, N2⟩ := tried_int T2 HD.out.2 HL.out.2 at2
    have M1 := Lib.hid hm1
    have M2 := Lib.hid hm2
    clear at1 at2
    clear t hb T1 T2 hm1 hm2
    obtain ⟨c, d, e, h3, hc1, hc2, hc3, hc4, hc5⟩ := three_orders z1 z2
    have HC := Lib.hid (And.intro hc1 (And.intro hc2 (And.intro hc3 (And.intro hc4 hc5))))
    obtain ⟨sg, hsg⟩ : ∃ s, ((z1.natAbs : Nat) : Int).sign = s := ⟨_, rfl⟩
    have hs0 : 0 ≤ sg := by rw [← hsg]; exact Int.sign_nonneg_iff.2 (by omega)
    have HSG := Lib.hid hsg
    have BD := Lib.hid (nbz_sub M1.out M2.out)
    have BA := Lib.hid (show ((z1.natAbs : Nat) : Int).natAbs < NB 30 by have := M1.out; omega)
    have BN1 := Lib.hid (show (-z1).natAbs < NB 30 by have := M1.out; omega)
    have BN2 := Lib.hid (show (-z2).natAbs < NB 30 by have := M2.out; omega)
    clear hc1 hc2 hc3 hc4 hc5 hsg
    rcases h3 with ⟨rfl, rfl, rfl⟩ | ⟨rfl, rfl, rfl⟩ | ⟨rfl, rfl, rfl⟩
    all_goals
      go_wp2_with fail
      clear c0_0 c0_1 c1_0 c1_1
      refine (S.call (wsub_to ⟨_, _, _, by rw [hz1.out], N1⟩ ⟨_, _, _, by rw [hz2.out], N2⟩ (nb_max M1.out (by decide)) (nb_max M2.out (by decide)) _ rfl (nb_max BD.out (by decide)))).mono ?_
      clear S
      rintro e w3 ⟨⟨_, rfl, pd, ld, Kd, rfl, nd⟩, S, H⟩
      replace N1 := N1.hold H
      replace N2 := N2.hold H
      clear H
      have c0_0 := S.c 0 0 rfl rfl
      have c0_1 := S.c 0 1 rfl rfl
      have c1_0 := S.c 1 0 rfl rfl
      have c1_1 := S.c 1 1 rfl rfl
      have H := S.hnew 25 [.bool (negB (z1 - z2)), .slice pd ld Kd]
      replace S := S.alloc 25 [.bool (negB (z1 - z2)), .slice pd ld Kd] (w3.heap.size)
      replace N1 := N1.hold H
      replace N2 := N2.hold H
      replace nd := nd.hold H
      clear H
      clear c0_0 c0_1 c1_0 c1_1
      have c0_0 := S.c 0 0 rfl rfl
      have c0_1 := S.c 0 1 rfl rfl
      have c1_0 := S.c 1 0 rfl rfl
      have c1_1 := S.c 1 1 rfl rfl
      have c3_0 := S.c 3 0 rfl rfl
      have c3_1 := S.c 3 1 rfl rfl
      go_wp2_with fail
      clear c0_0 c0_1 c1_0 c1_1 c3_0 c3_1
      refine (S.call (wcompare_to ⟨_, _, _, by rw [hz1.out], N1⟩ ⟨_, _, _, by rw [hz2.out], N2⟩ (nb_max M1.out (by decide)) (nb_max M2.out (by decide)) _ HC.out.1)).mono ?_
      clear S
      rintro e w4 ⟨rfl, S, H⟩
      replace N1 := N1.hold H
      replace N2 := N2.hold H
      replace nd := nd.hold H
      clear H
      have c0_0 := S.c 0 0 rfl rfl
      have c0_1 := S.c 0 1 rfl rfl
      have c1_0 := S.c 1 0 rfl rfl
      have c1_1 := S.c 1 1 rfl rfl
      have c3_0 := S.c 3 0 rfl rfl
      have c3_1 := S.c 3 1 rfl rfl
      have hwa : IntKind.i64.wrap (-1) = -1 := by kernel_rfl
      have hwb : IntKind.i64.wrap 0 = 0 := by kernel_rfl
      have hwc : IntKind.i64.wrap 1 = 1 := by kernel_rfl
      go_upto_region 7 with fail
      clear c0_0 c0_1 c1_0 c1_1 c3_0 c3_1
      replace N1 := N1.hold (Hold.drew _)
      replace N2 := N2.hold (Hold.drew _)
      replace nd := nd.hold (Hold.drew _)
      replace S := S.drew
      refine wp_region_held_drew (S := fun W => W.cell? ⟨w3.heap.size, 0, none⟩ = some (.bool (negB (z1 - z2))) ∧ W.cell? ⟨w3.heap.size, 1, none⟩ = some (.slice pd ld Kd) ∧ W.cell? ⟨w.heap.size, 0, none⟩ = some (.bool b1) ∧ W.cell? ⟨w.heap.size, 1, none⟩ = some (.slice p1 l1 K1) ∧ W.cell? ⟨w.heap.size + 1, 0, none⟩ = some (.bool b2) ∧ W.cell? ⟨w.heap.size + 1, 1, none⟩ = some (.slice p2 l2 K2)) (by kernel_rfl) ⟨S.c 3 0 rfl rfl, S.c 3 1 rfl rfl, S.c 0 0 rfl rfl, S.c 0 1 rfl rfl, S.c 1 0 rfl rfl, S.c 1 1 rfl rfl⟩ (fun hS => ?_)
      refine wpAnyH_take (i := 0) (v := ?_) ((List.getElem?_toArray ..).trans rfl) (by kernel_rfl) (by kernel_rfl) (by kernel_rfl) (fun _ _ _ h => h) (Or.inl ⟨rfl, fun W hW => ?_⟩) hS ?_
      rotate_left
      · obtain ⟨hW0, hW1, hW2, hW3, hW4, hW5⟩ := hW; go_simp; try first | rfl | kernel_rfl
      try simp only [Act.put, List.setIfInBounds_toArray, List.set_cons_zero, List.set_cons_succ]
      refine wpAnyH_take (i := 1) (v := ?_) ((List.getElem?_toArray ..).trans rfl) (by kernel_rfl) (by kernel_rfl) (by kernel_rfl) (fun _ _ _ h => h) (Or.inl ⟨rfl, fun W hW => ?_⟩) hS ?_
      rotate_left
      · obtain ⟨hW0, hW1, hW2, hW3, hW4, hW5⟩ := hW; go_simp; try first | rfl | kernel_rfl
      try simp only [Act.put, List.setIfInBounds_toArray, List.set_cons_zero, List.set_cons_succ]
      refine wpAnyH_take (i := 2) (v := ?_) ((List.getElem?_toArray ..).trans rfl) (by kernel_rfl) (by kernel_rfl) (by kernel_rfl) (fun _ _ _ h => h) (Or.inl ⟨rfl, fun W hW => ?_⟩) hS ?_
      rotate_left
      · obtain ⟨hW0, hW1, hW2, hW3, hW4, hW5⟩ := hW; go_simp; try first | rfl | kernel_rfl
      try simp only [Act.put, List.setIfInBounds_toArray, List.set_cons_zero, List.set_cons_succ]
      refine wpAnyH_take (i := 3) (v := ?_) ((List.getElem?_toArray ..).trans rfl) (by kernel_rfl) (by kernel_rfl) (by kernel_rfl) (fun _ _ _ h => h) (Or.inl ⟨rfl, fun W hW => ?_⟩) hS ?_
      rotate_left
      · obtain ⟨hW0, hW1, hW2, hW3, hW4, hW5⟩ := hW; go_simp; try first | rfl | kernel_rfl
      try simp only [Act.put, List.setIfInBounds_toArray, List.set_cons_zero, List.set_cons_succ]
      refine wpAnyH_take (i := 4) (v := ?_) ((List.getElem?_toArray ..).trans rfl) (by kernel_rfl) (by kernel_rfl) (by kernel_rfl) (fun _ _ _ h => h) (Or.inl ⟨rfl, fun W hW => ?_⟩) hS ?_
      rotate_left
      · obtain ⟨hW0, hW1, hW2, hW3, hW4, hW5⟩ := hW; go_simp; try first | rfl | kernel_rfl
      try simp only [Act.put, List.setIfInBounds_toArray, List.set_cons_zero, List.set_cons_succ]
      refine wpAnyH_ready (rs := [5]) (by kernel_rfl) (by simp) (AllReadyH.cons ((List.getElem?_toArray ..).trans rfl) (fun K hK => ?_) AllReadyH.nil)
      go_simp
      refine (S.call (wsign_any ⟨_, _, _, rfl, nd⟩ (nb_max BD.out (by decide)) HC.out.2.2.2.1)).mono ?_; clear S; rintro e w5 ⟨rfl, S, H⟩; replace N1 := N1.hold H; replace N2 := N2.hold H; replace nd := nd.hold H; clear H
      go_wp2_with fail
      refine hK.out _ _ ⟨S.c 3 0 rfl rfl, S.c 3 1 rfl rfl, S.c 0 0 rfl rfl, S.c 0 1 rfl rfl, S.c 1 0 rfl rfl, S.c 1 1 rfl rfl⟩ (fun hS => ?_)
      clear hK K
      try simp only [Act.put, List.setIfInBounds_toArray, List.set_cons_zero, List.set_cons_succ]
      refine wpAnyH_take (i := 6) (v := ?_) ((List.getElem?_toArray ..).trans rfl) (by kernel_rfl) (by kernel_rfl) (by kernel_rfl) (fun _ _ _ h => h) (Or.inl ⟨rfl, fun W hW => ?_⟩) hS ?_
      rotate_left
      · obtain ⟨hW0, hW1, hW2, hW3, hW4, hW5⟩ := hW; go_simp; try first | rfl | kernel_rfl
      try simp only [Act.put, List.setIfInBounds_toArray, List.set_cons_zero, List.set_cons_succ]
      refine wpAnyH_take (i := 7) (v := ?_) ((List.getElem?_toArray ..).trans rfl) (by kernel_rfl) (by kernel_rfl) (by kernel_rfl) (fun _ _ _ h => h) (Or.inl ⟨rfl, fun W hW => ?_⟩) hS ?_
      rotate_left
      · obtain ⟨hW0, hW1, hW2, hW3, hW4, hW5⟩ := hW; go_simp; try first | rfl | kernel_rfl
      try simp only [Act.put, List.setIfInBounds_toArray, List.set_cons_zero, List.set_cons_succ]
      refine wpAnyH_take (i := 8) (v := ?_) ((List.getElem?_toArray ..).trans rfl) (by kernel_rfl) (by kernel_rfl) (by kernel_rfl) (fun _ _ _ h => h) (Or.inl ⟨rfl, fun W hW => ?_⟩) hS ?_
      rotate_left
      · obtain ⟨hW0, hW1, hW2, hW3, hW4, hW5⟩ := hW; go_simp; try first | rfl | kernel_rfl
      try simp only [Act.put, List.setIfInBounds_toArray, List.set_cons_zero, List.set_cons_succ]
      refine wpAnyH_take (i := 9) (v := ?_) ((List.getElem?_toArray ..).trans rfl) (by kernel_rfl) (by kernel_rfl) (by kernel_rfl) (fun _ _ _ h => h) (Or.inl ⟨rfl, fun W hW => ?_⟩) hS ?_
      rotate_left
      · obtain ⟨hW0, hW1, hW2, hW3, hW4, hW5⟩ := hW; go_simp; try first | rfl | kernel_rfl
      try simp only [Act.put, List.setIfInBounds_toArray, List.set_cons_zero, List.set_cons_succ]
      refine wpAnyH_take (i := 10) (v := ?_) ((List.getElem?_toArray ..).trans rfl) (by kernel_rfl) (by kernel_rfl) (by kernel_rfl) (fun _ _ _ h => h) (Or.inl ⟨rfl, fun W hW => ?_⟩) hS ?_
      rotate_left
      · obtain ⟨hW0, hW1, hW2, hW3, hW4, hW5⟩ := hW; go_simp; try first | rfl | kernel_rfl
      try simp only [Act.put, List.setIfInBounds_toArray, List.set_cons_zero, List.set_cons_succ]
      refine wpAnyH_take (i := 11) (v := ?_) ((List.getElem?_toArray ..).trans rfl) (by kernel_rfl) (by kernel_rfl) (by kernel_rfl) (fun _ _ _ h => h) (Or.inl ⟨rfl, fun W hW => ?_⟩) hS ?_
      rotate_left
      · obtain ⟨hW0, hW1, hW2, hW3, hW4, hW5⟩ := hW; go_simp; try first | rfl | kernel_rfl
      try simp only [Act.put, List.setIfInBounds_toArray, List.set_cons_zero, List.set_cons_succ]
      refine wpAnyH_ready (rs := [12]) (by kernel_rfl) (by simp) (AllReadyH.cons ((List.getElem?_toArray ..).trans rfl) (fun K hK => ?_) AllReadyH.nil)
      go_simp
      refine (S.call (wcompare_to ⟨_, _, _, by rw [hz2.out], N2⟩ ⟨_, _, _, by rw [hz1.out], N1⟩ (nb_max M2.out (by decide)) (nb_max M1.out (by decide)) _ HC.out.2.1)).mono ?_; clear S; rintro e w6 ⟨rfl, S, H⟩; replace N1 := N1.hold H; replace N2 := N2.hold H; replace nd := nd.hold H; clear H
      go_wp2_with fail
      refine hK.out _ _ ⟨S.c 3 0 rfl rfl, S.c 3 1 rfl rfl, S.c 0 0 rfl rfl, S.c 0 1 rfl rfl, S.c 1 0 rfl rfl, S.c 1 1 rfl rfl⟩ (fun hS => ?_)
      clear hK K
      try simp only [Act.put, List.setIfInBounds_toArray, List.set_cons_zero, List.set_cons_succ]
      refine wpAnyH_take (i := 13) (v := ?_) ((List.getElem?_toArray ..).trans rfl) (by kernel_rfl) (by kernel_rfl) (by kernel_rfl) (fun _ _ _ h => h) (Or.inl ⟨rfl, fun W hW => ?_⟩) hS ?_
      rotate_left
      · obtain ⟨hW0, hW1, hW2, hW3, hW4, hW5⟩ := hW; go_simp; try first | rfl | kernel_rfl
      try simp only [Act.put, List.setIfInBounds_toArray, List.set_cons_zero, List.set_cons_succ]
      refine wpAnyH_take (i := 14) (v := ?_) ((List.getElem?_toArray ..).trans rfl) (by kernel_rfl) (by kernel_rfl) (by kernel_rfl) (fun _ _ _ h => h) (Or.inl ⟨rfl, fun W hW => ?_⟩) hS ?_
      rotate_left
      · obtain ⟨hW0, hW1, hW2, hW3, hW4, hW5⟩ := hW; go_simp; try first | rfl | kernel_rfl
      try simp only [Act.put, List.setIfInBounds_toArray, List.set_cons_zero, List.set_cons_succ]
      refine wpAnyH_take (i := 15) (v := ?_) ((List.getElem?_toArray ..).trans rfl) (by kernel_rfl) (by kernel_rfl) (by kernel_rfl) (fun _ _ _ h => h) (Or.inl ⟨rfl, fun W hW => ?_⟩) hS ?_
      rotate_left
      · obtain ⟨hW0, hW1, hW2, hW3, hW4, hW5⟩ := hW; go_simp; try first | rfl | kernel_rfl
      try simp only [Act.put, List.setIfInBounds_toArray, List.set_cons_zero, List.set_cons_succ]
      refine wpAnyH_take (i := 16) (v := ?_) ((List.getElem?_toArray ..).trans rfl) (by kernel_rfl) (by kernel_rfl) (by kernel_rfl) (fun _ _ _ h => h) (Or.inl ⟨rfl, fun W hW => ?_⟩) hS ?_
      rotate_left
      · obtain ⟨hW0, hW1, hW2, hW3, hW4, hW5⟩ := hW; go_simp; try first | rfl | kernel_rfl
      try simp only [Act.put, List.setIfInBounds_toArray, List.set_cons_zero, List.set_cons_succ]
      refine wpAnyH_take (i := 17) (v := ?_) ((List.getElem?_toArray ..).trans rfl) (by kernel_rfl) (by kernel_rfl) (by kernel_rfl) (fun _ _ _ h => h) (Or.inl ⟨rfl, fun W hW => ?_⟩) hS ?_
      rotate_left
      · obtain ⟨hW0, hW1, hW2, hW3, hW4, hW5⟩ := hW; go_simp; try first | rfl | kernel_rfl
      try simp only [Act.put, List.setIfInBounds_toArray, List.set_cons_zero, List.set_cons_succ]
      refine wpAnyH_take (i := 18) (v := ?_) ((List.getElem?_toArray ..).trans rfl) (by kernel_rfl) (by kernel_rfl) (by kernel_rfl) (fun _ _ _ h => h) (Or.inl ⟨rfl, fun W hW => ?_⟩) hS ?_
      rotate_left
      · obtain ⟨hW0, hW1, hW2, hW3, hW4, hW5⟩ := hW; go_simp; try first | rfl | kernel_rfl
      try simp only [Act.put, List.setIfInBounds_toArray, List.set_cons_zero, List.set_cons_succ]
      refine wpAnyH_take (i := 20) (v := ?_) ((List.getElem?_toArray ..).trans rfl) (by kernel_rfl) (by kernel_rfl) (by kernel_rfl) (fun _ _ _ h => h) (Or.inl ⟨rfl, fun W hW => ?_⟩) hS ?_
      rotate_left
      · obtain ⟨hW0, hW1, hW2, hW3, hW4, hW5⟩ := hW; go_simp; try first | rfl | kernel_rfl
      try simp only [Act.put, List.setIfInBounds_toArray, List.set_cons_zero, List.set_cons_succ]
      refine wpAnyH_ready (rs := [19]) (by kernel_rfl) (by simp) (AllReadyH.cons ((List.getElem?_toArray ..).trans rfl) (fun K hK => ?_) AllReadyH.nil)
      go_simp
      refine (S.call (wneg_to ⟨_, _, _, by rw [hz2.out], N2⟩ (nb_max M2.out (by decide)) (-z2) rfl)).mono ?_; clear S; rintro e w7 ⟨⟨_, rfl, pa, la, Ka, rfl, na⟩, S, H⟩; replace N1 := N1.hold H; replace N2 := N2.hold H; replace nd := nd.hold H; clear H
      go_wp2_with fail
      refine hK.out _ _ ⟨S.c 3 0 rfl rfl, S.c 3 1 rfl rfl, S.c 0 0 rfl rfl, S.c 0 1 rfl rfl, S.c 1 0 rfl rfl, S.c 1 1 rfl rfl⟩ (fun hS => ?_)
      clear hK K
      try simp only [Act.put, List.setIfInBounds_toArray, List.set_cons_zero, List.set_cons_succ]
      refine wpAnyH_ready (rs := [21]) (by kernel_rfl) (by simp) (AllReadyH.cons ((List.getElem?_toArray ..).trans rfl) (fun K hK => ?_) AllReadyH.nil)
      go_simp
      refine (S.call (wneg_to ⟨_, _, _, by rw [hz1.out], N1⟩ (nb_max M1.out (by decide)) (-z1) rfl)).mono ?_; clear S; rintro e w8 ⟨⟨_, rfl, pb, lb, Kb, rfl, nb⟩, S, H⟩; replace N1 := N1.hold H; replace N2 := N2.hold H; replace nd := nd.hold H; replace na := na.hold H; clear H
      go_wp2_with fail
      refine hK.out _ _ ⟨S.c 3 0 rfl rfl, S.c 3 1 rfl rfl, S.c 0 0 rfl rfl, S.c 0 1 rfl rfl, S.c 1 0 rfl rfl, S.c 1 1 rfl rfl⟩ (fun hS => ?_)
      clear hK K
      try simp only [Act.put, List.setIfInBounds_toArray, List.set_cons_zero, List.set_cons_succ]
      refine wpAnyH_ready (rs := [22]) (by kernel_rfl) (by simp) (AllReadyH.cons ((List.getElem?_toArray ..).trans rfl) (fun K hK => ?_) AllReadyH.nil)
      go_simp
      refine (S.call (wcompare_to ⟨_, _, _, rfl, na⟩ ⟨_, _, _, rfl, nb⟩ (nb_max BN2.out (by decide)) (nb_max BN1.out (by decide)) _ HC.out.2.2.1)).mono ?_; clear S; rintro e w9 ⟨rfl, S, H⟩; replace N1 := N1.hold H; replace N2 := N2.hold H; replace nd := nd.hold H; replace na := na.hold H; replace nb := nb.hold H; clear H
      go_wp2_with fail
      refine hK.out _ _ ⟨S.c 3 0 rfl rfl, S.c 3 1 rfl rfl, S.c 0 0 rfl rfl, S.c 0 1 rfl rfl, S.c 1 0 rfl rfl, S.c 1 1 rfl rfl⟩ (fun hS => ?_)
      clear hK K
      try simp only [Act.put, List.setIfInBounds_toArray, List.set_cons_zero, List.set_cons_succ]
      refine wpAnyH_take (i := 23) (v := ?_) ((List.getElem?_toArray ..).trans rfl) (by kernel_rfl) (by kernel_rfl) (by kernel_rfl) (fun _ _ _ h => h) (Or.inl ⟨rfl, fun W hW => ?_⟩) hS ?_
      rotate_left
      · obtain ⟨hW0, hW1, hW2, hW3, hW4, hW5⟩ := hW; go_simp; try first | rfl | kernel_rfl
      try simp only [Act.put, List.setIfInBounds_toArray, List.set_cons_zero, List.set_cons_succ]
      refine wpAnyH_take (i := 24) (v := ?_) ((List.getElem?_toArray ..).trans rfl) (by kernel_rfl) (by kernel_rfl) (by kernel_rfl) (fun _ _ _ h => h) (Or.inl ⟨rfl, fun W hW => ?_⟩) hS ?_
      rotate_left
      · obtain ⟨hW0, hW1, hW2, hW3, hW4, hW5⟩ := hW; go_simp; try first | rfl | kernel_rfl
      try simp only [Act.put, List.setIfInBounds_toArray, List.set_cons_zero, List.set_cons_succ]
      refine wpAnyH_take (i := 25) (v := ?_) ((List.getElem?_toArray ..).trans rfl) (by kernel_rfl) (by kernel_rfl) (by kernel_rfl) (fun _ _ _ h => h) (Or.inl ⟨rfl, fun W hW => ?_⟩) hS ?_
      rotate_left
      · obtain ⟨hW0, hW1, hW2, hW3, hW4, hW5⟩ := hW; go_simp; try first | rfl | kernel_rfl
      try simp only [Act.put, List.setIfInBounds_toArray, List.set_cons_zero, List.set_cons_succ]
      refine wpAnyH_take (i := 26) (v := ?_) ((List.getElem?_toArray ..).trans rfl) (by kernel_rfl) (by kernel_rfl) (by kernel_rfl) (fun _ _ _ h => h) (Or.inl ⟨rfl, fun W hW => ?_⟩) hS ?_
      rotate_left
      · obtain ⟨hW0, hW1, hW2, hW3, hW4, hW5⟩ := hW; go_simp; try first | rfl | kernel_rfl
      try simp only [Act.put, List.setIfInBounds_toArray, List.set_cons_zero, List.set_cons_succ]
      refine wpAnyH_take (i := 27) (v := ?_) ((List.getElem?_toArray ..).trans rfl) (by kernel_rfl) (by kernel_rfl) (by kernel_rfl) (fun _ _ _ h => h) (Or.inl ⟨rfl, fun W hW => ?_⟩) hS ?_
      rotate_left
      · obtain ⟨hW0, hW1, hW2, hW3, hW4, hW5⟩ := hW; go_simp; try first | rfl | kernel_rfl
      try simp only [Act.put, List.setIfInBounds_toArray, List.set_cons_zero, List.set_cons_succ]
      refine wpAnyH_take (i := 29) (v := ?_) ((List.getElem?_toArray ..).trans rfl) (by kernel_rfl) (by kernel_rfl) (by kernel_rfl) (fun _ _ _ h => h) (Or.inl ⟨rfl, fun W hW => ?_⟩) hS ?_
      rotate_left
      · obtain ⟨hW0, hW1, hW2, hW3, hW4, hW5⟩ := hW; go_simp; try first | rfl | kernel_rfl
      try simp only [Act.put, List.setIfInBounds_toArray, List.set_cons_zero, List.set_cons_succ]
      refine wpAnyH_take (i := 30) (v := ?_) ((List.getElem?_toArray ..).trans rfl) (by kernel_rfl) (by kernel_rfl) (by kernel_rfl) (fun _ _ _ h => h) (Or.inl ⟨rfl, fun W hW => ?_⟩) hS ?_
      rotate_left
      · obtain ⟨hW0, hW1, hW2, hW3, hW4, hW5⟩ := hW; go_simp; try first | rfl | kernel_rfl
      try simp only [Act.put, List.setIfInBounds_toArray, List.set_cons_zero, List.set_cons_succ]
      refine wpAnyH_ready (rs := [28]) (by kernel_rfl) (by simp) (AllReadyH.cons ((List.getElem?_toArray ..).trans rfl) (fun K hK => ?_) AllReadyH.nil)
      go_simp
      refine (S.call (wsame_any ⟨_, _, _, by rw [hz1.out], N1⟩ ⟨_, _, _, by rw [hz2.out], N2⟩ (nb_max M1.out (by decide)) (nb_max M2.out (by decide)) HC.out.2.2.2.2)).mono ?_; clear S; rintro e w10 ⟨rfl, S, H⟩; replace N1 := N1.hold H; replace N2 := N2.hold H; replace nd := nd.hold H; replace na := na.hold H; replace nb := nb.hold H; clear H
      go_wp2_with fail
      refine hK.out _ _ ⟨S.c 3 0 rfl rfl, S.c 3 1 rfl rfl, S.c 0 0 rfl rfl, S.c 0 1 rfl rfl, S.c 1 0 rfl rfl, S.c 1 1 rfl rfl⟩ (fun hS => ?_)
      clear hK K
      try simp only [Act.put, List.setIfInBounds_toArray, List.set_cons_zero, List.set_cons_succ]
      refine wpAnyH_take (i := 31) (v := ?_) ((List.getElem?_toArray ..).trans rfl) (by kernel_rfl) (by kernel_rfl) (by kernel_rfl) (fun _ _ _ h => h) (Or.inl ⟨rfl, fun W hW => ?_⟩) hS ?_
      rotate_left
      · obtain ⟨hW0, hW1, hW2, hW3, hW4, hW5⟩ := hW; go_simp; try first | rfl | kernel_rfl
      try simp only [Act.put, List.setIfInBounds_toArray, List.set_cons_zero, List.set_cons_succ]
      refine wpAnyH_take (i := 32) (v := ?_) ((List.getElem?_toArray ..).trans rfl) (by kernel_rfl) (by kernel_rfl) (by kernel_rfl) (fun _ _ _ h => h) (Or.inl ⟨rfl, fun W hW => ?_⟩) hS ?_
      rotate_left
      · obtain ⟨hW0, hW1, hW2, hW3, hW4, hW5⟩ := hW; go_simp; try first | rfl | kernel_rfl
      try simp only [Act.put, List.setIfInBounds_toArray, List.set_cons_zero, List.set_cons_succ]
      refine wpAnyH_take (i := 33) (v := ?_) ((List.getElem?_toArray ..).trans rfl) (by kernel_rfl) (by kernel_rfl) (by kernel_rfl) (fun _ _ _ h => h) (Or.inl ⟨rfl, fun W hW => ?_⟩) hS ?_
      rotate_left
      · obtain ⟨hW0, hW1, hW2, hW3, hW4, hW5⟩ := hW; go_simp; try first | rfl | kernel_rfl
      try simp only [Act.put, List.setIfInBounds_toArray, List.set_cons_zero, List.set_cons_succ]
      refine wpAnyH_take (i := 34) (v := ?_) ((List.getElem?_toArray ..).trans rfl) (by kernel_rfl) (by kernel_rfl) (by kernel_rfl) (fun _ _ _ h => h) (Or.inl ⟨rfl, fun W hW => ?_⟩) hS ?_
      rotate_left
      · obtain ⟨hW0, hW1, hW2, hW3, hW4, hW5⟩ := hW; go_simp; try first | rfl | kernel_rfl
      try simp only [Act.put, List.setIfInBounds_toArray, List.set_cons_zero, List.set_cons_succ]
      refine wpAnyH_ready (rs := [35]) (by kernel_rfl) (by simp) (AllReadyH.cons ((List.getElem?_toArray ..).trans rfl) (fun K hK => ?_) AllReadyH.nil)
      go_simp
      refine (S.call (wabs_any ⟨_, _, _, by rw [hz1.out], N1⟩ (nb_max M1.out (by decide)) _ rfl)).mono ?_; clear S; rintro e w11 ⟨⟨_, rfl, pc, lc, Kc, rfl, nc⟩, S, H⟩; replace N1 := N1.hold H; replace N2 := N2.hold H; replace nd := nd.hold H; replace na := na.hold H; replace nb := nb.hold H; clear H
      go_wp2_with fail
      refine hK.out _ _ ⟨S.c 3 0 rfl rfl, S.c 3 1 rfl rfl, S.c 0 0 rfl rfl, S.c 0 1 rfl rfl, S.c 1 0 rfl rfl, S.c 1 1 rfl rfl⟩ (fun hS => ?_)
      clear hK K
      try simp only [Act.put, List.setIfInBounds_toArray, List.set_cons_zero, List.set_cons_succ]
      refine wpAnyH_ready (rs := [36]) (by kernel_rfl) (by simp) (AllReadyH.cons ((List.getElem?_toArray ..).trans rfl) (fun K hK => ?_) AllReadyH.nil)
      go_simp
      refine (S.call (wsign_any ⟨_, _, _, rfl, nc⟩ (nb_max BA.out (by decide)) HSG.out)).mono ?_; clear S; rintro e w12 ⟨rfl, S, H⟩; replace N1 := N1.hold H; replace N2 := N2.hold H; replace nd := nd.hold H; replace na := na.hold H; replace nb := nb.hold H; replace nc := nc.hold H; clear H
      go_wp2_with fail
      refine hK.out _ _ ⟨S.c 3 0 rfl rfl, S.c 3 1 rfl rfl, S.c 0 0 rfl rfl, S.c 0 1 rfl rfl, S.c 1 0 rfl rfl, S.c 1 1 rfl rfl⟩ (fun hS => ?_)
      clear hK K
      try simp only [Act.put, List.setIfInBounds_toArray, List.set_cons_zero, List.set_cons_succ]
      refine wpAnyH_take (i := 37) (v := ?_) ((List.getElem?_toArray ..).trans rfl) (by kernel_rfl) (by kernel_rfl) (by kernel_rfl) (fun _ _ _ h => h) (Or.inl ⟨rfl, fun W hW => ?_⟩) hS ?_
      rotate_left
      · obtain ⟨hW0, hW1, hW2, hW3, hW4, hW5⟩ := hW; go_simp; try first | rfl | kernel_rfl
      try simp only [Act.put, List.setIfInBounds_toArray, List.set_cons_zero, List.set_cons_succ]
      refine wpAnyH_take (i := 38) (v := ?_) ((List.getElem?_toArray ..).trans rfl) (by kernel_rfl) (by kernel_rfl) (by kernel_rfl) (fun _ _ _ h => h) (Or.inl ⟨rfl, fun W hW => ?_⟩) hS ?_
      rotate_left
      · obtain ⟨hW0, hW1, hW2, hW3, hW4, hW5⟩ := hW; go_simp; try first | rfl | kernel_rfl
      try simp only [Act.put, List.setIfInBounds_toArray, List.set_cons_zero, List.set_cons_succ]
      refine wpAnyH_take (i := 39) (v := ?_) ((List.getElem?_toArray ..).trans rfl) (by kernel_rfl) (by kernel_rfl) (by kernel_rfl) (fun _ _ _ h => h) (Or.inl ⟨rfl, fun W hW => ?_⟩) hS ?_
      rotate_left
      · obtain ⟨hW0, hW1, hW2, hW3, hW4, hW5⟩ := hW; go_simp; try first | rfl | kernel_rfl
      try simp only [Act.put, List.setIfInBounds_toArray, List.set_cons_zero, List.set_cons_succ]
      refine wpAnyH_take (i := 40) (v := ?_) ((List.getElem?_toArray ..).trans rfl) (by kernel_rfl) (by kernel_rfl) (by kernel_rfl) (fun _ _ _ h => h) (Or.inl ⟨rfl, fun W hW => ?_⟩) hS ?_
      rotate_left
      · obtain ⟨hW0, hW1, hW2, hW3, hW4, hW5⟩ := hW; go_simp; try first | rfl | kernel_rfl
      try simp only [Act.put, List.setIfInBounds_toArray, List.set_cons_zero, List.set_cons_succ]
      refine wpAnyH_take (i := 43) (v := ?_) ((List.getElem?_toArray ..).trans rfl) (by kernel_rfl) (by kernel_rfl) (by kernel_rfl) (fun _ _ _ h => h) (Or.inl ⟨rfl, fun W hW => ?_⟩) hS ?_
      rotate_left
      · obtain ⟨hW0, hW1, hW2, hW3, hW4, hW5⟩ := hW; go_simp; try first | rfl | kernel_rfl
      try simp only [Act.put, List.setIfInBounds_toArray, List.set_cons_zero, List.set_cons_succ]
      refine wpAnyH_ready (rs := [41]) (by kernel_rfl) (by simp) (AllReadyH.cons ((List.getElem?_toArray ..).trans rfl) (fun K hK => ?_) AllReadyH.nil)
      go_simp
      refine (S.call (wneg_to ⟨_, _, _, by rw [hz1.out], N1⟩ (nb_max M1.out (by decide)) (-z1) rfl)).mono ?_; clear S; rintro e w13 ⟨⟨_, rfl, pe, le, Ke, rfl, ne⟩, S, H⟩; replace N1 := N1.hold H; replace N2 := N2.hold H; replace nd := nd.hold H; replace na := na.hold H; replace nb := nb.hold H; replace nc := nc.hold H; clear H
      go_wp2_with fail
      refine hK.out _ _ ⟨S.c 3 0 rfl rfl, S.c 3 1 rfl rfl, S.c 0 0 rfl rfl, S.c 0 1 rfl rfl, S.c 1 0 rfl rfl, S.c 1 1 rfl rfl⟩ (fun hS => ?_)
      clear hK K
      try simp only [Act.put, List.setIfInBounds_toArray, List.set_cons_zero, List.set_cons_succ]
      refine wpAnyH_ready (rs := [42]) (by kernel_rfl) (by simp) (AllReadyH.cons ((List.getElem?_toArray ..).trans rfl) (fun K hK => ?_) AllReadyH.nil)
      go_simp
      refine (S.call (wneg_to ⟨_, _, _, rfl, ne⟩ (nb_max BN1.out (by decide)) z1 (Int.neg_neg z1))).mono ?_; clear S; rintro e w14 ⟨⟨_, rfl, pf, lf, Kf, rfl, nf⟩, S, H⟩; replace N1 := N1.hold H; replace N2 := N2.hold H; replace nd := nd.hold H; replace na := na.hold H; replace nb := nb.hold H; replace nc := nc.hold H; replace ne := ne.hold H; clear H
      go_wp2_with fail
      refine hK.out _ _ ⟨S.c 3 0 rfl rfl, S.c 3 1 rfl rfl, S.c 0 0 rfl rfl, S.c 0 1 rfl rfl, S.c 1 0 rfl rfl, S.c 1 1 rfl rfl⟩ (fun hS => ?_)
      clear hK K
      try simp only [Act.put, List.setIfInBounds_toArray, List.set_cons_zero, List.set_cons_succ]
      refine wpAnyH_ready (rs := [44]) (by kernel_rfl) (by simp) (AllReadyH.cons ((List.getElem?_toArray ..).trans rfl) (fun K hK => ?_) AllReadyH.nil)
      go_simp
      refine (S.call (wsame_any ⟨_, _, _, rfl, nf⟩ ⟨_, _, _, by rw [hz1.out], N1⟩ (nb_max M1.out (by decide)) (nb_max M1.out (by decide)) (r := true) (cmp_same z1))).mono ?_; clear S; rintro e w15 ⟨rfl, S, H⟩; replace N1 := N1.hold H; replace N2 := N2.hold H; replace nd := nd.hold H; replace na := na.hold H; replace nb := nb.hold H; replace nc := nc.hold H; replace ne := ne.hold H; replace nf := nf.hold H; clear H
      go_wp2_with fail
      refine hK.out _ _ ⟨S.c 3 0 rfl rfl, S.c 3 1 rfl rfl, S.c 0 0 rfl rfl, S.c 0 1 rfl rfl, S.c 1 0 rfl rfl, S.c 1 1 rfl rfl⟩ (fun hS => ?_)
      clear hK K
      try simp only [Act.put, List.setIfInBounds_toArray, List.set_cons_zero, List.set_cons_succ]
      refine wpAnyH_take (i := 45) (v := ?_) ((List.getElem?_toArray ..).trans rfl) (by kernel_rfl) (by kernel_rfl) (by kernel_rfl) (fun _ _ _ h => h) (Or.inl ⟨rfl, fun W hW => ?_⟩) hS ?_
      rotate_left
      · obtain ⟨hW0, hW1, hW2, hW3, hW4, hW5⟩ := hW; go_simp; try first | rfl | kernel_rfl
      try simp only [Act.put, List.setIfInBounds_toArray, List.set_cons_zero, List.set_cons_succ]
      refine wpAnyH_ready (rs := [46]) (by kernel_rfl) (by simp) (AllReadyH.cons ((List.getElem?_toArray ..).trans rfl) (fun K hK => ?_) AllReadyH.nil)
      go_simp
      refine hK.out _ _ ⟨S.c 3 0 rfl rfl, S.c 3 1 rfl rfl, S.c 0 0 rfl rfl, S.c 0 1 rfl rfl, S.c 1 0 rfl rfl, S.c 1 1 rfl rfl⟩ (fun hS => ?_)
      clear hK K
      try simp only [Act.put, List.setIfInBounds_toArray, List.set_cons_zero, List.set_cons_succ]
      refine wpAnyH_done (by kernel_rfl) ?_ _
      go_wp2_with fail
      exact bodyPost_ret (v := .bool true) (by simp [results, Tryd.f7, go_sem]) rfl (⟨rfl, S.below⟩)

end Go.Proofs.YtcopfjooopindaaDoor
