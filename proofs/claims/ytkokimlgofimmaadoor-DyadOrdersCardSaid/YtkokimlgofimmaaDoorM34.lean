/-
  girdlelaw05.DyadOrders, as a walk: whatever the two numbers, it returns true.
-/
import Derived.Test.YtkokimlgofimmaaDoorM21
import Derived.Test.YtkokimlgofimmaaDoorM25

namespace Go.Proofs.YtkokimlgofimmaaDoor
open Go.RowKit

theorem three_numbers (x y : Rat) : ∃ (c d g : Int) (r : Bool), ((c = -1 ∧ d = 1 ∧ g = 1 ∧ r = true) ∨ (c = 0 ∧ d = 0 ∧ g = 0 ∧ r = false) ∨ (c = 1 ∧ d = -1 ∧ g = 1 ∧ r = false)) ∧ cmpR x y = c ∧ cmpR y x = d ∧ decide (x < y) = r ∧ cmpR (max2 x y) (min2 x y) = g := by
  rcases rat_three x y with h | h | h
  · refine ⟨-1, 1, 1, true, .inl ⟨rfl, rfl, rfl, rfl⟩, cmpR_lt h, cmpR_gt h, decide_eq_true h, ?_⟩
    unfold max2 min2; rw [if_pos h, if_neg (by grind)]; exact cmpR_gt h
  · subst h
    refine ⟨0, 0, 0, false, .inr (.inl ⟨rfl, rfl, rfl, rfl⟩), cmpR_eq x, cmpR_eq x, decide_eq_false (by grind), ?_⟩
    rw [show max2 x x = x by unfold max2; split <;> rfl, show min2 x x = x by unfold min2; split <;> rfl]; exact cmpR_eq x
  · refine ⟨1, -1, 1, false, .inr (.inr ⟨rfl, rfl, rfl, rfl⟩), cmpR_gt h, cmpR_lt h, decide_eq_false (by grind), ?_⟩
    unfold max2 min2; rw [if_neg (by grind), if_pos h]; exact cmpR_gt h

set_option maxRecDepth 100000 in
set_option maxHeartbeats 16000000 in
theorem dyadOrders_any (bA : Bool) (pA : Option Addr) (KA : Nat) (dsA : List Nat) (eA : Int) (bB : Bool) (pB : Option Addr) (KB : Nat) (dsB : List Nat) (eB : Int) (w : World) (hT : Tab w) (atA : At .u32 w pA KA dsA) (ddA : Dig 4294967296 dsA) (atB : At .u32 w pB KB dsB) (ddB : Dig 4294967296 dsB) :
    Calls Tryd.prog 4 #[.agg #[.bool bA, .slice pA dsA.length KA, .int .i64 eA], .agg #[.bool bB, .slice pB dsB.length KB, .int .i64 eB]] w fun e w' => e = .returned (.bool true) ∧ Below w.heap.size w w' := by
  have HT := Lib.hid hT
  have HDA := Lib.hid ddA
  obtain ⟨lA, hlA⟩ : ∃ l, dsA.length = l := ⟨_, rfl⟩
  have HLA := Lib.hid hlA
  rw [hlA]
  have HDB := Lib.hid ddB
  obtain ⟨lB, hlB⟩ : ∃ l, dsB.length = l := ⟨_, rfl⟩
  have HLB := Lib.hid hlB
  rw [hlB]
  clear hT ddA hlA ddB hlB
  have S := ((St.start w).alloc 30 [.bool bA, .slice pA lA KA, .int .i64 eA] (w.heap.size)).alloc 30 [.bool bB, .slice pB lB KB, .int .i64 eB] (w.heap.size + 1)
  try simp only [List.cons_append, List.nil_append] at S
  replace atA := atA.hold S.hold
  replace atB := atB.hold S.hold
  have c0_0 := S.c 0 0 rfl rfl
  have c0_1 := S.c 0 1 rfl rfl
  have c0_2 := S.c 0 2 rfl rfl
  have c1_0 := S.c 1 0 rfl rfl
  have c1_1 := S.c 1 1 rfl rfl
  have c1_2 := S.c 1 2 rfl rfl
  go_enter Tryd.func4, Tryd.ntmps4
  go_wp2_with fail
  clear c0_0 c0_1 c0_2 c1_0 c1_1 c1_2
  refine (S.call (halves_any _ (HT.out.below S.below))).mono ?_
  clear S
  rintro e w1 ⟨rfl, S, H⟩
  replace atA := atA.hold H
  replace atB := atB.hold H
  clear H
  have c0_0 := S.c 0 0 rfl rfl
  have c0_1 := S.c 0 1 rfl rfl
  have c0_2 := S.c 0 2 rfl rfl
  have c1_0 := S.c 1 0 rfl rfl
  have c1_1 := S.c 1 1 rfl rfl
  have c1_2 := S.c 1 2 rfl rfl
  have H := S.hnew 30 [.bool bA, .slice pA lA KA, .int .i64 eA, .bool bB, .slice pB lB KB, .int .i64 eB]
  replace S := S.alloc 30 [.bool bA, .slice pA lA KA, .int .i64 eA, .bool bB, .slice pB lB KB, .int .i64 eB] (w1.heap.size)
  try simp only [List.cons_append, List.nil_append] at S
  replace atA := atA.hold H
  replace atB := atB.hold H
  clear H
  go_wp2_with fail
  clear c0_0 c0_1 c0_2 c1_0 c1_1 c1_2
  refine (S.call (dfit_any _ 2 _ _ _ _ _ _ (HT.out.below S.below) (S.lt 2 rfl) (by decide) (draws2 S 2 rfl HLA.out HLB.out atA atB HDA.out HDB.out))).mono ?_
  clear S
  rintro e w2 ⟨⟨ok, rfl, hok⟩, S, H⟩
  replace atA := atA.hold H
  replace atB := atB.hold H
  clear H
  have c0_0 := S.c 0 0 rfl rfl
  have c0_1 := S.c 0 1 rfl rfl
  have c0_2 := S.c 0 2 rfl rfl
  have c1_0 := S.c 1 0 rfl rfl
  have c1_1 := S.c 1 1 rfl rfl
  have c1_2 := S.c 1 2 rfl rfl
  cases ok with
  | false =>
    go_wp2_with fail
    exact bodyPost_ret (v := .bool true) (by simp [results, Tryd.f4, go_sem]) rfl (⟨rfl, S.below⟩)
  | true =>
    have t := hok.out rfl
    obtain ⟨mA, zA, hA, nA, dA⟩ := tried_dy (b := bA) (e := eA) (t 0 (by decide)) HDA.out HLA.out atA (by decide)
    obtain ⟨mB, zB, hB, nB, dB⟩ := tried_dy (b := bB) (e := eB) (t 1 (by decide)) HDB.out HLB.out atB (by decide)
    clear atA atB
    clear t hok
    obtain ⟨c, d, g, r, h4, hc1, hc2, hc3, hc4⟩ := three_numbers zA zB
    obtain ⟨s, hs⟩ : ∃ s, zA.num.sign = s := ⟨_, rfl⟩
    have HC := Lib.hid (And.intro hc1 (And.intro hc2 (And.intro hc3 (And.intro hc4 hs))))
    have RX := Lib.hid (rb_dyad dA.out (k := 34) (by decide) (by decide))
    have RY := Lib.hid (rb_dyad dB.out (k := 34) (by decide) (by decide))
    clear hc1 hc2 hc3 hc4 hs
    have hwa : IntKind.i64.wrap (-1) = -1 := by kernel_rfl
    have hwb : IntKind.i64.wrap 0 = 0 := by kernel_rfl
    have hwc : IntKind.i64.wrap 1 = 1 := by kernel_rfl
    rcases h4 with ⟨rfl, rfl, rfl, rfl⟩ | ⟨rfl, rfl, rfl, rfl⟩ | ⟨rfl, rfl, rfl, rfl⟩
    all_goals
      clear c0_0 c0_1 c0_2 c1_0 c1_1 c1_2
      have c0_0 := S.c 0 0 rfl rfl
      have c0_1 := S.c 0 1 rfl rfl
      have c0_2 := S.c 0 2 rfl rfl
      go_wp2_with fail
      clear c0_0 c0_1 c0_2
      refine (S.call (dratio_any ⟨bA, pA, lA, KA, mA, eA, rfl, hA, nA, dA⟩ (by decide))).mono ?_
      clear S
      rintro e w3 ⟨⟨_, rfl, bX, pX, lX, KX, qX, jX, JX, rfl, hX, nX, dX⟩, S, H⟩
      replace nA := nA.hold H
      replace nB := nB.hold H
      clear H
      have c0_0 := S.c 0 0 rfl rfl
      have c0_1 := S.c 0 1 rfl rfl
      have c0_2 := S.c 0 2 rfl rfl
      have H := S.hnew 43 [.bool bX, .slice pX lX KX, .slice qX jX JX]
      replace S := S.alloc 43 [.bool bX, .slice pX lX KX, .slice qX jX JX] (w3.heap.size)
      try simp only [List.cons_append, List.nil_append] at S
      replace nA := nA.hold H
      replace nB := nB.hold H
      replace nX := nX.hold H
      replace dX := dX.hold H
      clear H
      clear c0_0 c0_1 c0_2
      have c1_0 := S.c 1 0 rfl rfl
      have c1_1 := S.c 1 1 rfl rfl
      have c1_2 := S.c 1 2 rfl rfl
      go_wp2_with fail
      generalize (.tuple #[.agg #[.bool bX, .slice pX lX KX, .slice qX jX JX], .int .i64 0] : Value) = g1
      clear c1_0 c1_1 c1_2
      refine (S.call (dratio_any ⟨bB, pB, lB, KB, mB, eB, rfl, hB, nB, dB⟩ (by decide))).mono ?_
      clear S
      rintro e w4 ⟨⟨_, rfl, bY, pY, lY, KY, qY, jY, JY, rfl, hY, nY, dY⟩, S, H⟩
      replace nA := nA.hold H
      replace nB := nB.hold H
      replace nX := nX.hold H
      replace dX := dX.hold H
      clear H
      have c1_0 := S.c 1 0 rfl rfl
      have c1_1 := S.c 1 1 rfl rfl
      have c1_2 := S.c 1 2 rfl rfl
      have H := S.hnew 43 [.bool bY, .slice pY lY KY, .slice qY jY JY]
      replace S := S.alloc 43 [.bool bY, .slice pY lY KY, .slice qY jY JY] (w4.heap.size)
      try simp only [List.cons_append, List.nil_append] at S
      replace nA := nA.hold H
      replace nB := nB.hold H
      replace nX := nX.hold H
      replace dX := dX.hold H
      replace nY := nY.hold H
      replace dY := dY.hold H
      clear H
      clear c1_0 c1_1 c1_2
      have c3_0 := S.c 3 0 rfl rfl
      have c3_1 := S.c 3 1 rfl rfl
      have c3_2 := S.c 3 2 rfl rfl
      have c4_0 := S.c 4 0 rfl rfl
      have c4_1 := S.c 4 1 rfl rfl
      have c4_2 := S.c 4 2 rfl rfl
      go_wp2_with fail
      generalize (.tuple #[.agg #[.bool bY, .slice pY lY KY, .slice qY jY JY], .int .i64 0] : Value) = g2
      clear c3_0 c3_1 c3_2 c4_0 c4_1 c4_2
      refine (S.call (rcompare_any ⟨bX, pX, lX, KX, qX, jX, JX, rfl, hX, nX, dX⟩ ⟨bY, pY, lY, KY, qY, jY, JY, rfl, hY, nY, dY⟩ RX.out RY.out (by decide) _ HC.out.1)).mono ?_
      clear S
      rintro e w5 ⟨rfl, S, H⟩
      replace nA := nA.hold H
      replace nB := nB.hold H
      replace nX := nX.hold H
      replace dX := dX.hold H
      replace nY := nY.hold H
      replace dY := dY.hold H
      clear H
      have c3_0 := S.c 3 0 rfl rfl
      have c3_1 := S.c 3 1 rfl rfl
      have c3_2 := S.c 3 2 rfl rfl
      have c4_0 := S.c 4 0 rfl rfl
      have c4_1 := S.c 4 1 rfl rfl
      have c4_2 := S.c 4 2 rfl rfl
      clear c3_0 c3_1 c3_2 c4_0 c4_1 c4_2
      have c0_0 := S.c 0 0 rfl rfl
      have c0_1 := S.c 0 1 rfl rfl
      have c0_2 := S.c 0 2 rfl rfl
      have c4_0 := S.c 4 0 rfl rfl
      have c4_1 := S.c 4 1 rfl rfl
      have c4_2 := S.c 4 2 rfl rfl
      go_wp2_with fail
      clear c0_0 c0_1 c0_2 c4_0 c4_1 c4_2
      refine (S.call (dcmp_any (k1 := 34) ⟨bA, pA, lA, KA, mA, eA, rfl, hA, nA, dA⟩ ⟨bY, pY, lY, KY, qY, jY, JY, rfl, hY, nY, dY⟩ (by decide) (by decide) RY.out (by decide) _ HC.out.1)).mono ?_
      clear S
      rintro e w6 ⟨rfl, S, H⟩
      replace nA := nA.hold H
      replace nB := nB.hold H
      replace nX := nX.hold H
      replace dX := dX.hold H
      replace nY := nY.hold H
      replace dY := dY.hold H
      clear H
      have c0_0 := S.c 0 0 rfl rfl
      have c0_1 := S.c 0 1 rfl rfl
      have c0_2 := S.c 0 2 rfl rfl
      have c4_0 := S.c 4 0 rfl rfl
      have c4_1 := S.c 4 1 rfl rfl
      have c4_2 := S.c 4 2 rfl rfl
      clear c0_0 c0_1 c0_2 c4_0 c4_1 c4_2
      have c0_0 := S.c 0 0 rfl rfl
      have c0_1 := S.c 0 1 rfl rfl
      have c0_2 := S.c 0 2 rfl rfl
      have c1_0 := S.c 1 0 rfl rfl
      have c1_1 := S.c 1 1 rfl rfl
      have c1_2 := S.c 1 2 rfl rfl
      go_wp2_with fail
      clear c0_0 c0_1 c0_2 c1_0 c1_1 c1_2
      refine (S.call (dcompare_any ⟨bA, pA, lA, KA, mA, eA, rfl, hA, nA, dA⟩ ⟨bB, pB, lB, KB, mB, eB, rfl, hB, nB, dB⟩ (by decide) _ HC.out.1)).mono ?_
      clear S
      rintro e w7 ⟨rfl, S, H⟩
      replace nA := nA.hold H
      replace nB := nB.hold H
      replace nX := nX.hold H
      replace dX := dX.hold H
      replace nY := nY.hold H
      replace dY := dY.hold H
      clear H
      have c0_0 := S.c 0 0 rfl rfl
      have c0_1 := S.c 0 1 rfl rfl
      have c0_2 := S.c 0 2 rfl rfl
      have c1_0 := S.c 1 0 rfl rfl
      have c1_1 := S.c 1 1 rfl rfl
      have c1_2 := S.c 1 2 rfl rfl
      clear c0_0 c0_1 c0_2 c1_0 c1_1 c1_2
      have c0_0 := S.c 0 0 rfl rfl
      have c0_1 := S.c 0 1 rfl rfl
      have c0_2 := S.c 0 2 rfl rfl
      have c1_0 := S.c 1 0 rfl rfl
      have c1_1 := S.c 1 1 rfl rfl
      have c1_2 := S.c 1 2 rfl rfl
      have c3_0 := S.c 3 0 rfl rfl
      have c3_1 := S.c 3 1 rfl rfl
      have c3_2 := S.c 3 2 rfl rfl
      go_upto_region 10 with fail
      clear c0_0 c0_1 c0_2 c1_0 c1_1 c1_2 c3_0 c3_1 c3_2
      replace nA := nA.hold (Hold.drew _)
      replace nB := nB.hold (Hold.drew _)
      replace nX := nX.hold (Hold.drew _)
      replace dX := dX.hold (Hold.drew _)
      replace nY := nY.hold (Hold.drew _)
      replace dY := dY.hold (Hold.drew _)
      replace S := S.drew
      refine wp_region_held_drew (S := fun W => W.cell? ⟨w.heap.size, 0, none⟩ = some (.bool bA) ∧ W.cell? ⟨w.heap.size, 1, none⟩ = some (.slice pA lA KA) ∧ W.cell? ⟨w.heap.size, 2, none⟩ = some (.int .i64 eA) ∧ W.cell? ⟨w.heap.size + 1, 0, none⟩ = some (.bool bB) ∧ W.cell? ⟨w.heap.size + 1, 1, none⟩ = some (.slice pB lB KB) ∧ W.cell? ⟨w.heap.size + 1, 2, none⟩ = some (.int .i64 eB) ∧ W.cell? ⟨w3.heap.size, 0, none⟩ = some (.bool bX) ∧ W.cell? ⟨w3.heap.size, 1, none⟩ = some (.slice pX lX KX) ∧ W.cell? ⟨w3.heap.size, 2, none⟩ = some (.slice qX jX JX)) (by kernel_rfl) ⟨S.c 0 0 rfl rfl, S.c 0 1 rfl rfl, S.c 0 2 rfl rfl, S.c 1 0 rfl rfl, S.c 1 1 rfl rfl, S.c 1 2 rfl rfl, S.c 3 0 rfl rfl, S.c 3 1 rfl rfl, S.c 3 2 rfl rfl⟩ (fun hS => ?_)
      refine wpAnyH_take (i := 0) (v := ?_) ((List.getElem?_toArray ..).trans rfl) (by kernel_rfl) (by kernel_rfl) (by kernel_rfl) (fun _ _ _ h => h) (Or.inl ⟨rfl, fun W hW => ?_⟩) hS ?_
      rotate_left
      · obtain ⟨hW0, hW1, hW2, hW3, hW4, hW5, hW6, hW7, hW8⟩ := hW; go_simp; try first | rfl | (rw [if_neg (by first | omega | (simp only [ByteArray.size_append]; first | omega | (have h1 : (ByteArray.mk #[47]).size = 1 := rfl; omega)))]; try rfl) | kernel_rfl
      try simp only [Act.put, List.setIfInBounds_toArray, List.set_cons_zero, List.set_cons_succ]
      refine wpAnyH_take (i := 1) (v := ?_) ((List.getElem?_toArray ..).trans rfl) (by kernel_rfl) (by kernel_rfl) (by kernel_rfl) (fun _ _ _ h => h) (Or.inl ⟨rfl, fun W hW => ?_⟩) hS ?_
      rotate_left
      · obtain ⟨hW0, hW1, hW2, hW3, hW4, hW5, hW6, hW7, hW8⟩ := hW; go_simp; try first | rfl | (rw [if_neg (by first | omega | (simp only [ByteArray.size_append]; first | omega | (have h1 : (ByteArray.mk #[47]).size = 1 := rfl; omega)))]; try rfl) | kernel_rfl
      try simp only [Act.put, List.setIfInBounds_toArray, List.set_cons_zero, List.set_cons_succ]
      refine wpAnyH_take (i := 2) (v := ?_) ((List.getElem?_toArray ..).trans rfl) (by kernel_rfl) (by kernel_rfl) (by kernel_rfl) (fun _ _ _ h => h) (Or.inl ⟨rfl, fun W hW => ?_⟩) hS ?_
      rotate_left
      · obtain ⟨hW0, hW1, hW2, hW3, hW4, hW5, hW6, hW7, hW8⟩ := hW; go_simp; try first | rfl | (rw [if_neg (by first | omega | (simp only [ByteArray.size_append]; first | omega | (have h1 : (ByteArray.mk #[47]).size = 1 := rfl; omega)))]; try rfl) | kernel_rfl
      try simp only [Act.put, List.setIfInBounds_toArray, List.set_cons_zero, List.set_cons_succ]
      refine wpAnyH_take (i := 3) (v := ?_) ((List.getElem?_toArray ..).trans rfl) (by kernel_rfl) (by kernel_rfl) (by kernel_rfl) (fun _ _ _ h => h) (Or.inl ⟨rfl, fun W hW => ?_⟩) hS ?_
      rotate_left
      · obtain ⟨hW0, hW1, hW2, hW3, hW4, hW5, hW6, hW7, hW8⟩ := hW; go_simp; try first | rfl | (rw [if_neg (by first | omega | (simp only [ByteArray.size_append]; first | omega | (have h1 : (ByteArray.mk #[47]).size = 1 := rfl; omega)))]; try rfl) | kernel_rfl
      try simp only [Act.put, List.setIfInBounds_toArray, List.set_cons_zero, List.set_cons_succ]
      refine wpAnyH_take (i := 4) (v := ?_) ((List.getElem?_toArray ..).trans rfl) (by kernel_rfl) (by kernel_rfl) (by kernel_rfl) (fun _ _ _ h => h) (Or.inl ⟨rfl, fun W hW => ?_⟩) hS ?_
      rotate_left
      · obtain ⟨hW0, hW1, hW2, hW3, hW4, hW5, hW6, hW7, hW8⟩ := hW; go_simp; try first | rfl | (rw [if_neg (by first | omega | (simp only [ByteArray.size_append]; first | omega | (have h1 : (ByteArray.mk #[47]).size = 1 := rfl; omega)))]; try rfl) | kernel_rfl
      try simp only [Act.put, List.setIfInBounds_toArray, List.set_cons_zero, List.set_cons_succ]
      refine wpAnyH_take (i := 5) (v := ?_) ((List.getElem?_toArray ..).trans rfl) (by kernel_rfl) (by kernel_rfl) (by kernel_rfl) (fun _ _ _ h => h) (Or.inl ⟨rfl, fun W hW => ?_⟩) hS ?_
      rotate_left
      · obtain ⟨hW0, hW1, hW2, hW3, hW4, hW5, hW6, hW7, hW8⟩ := hW; go_simp; try first | rfl | (rw [if_neg (by first | omega | (simp only [ByteArray.size_append]; first | omega | (have h1 : (ByteArray.mk #[47]).size = 1 := rfl; omega)))]; try rfl) | kernel_rfl
      try simp only [Act.put, List.setIfInBounds_toArray, List.set_cons_zero, List.set_cons_succ]
      refine wpAnyH_take (i := 6) (v := ?_) ((List.getElem?_toArray ..).trans rfl) (by kernel_rfl) (by kernel_rfl) (by kernel_rfl) (fun _ _ _ h => h) (Or.inl ⟨rfl, fun W hW => ?_⟩) hS ?_
      rotate_left
      · obtain ⟨hW0, hW1, hW2, hW3, hW4, hW5, hW6, hW7, hW8⟩ := hW; go_simp; try first | rfl | (rw [if_neg (by first | omega | (simp only [ByteArray.size_append]; first | omega | (have h1 : (ByteArray.mk #[47]).size = 1 := rfl; omega)))]; try rfl) | kernel_rfl
      try simp only [Act.put, List.setIfInBounds_toArray, List.set_cons_zero, List.set_cons_succ]
      refine wpAnyH_take (i := 7) (v := ?_) ((List.getElem?_toArray ..).trans rfl) (by kernel_rfl) (by kernel_rfl) (by kernel_rfl) (fun _ _ _ h => h) (Or.inl ⟨rfl, fun W hW => ?_⟩) hS ?_
      rotate_left
      · obtain ⟨hW0, hW1, hW2, hW3, hW4, hW5, hW6, hW7, hW8⟩ := hW; go_simp; try first | rfl | (rw [if_neg (by first | omega | (simp only [ByteArray.size_append]; first | omega | (have h1 : (ByteArray.mk #[47]).size = 1 := rfl; omega)))]; try rfl) | kernel_rfl
      try simp only [Act.put, List.setIfInBounds_toArray, List.set_cons_zero, List.set_cons_succ]
      refine wpAnyH_take (i := 8) (v := ?_) ((List.getElem?_toArray ..).trans rfl) (by kernel_rfl) (by kernel_rfl) (by kernel_rfl) (fun _ _ _ h => h) (Or.inl ⟨rfl, fun W hW => ?_⟩) hS ?_
      rotate_left
      · obtain ⟨hW0, hW1, hW2, hW3, hW4, hW5, hW6, hW7, hW8⟩ := hW; go_simp; try first | rfl | (rw [if_neg (by first | omega | (simp only [ByteArray.size_append]; first | omega | (have h1 : (ByteArray.mk #[47]).size = 1 := rfl; omega)))]; try rfl) | kernel_rfl
      try simp only [Act.put, List.setIfInBounds_toArray, List.set_cons_zero, List.set_cons_succ]
      refine wpAnyH_take (i := 9) (v := ?_) ((List.getElem?_toArray ..).trans rfl) (by kernel_rfl) (by kernel_rfl) (by kernel_rfl) (fun _ _ _ h => h) (Or.inl ⟨rfl, fun W hW => ?_⟩) hS ?_
      rotate_left
      · obtain ⟨hW0, hW1, hW2, hW3, hW4, hW5, hW6, hW7, hW8⟩ := hW; go_simp; try first | rfl | (rw [if_neg (by first | omega | (simp only [ByteArray.size_append]; first | omega | (have h1 : (ByteArray.mk #[47]).size = 1 := rfl; omega)))]; try rfl) | kernel_rfl
      try simp only [Act.put, List.setIfInBounds_toArray, List.set_cons_zero, List.set_cons_succ]
      refine wpAnyH_take (i := 10) (v := ?_) ((List.getElem?_toArray ..).trans rfl) (by kernel_rfl) (by kernel_rfl) (by kernel_rfl) (fun _ _ _ h => h) (Or.inl ⟨rfl, fun W hW => ?_⟩) hS ?_
      rotate_left
      · obtain ⟨hW0, hW1, hW2, hW3, hW4, hW5, hW6, hW7, hW8⟩ := hW; go_simp; try first | rfl | (rw [if_neg (by first | omega | (simp only [ByteArray.size_append]; first | omega | (have h1 : (ByteArray.mk #[47]).size = 1 := rfl; omega)))]; try rfl) | kernel_rfl
      try simp only [Act.put, List.setIfInBounds_toArray, List.set_cons_zero, List.set_cons_succ]
      refine wpAnyH_take (i := 11) (v := ?_) ((List.getElem?_toArray ..).trans rfl) (by kernel_rfl) (by kernel_rfl) (by kernel_rfl) (fun _ _ _ h => h) (Or.inl ⟨rfl, fun W hW => ?_⟩) hS ?_
      rotate_left
      · obtain ⟨hW0, hW1, hW2, hW3, hW4, hW5, hW6, hW7, hW8⟩ := hW; go_simp; try first | rfl | (rw [if_neg (by first | omega | (simp only [ByteArray.size_append]; first | omega | (have h1 : (ByteArray.mk #[47]).size = 1 := rfl; omega)))]; try rfl) | kernel_rfl
      try simp only [Act.put, List.setIfInBounds_toArray, List.set_cons_zero, List.set_cons_succ]
      refine wpAnyH_take (i := 12) (v := ?_) ((List.getElem?_toArray ..).trans rfl) (by kernel_rfl) (by kernel_rfl) (by kernel_rfl) (fun _ _ _ h => h) (Or.inl ⟨rfl, fun W hW => ?_⟩) hS ?_
      rotate_left
      · obtain ⟨hW0, hW1, hW2, hW3, hW4, hW5, hW6, hW7, hW8⟩ := hW; go_simp; try first | rfl | (rw [if_neg (by first | omega | (simp only [ByteArray.size_append]; first | omega | (have h1 : (ByteArray.mk #[47]).size = 1 := rfl; omega)))]; try rfl) | kernel_rfl
      try simp only [Act.put, List.setIfInBounds_toArray, List.set_cons_zero, List.set_cons_succ]
      refine wpAnyH_take (i := 13) (v := ?_) ((List.getElem?_toArray ..).trans rfl) (by kernel_rfl) (by kernel_rfl) (by kernel_rfl) (fun _ _ _ h => h) (Or.inl ⟨rfl, fun W hW => ?_⟩) hS ?_
      rotate_left
      · obtain ⟨hW0, hW1, hW2, hW3, hW4, hW5, hW6, hW7, hW8⟩ := hW; go_simp; try first | rfl | (rw [if_neg (by first | omega | (simp only [ByteArray.size_append]; first | omega | (have h1 : (ByteArray.mk #[47]).size = 1 := rfl; omega)))]; try rfl) | kernel_rfl
      try simp only [Act.put, List.setIfInBounds_toArray, List.set_cons_zero, List.set_cons_succ]
      refine wpAnyH_take (i := 14) (v := ?_) ((List.getElem?_toArray ..).trans rfl) (by kernel_rfl) (by kernel_rfl) (by kernel_rfl) (fun _ _ _ h => h) (Or.inl ⟨rfl, fun W hW => ?_⟩) hS ?_
      rotate_left
      · obtain ⟨hW0, hW1, hW2, hW3, hW4, hW5, hW6, hW7, hW8⟩ := hW; go_simp; try first | rfl | (rw [if_neg (by first | omega | (simp only [ByteArray.size_append]; first | omega | (have h1 : (ByteArray.mk #[47]).size = 1 := rfl; omega)))]; try rfl) | kernel_rfl
      try simp only [Act.put, List.setIfInBounds_toArray, List.set_cons_zero, List.set_cons_succ]
      refine wpAnyH_take (i := 15) (v := ?_) ((List.getElem?_toArray ..).trans rfl) (by kernel_rfl) (by kernel_rfl) (by kernel_rfl) (fun _ _ _ h => h) (Or.inl ⟨rfl, fun W hW => ?_⟩) hS ?_
      rotate_left
      · obtain ⟨hW0, hW1, hW2, hW3, hW4, hW5, hW6, hW7, hW8⟩ := hW; go_simp; try first | rfl | (rw [if_neg (by first | omega | (simp only [ByteArray.size_append]; first | omega | (have h1 : (ByteArray.mk #[47]).size = 1 := rfl; omega)))]; try rfl) | kernel_rfl
      try simp only [Act.put, List.setIfInBounds_toArray, List.set_cons_zero, List.set_cons_succ]
      refine wpAnyH_take (i := 16) (v := ?_) ((List.getElem?_toArray ..).trans rfl) (by kernel_rfl) (by kernel_rfl) (by kernel_rfl) (fun _ _ _ h => h) (Or.inl ⟨rfl, fun W hW => ?_⟩) hS ?_
      rotate_left
      · obtain ⟨hW0, hW1, hW2, hW3, hW4, hW5, hW6, hW7, hW8⟩ := hW; go_simp; try first | rfl | (rw [if_neg (by first | omega | (simp only [ByteArray.size_append]; first | omega | (have h1 : (ByteArray.mk #[47]).size = 1 := rfl; omega)))]; try rfl) | kernel_rfl
      try simp only [Act.put, List.setIfInBounds_toArray, List.set_cons_zero, List.set_cons_succ]
      refine wpAnyH_take (i := 17) (v := ?_) ((List.getElem?_toArray ..).trans rfl) (by kernel_rfl) (by kernel_rfl) (by kernel_rfl) (fun _ _ _ h => h) (Or.inl ⟨rfl, fun W hW => ?_⟩) hS ?_
      rotate_left
      · obtain ⟨hW0, hW1, hW2, hW3, hW4, hW5, hW6, hW7, hW8⟩ := hW; go_simp; try first | rfl | (rw [if_neg (by first | omega | (simp only [ByteArray.size_append]; first | omega | (have h1 : (ByteArray.mk #[47]).size = 1 := rfl; omega)))]; try rfl) | kernel_rfl
      try simp only [Act.put, List.setIfInBounds_toArray, List.set_cons_zero, List.set_cons_succ]
      refine wpAnyH_take (i := 18) (v := ?_) ((List.getElem?_toArray ..).trans rfl) (by kernel_rfl) (by kernel_rfl) (by kernel_rfl) (fun _ _ _ h => h) (Or.inl ⟨rfl, fun W hW => ?_⟩) hS ?_
      rotate_left
      · obtain ⟨hW0, hW1, hW2, hW3, hW4, hW5, hW6, hW7, hW8⟩ := hW; go_simp; try first | rfl | (rw [if_neg (by first | omega | (simp only [ByteArray.size_append]; first | omega | (have h1 : (ByteArray.mk #[47]).size = 1 := rfl; omega)))]; try rfl) | kernel_rfl
      try simp only [Act.put, List.setIfInBounds_toArray, List.set_cons_zero, List.set_cons_succ]
      refine wpAnyH_take (i := 19) (v := ?_) ((List.getElem?_toArray ..).trans rfl) (by kernel_rfl) (by kernel_rfl) (by kernel_rfl) (fun _ _ _ h => h) (Or.inl ⟨rfl, fun W hW => ?_⟩) hS ?_
      rotate_left
      · obtain ⟨hW0, hW1, hW2, hW3, hW4, hW5, hW6, hW7, hW8⟩ := hW; go_simp; try first | rfl | (rw [if_neg (by first | omega | (simp only [ByteArray.size_append]; first | omega | (have h1 : (ByteArray.mk #[47]).size = 1 := rfl; omega)))]; try rfl) | kernel_rfl
      try simp only [Act.put, List.setIfInBounds_toArray, List.set_cons_zero, List.set_cons_succ]
      refine wpAnyH_ready (rs := [20]) (by kernel_rfl) (by simp) (AllReadyH.cons ((List.getElem?_toArray ..).trans rfl) (fun KK hKK => ?_) AllReadyH.nil)
      go_simp
      refine (S.call (dcompare_any ⟨bB, pB, lB, KB, mB, eB, rfl, hB, nB, dB⟩ ⟨bA, pA, lA, KA, mA, eA, rfl, hA, nA, dA⟩ (by decide) _ HC.out.2.1)).mono ?_; clear S; rintro e w8 ⟨rfl, S, H⟩; replace nA := nA.hold H; replace nB := nB.hold H; replace nX := nX.hold H; replace dX := dX.hold H; replace nY := nY.hold H; replace dY := dY.hold H; clear H
      go_wp2_with fail
      refine hKK.out _ _ ⟨S.c 0 0 rfl rfl, S.c 0 1 rfl rfl, S.c 0 2 rfl rfl, S.c 1 0 rfl rfl, S.c 1 1 rfl rfl, S.c 1 2 rfl rfl, S.c 3 0 rfl rfl, S.c 3 1 rfl rfl, S.c 3 2 rfl rfl⟩ (fun hS => ?_)
      clear hKK KK
      try simp only [Act.put, List.setIfInBounds_toArray, List.set_cons_zero, List.set_cons_succ]
      refine wpAnyH_take (i := 21) (v := ?_) ((List.getElem?_toArray ..).trans rfl) (by kernel_rfl) (by kernel_rfl) (by kernel_rfl) (fun _ _ _ h => h) (Or.inl ⟨rfl, fun W hW => ?_⟩) hS ?_
      rotate_left
      · obtain ⟨hW0, hW1, hW2, hW3, hW4, hW5, hW6, hW7, hW8⟩ := hW; go_simp; try first | rfl | (rw [if_neg (by first | omega | (simp only [ByteArray.size_append]; first | omega | (have h1 : (ByteArray.mk #[47]).size = 1 := rfl; omega)))]; try rfl) | kernel_rfl
      try simp only [Act.put, List.setIfInBounds_toArray, List.set_cons_zero, List.set_cons_succ]
      refine wpAnyH_take (i := 22) (v := ?_) ((List.getElem?_toArray ..).trans rfl) (by kernel_rfl) (by kernel_rfl) (by kernel_rfl) (fun _ _ _ h => h) (Or.inl ⟨rfl, fun W hW => ?_⟩) hS ?_
      rotate_left
      · obtain ⟨hW0, hW1, hW2, hW3, hW4, hW5, hW6, hW7, hW8⟩ := hW; go_simp; try first | rfl | (rw [if_neg (by first | omega | (simp only [ByteArray.size_append]; first | omega | (have h1 : (ByteArray.mk #[47]).size = 1 := rfl; omega)))]; try rfl) | kernel_rfl
      try simp only [Act.put, List.setIfInBounds_toArray, List.set_cons_zero, List.set_cons_succ]
      refine wpAnyH_take (i := 23) (v := ?_) ((List.getElem?_toArray ..).trans rfl) (by kernel_rfl) (by kernel_rfl) (by kernel_rfl) (fun _ _ _ h => h) (Or.inl ⟨rfl, fun W hW => ?_⟩) hS ?_
      rotate_left
      · obtain ⟨hW0, hW1, hW2, hW3, hW4, hW5, hW6, hW7, hW8⟩ := hW; go_simp; try first | rfl | (rw [if_neg (by first | omega | (simp only [ByteArray.size_append]; first | omega | (have h1 : (ByteArray.mk #[47]).size = 1 := rfl; omega)))]; try rfl) | kernel_rfl
      try simp only [Act.put, List.setIfInBounds_toArray, List.set_cons_zero, List.set_cons_succ]
      refine wpAnyH_take (i := 24) (v := ?_) ((List.getElem?_toArray ..).trans rfl) (by kernel_rfl) (by kernel_rfl) (by kernel_rfl) (fun _ _ _ h => h) (Or.inl ⟨rfl, fun W hW => ?_⟩) hS ?_
      rotate_left
      · obtain ⟨hW0, hW1, hW2, hW3, hW4, hW5, hW6, hW7, hW8⟩ := hW; go_simp; try first | rfl | (rw [if_neg (by first | omega | (simp only [ByteArray.size_append]; first | omega | (have h1 : (ByteArray.mk #[47]).size = 1 := rfl; omega)))]; try rfl) | kernel_rfl
      try simp only [Act.put, List.setIfInBounds_toArray, List.set_cons_zero, List.set_cons_succ]
      refine wpAnyH_take (i := 25) (v := ?_) ((List.getElem?_toArray ..).trans rfl) (by kernel_rfl) (by kernel_rfl) (by kernel_rfl) (fun _ _ _ h => h) (Or.inl ⟨rfl, fun W hW => ?_⟩) hS ?_
      rotate_left
      · obtain ⟨hW0, hW1, hW2, hW3, hW4, hW5, hW6, hW7, hW8⟩ := hW; go_simp; try first | rfl | (rw [if_neg (by first | omega | (simp only [ByteArray.size_append]; first | omega | (have h1 : (ByteArray.mk #[47]).size = 1 := rfl; omega)))]; try rfl) | kernel_rfl
      try simp only [Act.put, List.setIfInBounds_toArray, List.set_cons_zero, List.set_cons_succ]
      refine wpAnyH_take (i := 26) (v := ?_) ((List.getElem?_toArray ..).trans rfl) (by kernel_rfl) (by kernel_rfl) (by kernel_rfl) (fun _ _ _ h => h) (Or.inl ⟨rfl, fun W hW => ?_⟩) hS ?_
      rotate_left
      · obtain ⟨hW0, hW1, hW2, hW3, hW4, hW5, hW6, hW7, hW8⟩ := hW; go_simp; try first | rfl | (rw [if_neg (by first | omega | (simp only [ByteArray.size_append]; first | omega | (have h1 : (ByteArray.mk #[47]).size = 1 := rfl; omega)))]; try rfl) | kernel_rfl
      try simp only [Act.put, List.setIfInBounds_toArray, List.set_cons_zero, List.set_cons_succ]
      refine wpAnyH_take (i := 28) (v := ?_) ((List.getElem?_toArray ..).trans rfl) (by kernel_rfl) (by kernel_rfl) (by kernel_rfl) (fun _ _ _ h => h) (Or.inl ⟨rfl, fun W hW => ?_⟩) hS ?_
      rotate_left
      · obtain ⟨hW0, hW1, hW2, hW3, hW4, hW5, hW6, hW7, hW8⟩ := hW; go_simp; try first | rfl | (rw [if_neg (by first | omega | (simp only [ByteArray.size_append]; first | omega | (have h1 : (ByteArray.mk #[47]).size = 1 := rfl; omega)))]; try rfl) | kernel_rfl
      try simp only [Act.put, List.setIfInBounds_toArray, List.set_cons_zero, List.set_cons_succ]
      refine wpAnyH_take (i := 29) (v := ?_) ((List.getElem?_toArray ..).trans rfl) (by kernel_rfl) (by kernel_rfl) (by kernel_rfl) (fun _ _ _ h => h) (Or.inl ⟨rfl, fun W hW => ?_⟩) hS ?_
      rotate_left
      · obtain ⟨hW0, hW1, hW2, hW3, hW4, hW5, hW6, hW7, hW8⟩ := hW; go_simp; try first | rfl | (rw [if_neg (by first | omega | (simp only [ByteArray.size_append]; first | omega | (have h1 : (ByteArray.mk #[47]).size = 1 := rfl; omega)))]; try rfl) | kernel_rfl
      try simp only [Act.put, List.setIfInBounds_toArray, List.set_cons_zero, List.set_cons_succ]
      refine wpAnyH_ready (rs := [27]) (by kernel_rfl) (by simp) (AllReadyH.cons ((List.getElem?_toArray ..).trans rfl) (fun KK hKK => ?_) AllReadyH.nil)
      go_simp
      refine (S.call (dless_any ⟨bA, pA, lA, KA, mA, eA, rfl, hA, nA, dA⟩ ⟨bB, pB, lB, KB, mB, eB, rfl, hB, nB, dB⟩ (by decide) _ HC.out.2.2.1)).mono ?_; clear S; rintro e w9 ⟨rfl, S, H⟩; replace nA := nA.hold H; replace nB := nB.hold H; replace nX := nX.hold H; replace dX := dX.hold H; replace nY := nY.hold H; replace dY := dY.hold H; clear H
      go_wp2_with fail
      refine hKK.out _ _ ⟨S.c 0 0 rfl rfl, S.c 0 1 rfl rfl, S.c 0 2 rfl rfl, S.c 1 0 rfl rfl, S.c 1 1 rfl rfl, S.c 1 2 rfl rfl, S.c 3 0 rfl rfl, S.c 3 1 rfl rfl, S.c 3 2 rfl rfl⟩ (fun hS => ?_)
      clear hKK KK
      try simp only [Act.put, List.setIfInBounds_toArray, List.set_cons_zero, List.set_cons_succ]
      refine wpAnyH_take (i := 30) (v := ?_) ((List.getElem?_toArray ..).trans rfl) (by kernel_rfl) (by kernel_rfl) (by kernel_rfl) (fun _ _ _ h => h) (Or.inl ⟨rfl, fun W hW => ?_⟩) hS ?_
      rotate_left
      · obtain ⟨hW0, hW1, hW2, hW3, hW4, hW5, hW6, hW7, hW8⟩ := hW; go_simp; try first | rfl | (rw [if_neg (by first | omega | (simp only [ByteArray.size_append]; first | omega | (have h1 : (ByteArray.mk #[47]).size = 1 := rfl; omega)))]; try rfl) | kernel_rfl
      try simp only [Act.put, List.setIfInBounds_toArray, List.set_cons_zero, List.set_cons_succ]
      refine wpAnyH_take (i := 31) (v := ?_) ((List.getElem?_toArray ..).trans rfl) (by kernel_rfl) (by kernel_rfl) (by kernel_rfl) (fun _ _ _ h => h) (Or.inl ⟨rfl, fun W hW => ?_⟩) hS ?_
      rotate_left
      · obtain ⟨hW0, hW1, hW2, hW3, hW4, hW5, hW6, hW7, hW8⟩ := hW; go_simp; try first | rfl | (rw [if_neg (by first | omega | (simp only [ByteArray.size_append]; first | omega | (have h1 : (ByteArray.mk #[47]).size = 1 := rfl; omega)))]; try rfl) | kernel_rfl
      try simp only [Act.put, List.setIfInBounds_toArray, List.set_cons_zero, List.set_cons_succ]
      refine wpAnyH_take (i := 32) (v := ?_) ((List.getElem?_toArray ..).trans rfl) (by kernel_rfl) (by kernel_rfl) (by kernel_rfl) (fun _ _ _ h => h) (Or.inl ⟨rfl, fun W hW => ?_⟩) hS ?_
      rotate_left
      · obtain ⟨hW0, hW1, hW2, hW3, hW4, hW5, hW6, hW7, hW8⟩ := hW; go_simp; try first | rfl | (rw [if_neg (by first | omega | (simp only [ByteArray.size_append]; first | omega | (have h1 : (ByteArray.mk #[47]).size = 1 := rfl; omega)))]; try rfl) | kernel_rfl
      try simp only [Act.put, List.setIfInBounds_toArray, List.set_cons_zero, List.set_cons_succ]
      refine wpAnyH_take (i := 33) (v := ?_) ((List.getElem?_toArray ..).trans rfl) (by kernel_rfl) (by kernel_rfl) (by kernel_rfl) (fun _ _ _ h => h) (Or.inl ⟨rfl, fun W hW => ?_⟩) hS ?_
      rotate_left
      · obtain ⟨hW0, hW1, hW2, hW3, hW4, hW5, hW6, hW7, hW8⟩ := hW; go_simp; try first | rfl | (rw [if_neg (by first | omega | (simp only [ByteArray.size_append]; first | omega | (have h1 : (ByteArray.mk #[47]).size = 1 := rfl; omega)))]; try rfl) | kernel_rfl
      try simp only [Act.put, List.setIfInBounds_toArray, List.set_cons_zero, List.set_cons_succ]
      refine wpAnyH_take (i := 34) (v := ?_) ((List.getElem?_toArray ..).trans rfl) (by kernel_rfl) (by kernel_rfl) (by kernel_rfl) (fun _ _ _ h => h) (Or.inl ⟨rfl, fun W hW => ?_⟩) hS ?_
      rotate_left
      · obtain ⟨hW0, hW1, hW2, hW3, hW4, hW5, hW6, hW7, hW8⟩ := hW; go_simp; try first | rfl | (rw [if_neg (by first | omega | (simp only [ByteArray.size_append]; first | omega | (have h1 : (ByteArray.mk #[47]).size = 1 := rfl; omega)))]; try rfl) | kernel_rfl
      try simp only [Act.put, List.setIfInBounds_toArray, List.set_cons_zero, List.set_cons_succ]
      refine wpAnyH_take (i := 36) (v := ?_) ((List.getElem?_toArray ..).trans rfl) (by kernel_rfl) (by kernel_rfl) (by kernel_rfl) (fun _ _ _ h => h) (Or.inl ⟨rfl, fun W hW => ?_⟩) hS ?_
      rotate_left
      · obtain ⟨hW0, hW1, hW2, hW3, hW4, hW5, hW6, hW7, hW8⟩ := hW; go_simp; try first | rfl | (rw [if_neg (by first | omega | (simp only [ByteArray.size_append]; first | omega | (have h1 : (ByteArray.mk #[47]).size = 1 := rfl; omega)))]; try rfl) | kernel_rfl
      try simp only [Act.put, List.setIfInBounds_toArray, List.set_cons_zero, List.set_cons_succ]
      refine wpAnyH_take (i := 37) (v := ?_) ((List.getElem?_toArray ..).trans rfl) (by kernel_rfl) (by kernel_rfl) (by kernel_rfl) (fun _ _ _ h => h) (Or.inl ⟨rfl, fun W hW => ?_⟩) hS ?_
      rotate_left
      · obtain ⟨hW0, hW1, hW2, hW3, hW4, hW5, hW6, hW7, hW8⟩ := hW; go_simp; try first | rfl | (rw [if_neg (by first | omega | (simp only [ByteArray.size_append]; first | omega | (have h1 : (ByteArray.mk #[47]).size = 1 := rfl; omega)))]; try rfl) | kernel_rfl
      try simp only [Act.put, List.setIfInBounds_toArray, List.set_cons_zero, List.set_cons_succ]
      refine wpAnyH_ready (rs := [35]) (by kernel_rfl) (by simp) (AllReadyH.cons ((List.getElem?_toArray ..).trans rfl) (fun KK hKK => ?_) AllReadyH.nil)
      go_simp
      refine (S.call (dmax_any ⟨bA, pA, lA, KA, mA, eA, rfl, hA, nA, dA⟩ ⟨bB, pB, lB, KB, mB, eB, rfl, hB, nB, dB⟩ (by decide))).mono ?_; clear S; rintro e w10 ⟨⟨_, rfl, bM, pM, lM, KM, mM, eM, rfl, hM, nM, dM⟩, S, H⟩; replace nA := nA.hold H; replace nB := nB.hold H; replace nX := nX.hold H; replace dX := dX.hold H; replace nY := nY.hold H; replace dY := dY.hold H; clear H
      go_wp2_with fail
      refine hKK.out _ _ ⟨S.c 0 0 rfl rfl, S.c 0 1 rfl rfl, S.c 0 2 rfl rfl, S.c 1 0 rfl rfl, S.c 1 1 rfl rfl, S.c 1 2 rfl rfl, S.c 3 0 rfl rfl, S.c 3 1 rfl rfl, S.c 3 2 rfl rfl⟩ (fun hS => ?_)
      clear hKK KK
      try simp only [Act.put, List.setIfInBounds_toArray, List.set_cons_zero, List.set_cons_succ]
      refine wpAnyH_ready (rs := [38]) (by kernel_rfl) (by simp) (AllReadyH.cons ((List.getElem?_toArray ..).trans rfl) (fun KK hKK => ?_) AllReadyH.nil)
      go_simp
      refine (S.call (dmin_any ⟨bA, pA, lA, KA, mA, eA, rfl, hA, nA, dA⟩ ⟨bB, pB, lB, KB, mB, eB, rfl, hB, nB, dB⟩ (by decide))).mono ?_; clear S; rintro e w11 ⟨⟨_, rfl, bN, pN, lN, KN, mN, eN, rfl, hN, nN, dN⟩, S, H⟩; replace nA := nA.hold H; replace nB := nB.hold H; replace nX := nX.hold H; replace dX := dX.hold H; replace nY := nY.hold H; replace dY := dY.hold H; replace nM := nM.hold H; clear H
      go_wp2_with fail
      refine hKK.out _ _ ⟨S.c 0 0 rfl rfl, S.c 0 1 rfl rfl, S.c 0 2 rfl rfl, S.c 1 0 rfl rfl, S.c 1 1 rfl rfl, S.c 1 2 rfl rfl, S.c 3 0 rfl rfl, S.c 3 1 rfl rfl, S.c 3 2 rfl rfl⟩ (fun hS => ?_)
      clear hKK KK
      try simp only [Act.put, List.setIfInBounds_toArray, List.set_cons_zero, List.set_cons_succ]
      refine wpAnyH_ready (rs := [39]) (by kernel_rfl) (by simp) (AllReadyH.cons ((List.getElem?_toArray ..).trans rfl) (fun KK hKK => ?_) AllReadyH.nil)
      go_simp
      refine (S.call (dcompare_any ⟨bM, pM, lM, KM, mM, eM, rfl, hM, nM, dM⟩ ⟨bN, pN, lN, KN, mN, eN, rfl, hN, nN, dN⟩ (by decide) _ HC.out.2.2.2.1)).mono ?_; clear S; rintro e w12 ⟨rfl, S, H⟩; replace nA := nA.hold H; replace nB := nB.hold H; replace nX := nX.hold H; replace dX := dX.hold H; replace nY := nY.hold H; replace dY := dY.hold H; replace nM := nM.hold H; replace nN := nN.hold H; clear H
      go_wp2_with fail
      refine hKK.out _ _ ⟨S.c 0 0 rfl rfl, S.c 0 1 rfl rfl, S.c 0 2 rfl rfl, S.c 1 0 rfl rfl, S.c 1 1 rfl rfl, S.c 1 2 rfl rfl, S.c 3 0 rfl rfl, S.c 3 1 rfl rfl, S.c 3 2 rfl rfl⟩ (fun hS => ?_)
      clear hKK KK
      try simp only [Act.put, List.setIfInBounds_toArray, List.set_cons_zero, List.set_cons_succ]
      refine wpAnyH_take (i := 40) (v := ?_) ((List.getElem?_toArray ..).trans rfl) (by kernel_rfl) (by kernel_rfl) (by kernel_rfl) (fun _ _ _ h => h) (Or.inl ⟨rfl, fun W hW => ?_⟩) hS ?_
      rotate_left
      · obtain ⟨hW0, hW1, hW2, hW3, hW4, hW5, hW6, hW7, hW8⟩ := hW; go_simp; try first | rfl | (rw [if_neg (by first | omega | (simp only [ByteArray.size_append]; first | omega | (have h1 : (ByteArray.mk #[47]).size = 1 := rfl; omega)))]; try rfl) | kernel_rfl
      try simp only [Act.put, List.setIfInBounds_toArray, List.set_cons_zero, List.set_cons_succ]
      refine wpAnyH_take (i := 41) (v := ?_) ((List.getElem?_toArray ..).trans rfl) (by kernel_rfl) (by kernel_rfl) (by kernel_rfl) (fun _ _ _ h => h) (Or.inl ⟨rfl, fun W hW => ?_⟩) hS ?_
      rotate_left
      · obtain ⟨hW0, hW1, hW2, hW3, hW4, hW5, hW6, hW7, hW8⟩ := hW; go_simp; try first | rfl | (rw [if_neg (by first | omega | (simp only [ByteArray.size_append]; first | omega | (have h1 : (ByteArray.mk #[47]).size = 1 := rfl; omega)))]; try rfl) | kernel_rfl
      try simp only [Act.put, List.setIfInBounds_toArray, List.set_cons_zero, List.set_cons_succ]
      refine wpAnyH_take (i := 42) (v := ?_) ((List.getElem?_toArray ..).trans rfl) (by kernel_rfl) (by kernel_rfl) (by kernel_rfl) (fun _ _ _ h => h) (Or.inl ⟨rfl, fun W hW => ?_⟩) hS ?_
      rotate_left
      · obtain ⟨hW0, hW1, hW2, hW3, hW4, hW5, hW6, hW7, hW8⟩ := hW; go_simp; try first | rfl | (rw [if_neg (by first | omega | (simp only [ByteArray.size_append]; first | omega | (have h1 : (ByteArray.mk #[47]).size = 1 := rfl; omega)))]; try rfl) | kernel_rfl
      try simp only [Act.put, List.setIfInBounds_toArray, List.set_cons_zero, List.set_cons_succ]
      refine wpAnyH_take (i := 43) (v := ?_) ((List.getElem?_toArray ..).trans rfl) (by kernel_rfl) (by kernel_rfl) (by kernel_rfl) (fun _ _ _ h => h) (Or.inl ⟨rfl, fun W hW => ?_⟩) hS ?_
      rotate_left
      · obtain ⟨hW0, hW1, hW2, hW3, hW4, hW5, hW6, hW7, hW8⟩ := hW; go_simp; try first | rfl | (rw [if_neg (by first | omega | (simp only [ByteArray.size_append]; first | omega | (have h1 : (ByteArray.mk #[47]).size = 1 := rfl; omega)))]; try rfl) | kernel_rfl
      try simp only [Act.put, List.setIfInBounds_toArray, List.set_cons_zero, List.set_cons_succ]
      refine wpAnyH_take (i := 45) (v := ?_) ((List.getElem?_toArray ..).trans rfl) (by kernel_rfl) (by kernel_rfl) (by kernel_rfl) (fun _ _ _ h => h) (Or.inl ⟨rfl, fun W hW => ?_⟩) hS ?_
      rotate_left
      · obtain ⟨hW0, hW1, hW2, hW3, hW4, hW5, hW6, hW7, hW8⟩ := hW; go_simp; try first | rfl | (rw [if_neg (by first | omega | (simp only [ByteArray.size_append]; first | omega | (have h1 : (ByteArray.mk #[47]).size = 1 := rfl; omega)))]; try rfl) | kernel_rfl
      try simp only [Act.put, List.setIfInBounds_toArray, List.set_cons_zero, List.set_cons_succ]
      refine wpAnyH_ready (rs := [44]) (by kernel_rfl) (by simp) (AllReadyH.cons ((List.getElem?_toArray ..).trans rfl) (fun KK hKK => ?_) AllReadyH.nil)
      go_simp
      refine (S.call (dsign_any ⟨bA, pA, lA, KA, mA, eA, rfl, hA, nA, dA⟩ (by decide) HC.out.2.2.2.2)).mono ?_; clear S; rintro e w13 ⟨rfl, S, H⟩; replace nA := nA.hold H; replace nB := nB.hold H; replace nX := nX.hold H; replace dX := dX.hold H; replace nY := nY.hold H; replace dY := dY.hold H; replace nM := nM.hold H; replace nN := nN.hold H; clear H
      go_wp2_with fail
      refine hKK.out _ _ ⟨S.c 0 0 rfl rfl, S.c 0 1 rfl rfl, S.c 0 2 rfl rfl, S.c 1 0 rfl rfl, S.c 1 1 rfl rfl, S.c 1 2 rfl rfl, S.c 3 0 rfl rfl, S.c 3 1 rfl rfl, S.c 3 2 rfl rfl⟩ (fun hS => ?_)
      clear hKK KK
      try simp only [Act.put, List.setIfInBounds_toArray, List.set_cons_zero, List.set_cons_succ]
      refine wpAnyH_ready (rs := [46]) (by kernel_rfl) (by simp) (AllReadyH.cons ((List.getElem?_toArray ..).trans rfl) (fun KK hKK => ?_) AllReadyH.nil)
      go_simp
      refine (S.call (rsign_any ⟨bX, pX, lX, KX, qX, jX, JX, rfl, hX, nX, dX⟩ (rb_max RX.out (by decide)).1 HC.out.2.2.2.2)).mono ?_; clear S; rintro e w14 ⟨rfl, S, H⟩; replace nA := nA.hold H; replace nB := nB.hold H; replace nX := nX.hold H; replace dX := dX.hold H; replace nY := nY.hold H; replace dY := dY.hold H; replace nM := nM.hold H; replace nN := nN.hold H; clear H
      go_wp2_with fail
      refine hKK.out _ _ ⟨S.c 0 0 rfl rfl, S.c 0 1 rfl rfl, S.c 0 2 rfl rfl, S.c 1 0 rfl rfl, S.c 1 1 rfl rfl, S.c 1 2 rfl rfl, S.c 3 0 rfl rfl, S.c 3 1 rfl rfl, S.c 3 2 rfl rfl⟩ (fun hS => ?_)
      clear hKK KK
      try simp only [Act.put, List.setIfInBounds_toArray, List.set_cons_zero, List.set_cons_succ]
      refine wpAnyH_take (i := 47) (v := ?_) ((List.getElem?_toArray ..).trans rfl) (by kernel_rfl) (by kernel_rfl) (by kernel_rfl) (fun _ _ _ h => h) (Or.inl ⟨rfl, fun W hW => ?_⟩) hS ?_
      rotate_left
      · obtain ⟨hW0, hW1, hW2, hW3, hW4, hW5, hW6, hW7, hW8⟩ := hW; go_simp; try first | rfl | (rw [if_neg (by first | omega | (simp only [ByteArray.size_append]; first | omega | (have h1 : (ByteArray.mk #[47]).size = 1 := rfl; omega)))]; try rfl) | kernel_rfl
      try simp only [Act.put, List.setIfInBounds_toArray, List.set_cons_zero, List.set_cons_succ]
      refine wpAnyH_take (i := 48) (v := ?_) ((List.getElem?_toArray ..).trans rfl) (by kernel_rfl) (by kernel_rfl) (by kernel_rfl) (fun _ _ _ h => h) (Or.inl ⟨rfl, fun W hW => ?_⟩) hS ?_
      rotate_left
      · obtain ⟨hW0, hW1, hW2, hW3, hW4, hW5, hW6, hW7, hW8⟩ := hW; go_simp; try first | rfl | (rw [if_neg (by first | omega | (simp only [ByteArray.size_append]; first | omega | (have h1 : (ByteArray.mk #[47]).size = 1 := rfl; omega)))]; try rfl) | kernel_rfl
      try simp only [Act.put, List.setIfInBounds_toArray, List.set_cons_zero, List.set_cons_succ]
      refine wpAnyH_ready (rs := [49]) (by kernel_rfl) (by simp) (AllReadyH.cons ((List.getElem?_toArray ..).trans rfl) (fun KK hKK => ?_) AllReadyH.nil)
      go_simp
      refine hKK.out _ _ ⟨S.c 0 0 rfl rfl, S.c 0 1 rfl rfl, S.c 0 2 rfl rfl, S.c 1 0 rfl rfl, S.c 1 1 rfl rfl, S.c 1 2 rfl rfl, S.c 3 0 rfl rfl, S.c 3 1 rfl rfl, S.c 3 2 rfl rfl⟩ (fun hS => ?_)
      clear hKK KK
      try simp only [Act.put, List.setIfInBounds_toArray, List.set_cons_zero, List.set_cons_succ]
      refine wpAnyH_done (by kernel_rfl) ?_ _
      go_wp2_with fail
      exact bodyPost_ret (v := .bool true) (by simp [results, Tryd.f4, go_sem]) rfl (⟨rfl, S.below⟩)

end Go.Proofs.YtkokimlgofimmaaDoor
